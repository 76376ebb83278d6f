import PyProof.Rows.All
import Wide.All
import OpenK.AllK
import Wide.FinOn
import Lean
import PyProof.EqAt
import PyProof.EqKinds
import PyProof.TupleCall
import PyProof.ReprRoads
import PyProof.FitsInt
import PySem.Challenge.RW_fewfills_k01_numbers_made
set_option Elab.async false
set_option linter.all false
set_option maxRecDepth 100000
/-! THE HAND LAYER, for ints, bools, texts, own classes, LISTS and tuples (index, slices, in, append, pop ..), calls, loops. Paste it whole ahead of your own text; what your proof does not reach may be deleted. -/
namespace L2
open PySem PySem.Spec PyProof.Rows

/-- a key: an int or a str -/
abbrev Key := Sum Int Str
def keyIs : Key → Value → Bool
  | .inl k, v => Value.isInt k v
  | .inr x, v => Value.isStrOf x v
def keyH (w : World) : Key → Int
  | .inl k => hashInt k
  | .inr x => hashStr w x
theorem keyIs_shape : ∀ {k : Key} {v : Value}, keyIs k v = true → (∃ i t, k = Sum.inl i ∧ v = Value.int i t) ∨ (∃ x t, k = Sum.inr x ∧ v = Value.str x t)
  | .inl i, v, h => by
    obtain ⟨t, e⟩ := Value.isInt_shape (k := i) (v := v) h
    exact .inl ⟨i, t, rfl, e⟩
  | .inr x, v, h => by
    obtain ⟨t, e⟩ := Value.isStrOf_shape (x := x) (v := v) h
    exact .inr ⟨x, t, rfl, e⟩
theorem keyIs_int (i : Int) (t : Tok) : keyIs (.inl i) (.int i t) = true := by simp [keyIs, Value.isInt]
theorem keyIs_str (x : Str) (t : Tok) : keyIs (.inr x) (.str x t) = true := by simp [keyIs, Value.isStrOf]
theorem key_ll (a b : Int) : decide ((Sum.inl a : Key) = Sum.inl b) = (a == b) := by
  by_cases e : a = b
  · subst e; simp
  · have h : ¬ (Sum.inl a : Key) = Sum.inl b := fun q => e (Sum.inl.inj q)
    rw [decide_eq_false h]
    exact (beq_eq_false_iff_ne.mpr e).symm
theorem key_rr (a b : Str) : decide ((Sum.inr a : Key) = Sum.inr b) = decide (a = b) := by
  by_cases e : a = b
  · subst e; simp
  · have h : ¬ (Sum.inr a : Key) = Sum.inr b := fun q => e (Sum.inr.inj q)
    rw [decide_eq_false h, decide_eq_false e]
theorem key_lr (a : Int) (b : Str) : decide ((Sum.inl a : Key) = Sum.inr b) = false := decide_eq_false (fun q => nomatch q)
theorem key_rl (a : Str) (b : Int) : decide ((Sum.inr a : Key) = Sum.inl b) = false := decide_eq_false (fun q => nomatch q)

def mixKind (prog : Program) (w : World) : PySem.KeyKind prog w Key where
  is := keyIs
  hash := keyH w
  inj := fun v a b ha hb => by
    rcases keyIs_shape ha with ⟨i, t, rfl, rfl⟩ | ⟨x, t, rfl, rfl⟩
    · rcases keyIs_shape hb with ⟨j, u, rfl, e⟩ | ⟨y, u, rfl, e⟩
      · injection e with e1 _; rw [e1]
      · exact nomatch e
    · rcases keyIs_shape hb with ⟨j, u, rfl, e⟩ | ⟨y, u, rfl, e⟩
      · exact nomatch e
      · injection e with e1 _; rw [e1]
  byValue := fun k v h => by
    rcases keyIs_shape h with ⟨i, t, rfl, rfl⟩ | ⟨x, t, rfl, rfl⟩ <;> rfl
  pyHash := fun hv h => by
    rcases keyIs_shape hv with ⟨i, t, rfl, rfl⟩ | ⟨x, t, rfl, rfl⟩
    · exact wpAny_pyHash_int h
    · exact wpAny_pyHash_str h
  eqBool := fun hu hv h => by
    rcases keyIs_shape hu with ⟨i, t, rfl, rfl⟩ | ⟨x, t, rfl, rfl⟩
    · rcases keyIs_shape hv with ⟨j, u, rfl, rfl⟩ | ⟨y, u, rfl, rfl⟩
      · rw [key_ll] at h; exact wpAny_eqBool_int h
      · rw [key_lr] at h; exact SeqAt.EqAt.int_str i t y u _ _ _ _ h
    · rcases keyIs_shape hv with ⟨j, u, rfl, rfl⟩ | ⟨y, u, rfl, rfl⟩
      · rw [key_rl] at h; exact SeqAt.EqAt.str_int x t j u _ _ _ _ h
      · rw [key_rr] at h; exact wpAny_eqBool_str h
  «strs» := fun k x t v h => by
    rcases keyIs_shape h with ⟨i, u, rfl, e⟩ | ⟨y, u, rfl, e⟩
    · exact nomatch e
    · injection e with e1 _
      subst e1
      cases v <;> rfl

theorem mixKind_is (prog : Program) (w : World) (k : Key) (v : Value) : (mixKind prog w).is k v = keyIs k v := rfl
theorem mixKind_int (prog : Program) (w : World) (i : Int) (t : Tok) : (mixKind prog w).is (.inl i) (.int i t) = true := keyIs_int i t
theorem mixKind_str (prog : Program) (w : World) (x : Str) (t : Tok) : (mixKind prog w).is (.inr x) (.str x t) = true := keyIs_str x t
end L2

namespace L2
open PySem PySem.Spec PyProof.Rows

/-- a value, without the heap -/
inductive V where
  | non | bl (b : Bool) | int (i : Int) | str (x : Str) | byt (b : Array UInt8) | flt (b : UInt64) | ref (a : Addr) | ty (n : String)
  deriving DecidableEq

def RelV : V → Value → Prop
  | .non, u => u = Value.none
  | .bl b, u => u = Value.bool b
  | .int i, u => ∃ t, u = Value.int i t
  | .str x, u => ∃ t, u = Value.str x t
  | .byt b, u => ∃ t, u = Value.bytes b t
  | .flt b, u => ∃ t, u = Value.float b t
  | .ref a, u => u = Value.ref a
  | .ty n, u => u = Value.type n

abbrev Vals : List V → List Value → Prop := Paired RelV
theorem Vals.length {xs : List V} {us : List Value} (r : Vals xs us) : xs.length = us.length := Paired.length r
theorem Vals.get : ∀ {xs : List V} {us : List Value} {i : Nat} {x : V}, Vals xs us → xs[i]? = some x → ∃ u, us[i]? = some u ∧ RelV x u
  | _, _, _, _, .nil, e => by simp at e
  | _, _, 0, _, .cons r _, e => by simp at e; subst e; exact ⟨_, rfl, r⟩
  | _, _, i + 1, x, .cons _ t, e => by
    obtain ⟨u, h1, h2⟩ := Vals.get (i := i) (x := x) t (by simpa using e)
    exact ⟨u, by simpa using h1, h2⟩
theorem Vals.set {x : V} {u : Value} (r : RelV x u) : ∀ {xs : List V} {us : List Value} (i : Nat), Vals xs us → Vals (xs.set i x) (us.set i u)
  | _, _, _, .nil => .nil
  | _, _, 0, .cons _ t => .cons r t
  | _, _, i + 1, .cons q t => .cons q (Vals.set r i t)
theorem Vals.append : ∀ {xs ys : List V} {us ws : List Value}, Vals xs us → Vals ys ws → Vals (xs ++ ys) (us ++ ws)
  | _, _, _, _, .nil, s => s
  | _, _, _, _, .cons r t, s => .cons r (Vals.append t s)
theorem Vals.take : ∀ {xs : List V} {us : List Value} (n : Nat), Vals xs us → Vals (xs.take n) (us.take n)
  | _, _, 0, _ => .nil
  | _, _, _ + 1, .nil => .nil
  | _, _, n + 1, .cons r t => .cons r (Vals.take n t)
theorem Vals.drop : ∀ {xs : List V} {us : List Value} (n : Nat), Vals xs us → Vals (xs.drop n) (us.drop n)
  | _, _, 0, r => r
  | _, _, _ + 1, .nil => .nil
  | _, _, n + 1, .cons _ t => Vals.drop n t
theorem Vals.none_of : ∀ {xs : List V} {us : List Value} {i : Nat}, Vals xs us → xs[i]? = none → us[i]? = none := fun {xs us i} r e => by
  have h1 := r.length
  have h2 : xs.length ≤ i := List.getElem?_eq_none_iff.mp e
  exact List.getElem?_eq_none_iff.mpr (by omega)

def RelO : Option V → Option Value → Prop
  | some v, some u => RelV v u
  | none, none => True
  | _, _ => False
def KV {κ : Type} : List (κ × V) → List (κ × Value) → Prop := Paired fun (p : κ × V) (q : κ × Value) => p.1 = q.1 ∧ RelV p.2 q.2

/-- a key of a dict (00_mix): an int or a text -/
def kV : Key → V
  | .inl i => .int i
  | .inr x => .str x

/-- what stands at a tracked address -/
inductive HO where
  /-- a list -/
  | lst (xs : List V)
  /-- a tuple (never changes) -/
  | tup (xs : List V)
  /-- a dict whose keys are ints and texts; one whose keys are tuples of ints and texts (the empty one is both) -/
  | dK (kvs : List (Key × V)) | dT (kvs : List (List Key × V))
  /-- a set of ints: its members, its size -/
  | set (S : Int → Bool) (n : Nat)
  /-- an instance of the class at C, its dict at dx, its attributes -/
  | ins (C dx : Addr) (fs : List (Str × V))
  /-- the dict of the instance at x -/
  | own (x : Addr)
  /-- the dict of an exception -/
  | xd (fs : List (Str × V))
  /-- a bound method, f of x -/
  | met (f x : Addr)
  /-- a range object lo, lo + 1, .. below hi -/
  | rng (lo hi : Int)
  /-- a thing that is known to the object (the script; a dict while a loop walks it): read, never written while it is so -/
  | frz (o : Obj) (u : HO)
  /-- a code object's table -/
  | tbl (ps : Array Value)
  /-- any other thing, by what is true of its one object (a def of one's own: SetO a S n := HO.ext fun h => ..) -/
  | ext (φ : Heap → Prop)

abbrev Hp := Addr → Option HO
def upd (H : Hp) (a : Addr) (o : HO) : Hp := fun b => if b = a then some o else H b
theorem upd_same {H : Hp} {a : Addr} {o : HO} : upd H a o a = some o := by unfold upd; rw [if_pos rfl]
theorem upd_ne {H : Hp} {a b : Addr} {o : HO} (h : b ≠ a) : upd H a o b = H b := by unfold upd; rw [if_neg h]
theorem upd_upd {H : Hp} {a : Addr} {o u : HO} : upd (upd H a o) a u = upd H a u := by
  funext b; unfold upd; split <;> rfl
/-- two objects of different content stand apart -/
theorem ne_of {H : Hp} {a b : Addr} {o u : HO} (h : H a = some o) (h' : H b = some u) (d : o ≠ u) : a ≠ b := by
  intro e; subst e; rw [h] at h'; exact d (Option.some.inj h')
theorem ne_of_none {H : Hp} {a b : Addr} {o : HO} (h : H a = some o) (h' : H b = none) : a ≠ b := by
  intro e; subst e; rw [h] at h'; cases h'

section
variable (P : Program) (w : World)
def ObjOk (H : Hp) (h : Heap) (a : Addr) : HO → Prop
  | .lst xs => xs.length ≤ sizeLine ∧ ∃ (its : List Value) (n : Nat), Vals xs its ∧ h.get? a = some { cls := .type "list", data := .seq its.toArray n }
  | .tup xs => xs.length ≤ sizeLine ∧ ∃ its : List Value, Vals xs its ∧ IsTup h a its.toArray
  | .dK kvs => kvs.length ≤ sizeLine ∧ (a == sysModules) = false ∧ ∃ vs, KV kvs vs ∧ h.DictOf (mixKind P w) a vs
  | .dT kvs => kvs.length ≤ sizeLine ∧ (a == sysModules) = false ∧ ∃ xs : List (List Key × Addr × Value),
      Paired (fun (p : List Key × V) (q : List Key × Addr × Value) => p.1 = q.1 ∧ H q.2.1 = some (.tup (p.1.map kV)) ∧ RelV p.2 q.2.2) kvs xs ∧
      ∃ o es ep, h.get? a = some o ∧ o.ExactDict ∧ o.data = .dict es ep ∧ es.toList = xs.map (entryOfKey (tupleKind (mixKind P w))) ∧ (xs.map (·.1)).Nodup
  | .set S n => h.SetOf (intKind P w) a S n
  | .ins C dx fs => H dx = some (.own a) ∧ fs.length ≤ 1000 ∧ dx ≠ a ∧ h.get? a = some (PySem.W.instObj C dx) ∧
      ∃ mA, h.Ns1 dx mA ∧ (∀ f, RelO (fs.lookup f) (mA f)) ∧ PySem.Within mA (fs.map (·.1))
  | .own _ => ∃ o, h.get? a = some o
  | .xd fs => ∃ mA, h.Ns1 a mA ∧ ∀ f, RelO (fs.lookup f) (mA f)
  | .rng lo hi => ∃ t u v, h.get? a = some { cls := .type "range", data := .fields #[.int lo t, .int hi u, .int 1 v] }
  | .frz o u => h.get? a = some o ∧ ObjOk H h a u
  | .tbl ps => h.get? a = some { cls := .none, data := .fields ps }
  | .met f x => h.get? a = some (PySem.W.methodObj (.ref f) (.ref x))
  | .ext φ => φ h ∧ (∃ o, h.get? a = some o) ∧ ∀ h1 h2 : Heap, φ h1 → (∀ o, h1.get? a = some o → h2.get? a = some o) → φ h2
/-- the abstract heap is held -/
def HOk (H : Hp) (h : Heap) : Prop := ∀ a o, H a = some o → ObjOk P w H h a o
end

section
variable {P : Program} {w : World} {H H' : Hp} {h h' : Heap} {a : Addr} {o : HO}
theorem ObjOk.lt (x : ObjOk P w H h a o) : a < h.objs.size := by
  cases o with
  | lst xs => obtain ⟨_, _, _, _, e⟩ := x; exact Heap.lt_size e
  | tup xs => obtain ⟨_, _, _, p⟩ := x; exact p.lt
  | dK kvs => obtain ⟨_, _, _, _, o, _, _, e, _⟩ := x; exact Heap.lt_size e
  | dT kvs => obtain ⟨_, _, _, _, o, _, _, e, _⟩ := x; exact Heap.lt_size e
  | set S n => obtain ⟨o, _, _, _, e, _⟩ := x; exact Heap.lt_size e
  | ins C dx fs => obtain ⟨_, _, _, e, _⟩ := x; exact Heap.lt_size e
  | own y => obtain ⟨_, e⟩ := x; exact Heap.lt_size e
  | xd fs => obtain ⟨_, ⟨_, _, _, e, _⟩, _⟩ := x; exact Heap.lt_size e
  | rng lo hi => obtain ⟨_, _, _, e⟩ := x; exact Heap.lt_size e
  | frz ob u => obtain ⟨e, _⟩ := x; exact Heap.lt_size e
  | tbl ps => exact Heap.lt_size (show h.get? a = some _ from x)
  | met f y => exact Heap.lt_size (show h.get? a = some _ from x)
  | ext φ => obtain ⟨_, ⟨_, e⟩, _⟩ := x; exact Heap.lt_size e
theorem Paired.mapP {α β : Type} {F G : α → β → Prop} : ∀ {l₁ : List α} {l₂ : List β}, Paired F l₁ l₂ → (∀ a b, F a b → G a b) → Paired G l₁ l₂
  | _, _, .nil, _ => .nil
  | _, _, .cons r t, f => .cons (f _ _ r) (Paired.mapP t f)
theorem Paired.imp' {α β : Type} {F G : α → β → Prop} (f : ∀ a b, F a b → G a b) {l₁ : List α} {l₂ : List β} (r : Paired F l₁ l₂) : Paired G l₁ l₂ := Paired.mapP r f
/-- what an object's description leans on: its own object, its own dict, the tuples -/
theorem ObjOk.stay (x : ObjOk P w H h a o) (k : ∀ b u, (b = a ∨ H b = some (.own a)) → h.get? b = some u → h'.get? b = some u)
    (ho : ∀ b, H b = some (.own a) → H' b = some (.own a)) (ht : ∀ b xs, H b = some (.tup xs) → H' b = some (.tup xs)) : ObjOk P w H' h' a o := by
  induction o with
  | lst xs => obtain ⟨z, its, n, r, e⟩ := x; exact ⟨z, its, n, r, k _ _ (.inl rfl) e⟩
  | tup xs => obtain ⟨z, its, r, ob, e, c⟩ := x; exact ⟨z, its, r, ob, k _ _ (.inl rfl) e, c⟩
  | dK kvs => obtain ⟨z, y, vs, r, ob, es, ep, e, c⟩ := x; exact ⟨z, y, vs, r, ob, es, ep, k _ _ (.inl rfl) e, c⟩
  | dT kvs =>
    obtain ⟨z, y, xs, r, ob, es, ep, e, c⟩ := x
    exact ⟨z, y, xs, Paired.mapP r fun p q z => ⟨z.1, ht _ _ z.2.1, z.2.2⟩, ob, es, ep, k _ _ (.inl rfl) e, c⟩
  | set S n => obtain ⟨ob, es, ep, t, e, c⟩ := x; exact ⟨ob, es, ep, t, k _ _ (.inl rfl) e, c⟩
  | ins C dx fs =>
    obtain ⟨d, z, ne, e, mA, ⟨od, es, ep, e2, c⟩, r⟩ := x
    exact ⟨ho _ d, z, ne, k _ _ (.inl rfl) e, mA, ⟨od, es, ep, k _ _ (.inr d) e2, c⟩, r⟩
  | own y => obtain ⟨ob, e⟩ := x; exact ⟨ob, k _ _ (.inl rfl) e⟩
  | xd fs => obtain ⟨mA, ⟨od, es, ep, e, c⟩, r⟩ := x; exact ⟨mA, ⟨od, es, ep, k _ _ (.inl rfl) e, c⟩, r⟩
  | rng lo hi => obtain ⟨t, u, v, e⟩ := x; exact ⟨t, u, v, k _ _ (.inl rfl) e⟩
  | frz ob u ih => obtain ⟨e, q⟩ := x; exact ⟨k _ _ (.inl rfl) e, ih q⟩
  | tbl ps =>
    have e : h.get? a = some { cls := .none, data := .fields ps } := x
    show h'.get? a = some { cls := .none, data := .fields ps }
    exact k a _ (.inl rfl) e
  | met f y =>
    have e : h.get? a = some (PySem.W.methodObj (.ref f) (.ref y)) := x
    show h'.get? a = some (PySem.W.methodObj (.ref f) (.ref y))
    exact k a _ (.inl rfl) e
  | ext φ => obtain ⟨p, ⟨o, e⟩, st⟩ := x; exact ⟨st _ _ p fun o q => k _ _ (.inl rfl) q, ⟨o, k _ _ (.inl rfl) e⟩, st⟩
theorem HOk.lt (x : HOk P w H h) (e : H a = some o) : a < h.objs.size := (x a o e).lt
theorem HOk.fresh (x : HOk P w H h) (e : h.objs.size ≤ a) : H a = none := by
  cases q : H a with
  | none => rfl
  | some u => exact absurd (Nat.lt_of_lt_of_le (x.lt q) e) (Nat.lt_irrefl _)
/-- every object of the heap is kept -/
theorem HOk.kept (x : HOk P w H h) (k : ∀ b u, h.get? b = some u → h'.get? b = some u) : HOk P w H h' := fun a o e =>
  (x a o e).stay (fun b u _ q => k b u q) (fun _ q => q) fun _ _ q => q
/-- a new object is laid and tracked -/
theorem HOk.laid (x : HOk P w H h) (k : ∀ b u, h.get? b = some u → h'.get? b = some u) (hp : h.objs.size ≤ a) (new : ObjOk P w (upd H a o) h' a o) : HOk P w (upd H a o) h' := fun b u e => by
  have hn := x.fresh hp
  by_cases hb : b = a
  · subst hb; rw [upd_same] at e; cases e; exact new
  · rw [upd_ne hb] at e
    exact (x b u e).stay (fun c v _ q => k c v q) (fun c q => by rw [upd_ne (ne_of_none q hn)]; exact q) fun c xs q => by rw [upd_ne (ne_of_none q hn)]; exact q
end

/-- what may be read as u: it is u, or a known u -/
def Rd (H : Hp) (a : Addr) (u : HO) : Prop := H a = some u ∨ ∃ o, H a = some (.frz o u)
theorem Rd.of {H : Hp} {a : Addr} {u : HO} (h : H a = some u) : Rd H a u := .inl h
theorem Rd.ok {P : Program} {w : World} {H : Hp} {h : Heap} {a : Addr} {u : HO} (r : Rd H a u) (x : HOk P w H h) : ObjOk P w H h a u := by
  rcases r with r | ⟨o, r⟩
  · exact x a u r
  · obtain ⟨_, q⟩ := x a _ r
    exact q
/-- what may be written -/
def Mut : Option HO → Prop
  | some (.lst _) => True
  | some (.dK _) => True
  | some (.dT _) => True
  | some (.set _ _) => True
  | some (.ins _ _ _) => True
  | some (.ext _) => True
  | _ => False
section
variable {P : Program} {w : World} {H : Hp} {h h' : Heap} {x e : Addr} {o' : HO}
/-- the object at e is changed: x itself, or the dict of the instance x -/
theorem HOk.write (ok : HOk P w H h) (mu : Mut (H x)) (he : e = x ∨ H e = some (.own x)) (k : ∀ b u, b ≠ e → h.get? b = some u → h'.get? b = some u) (heo : ∃ u, h'.get? e = some u)
    (new : ObjOk P w (upd H x o') h' x o') : HOk P w (upd H x o') h' := fun b u q => by
  have nown : ∀ c y, H c = some (.own y) → c ≠ x := fun c y r z => by subst z; rw [r] at mu; exact mu
  have ntup : ∀ c xs, H c = some (.tup xs) → c ≠ x := fun c xs r z => by subst z; rw [r] at mu; exact mu
  by_cases hb : b = x
  · subst hb; rw [upd_same] at q; cases q; exact new
  · rw [upd_ne hb] at q
    by_cases hbe : b = e
    · have q' : H b = some (.own x) := by
        rcases he with z | z
        · exact absurd (hbe.trans z) hb
        · rw [hbe]; exact z
      rw [q] at q'; cases q'
      obtain ⟨v, hv⟩ := heo
      exact ⟨v, by rw [hbe]; exact hv⟩
    · refine (ok b u q).stay (fun c v hc r => k c v ?_ r) (fun c r => by rw [upd_ne (nown c b r)]; exact r) fun c xs r => by rw [upd_ne (ntup c xs r)]; exact r
      rcases hc with rfl | hc
      · exact hbe
      · rintro rfl
        rcases he with z | z
        · exact nown c b hc z
        · rw [hc] at z; cases z; exact hb rfl
end

/-! ### kept unless tracked; of the frames at fs (the callers') the slots may change (an exception that passes writes there); of the records at ex (iterators) nothing is said -/
structure Un (fs ex : List Addr) (H H' : Hp) (h h' : Heap) : Prop where
  keep : ∀ b o, h.get? b = some o → H b = none → b ∉ fs → b ∉ ex → h'.get? b = some o
  slot : ∀ b o, h.get? b = some o → H b = none → b ∈ fs → b ∉ ex → ∃ sl, h'.get? b = some { o with slots := sl }
  free : ∀ b o, h.get? b = some o → H b = none → b ∉ ex → H' b = none
  there : ∀ b o, h.get? b = some o → b ∉ ex → ∃ o', h'.get? b = some o'
  tups : ∀ b xs, H b = some (.tup xs) → H' b = some (.tup xs)
  frzs : ∀ b o u, H b = some (.frz o u) → H' b = some (.frz o u)
  tbls : ∀ b ps, H b = some (.tbl ps) → ∃ more, H' b = some (.tbl (ps ++ more))
section
variable {fs fs' ex ex' : List Addr} {H H1 H2 : Hp} {h h1 h2 h' : Heap} {a x e : Addr} {o : HO}
theorem Un.any (u : Un fs ex H H1 h h1) {b : Addr} {ob : Obj} (q : h.get? b = some ob) (n : H b = none) (hx : b ∉ ex) : ∃ sl, h1.get? b = some { ob with slots := sl } := by
  by_cases hb : b ∈ fs
  · exact u.slot b ob q n hb hx
  · exact ⟨ob.slots, u.keep b ob q n hb hx⟩
theorem Un.trans (a : Un fs ex H H1 h h1) (b : Un fs ex H1 H2 h1 h2) : Un fs ex H H2 h h2 where
  keep := fun c ob q n hc hx => b.keep c ob (a.keep c ob q n hc hx) (a.free c ob q n hx) hc hx
  slot := fun c ob q n hc hx => by
    obtain ⟨sl, e1⟩ := a.slot c ob q n hc hx
    obtain ⟨sl', e2⟩ := b.slot c _ e1 (a.free c ob q n hx) hc hx
    exact ⟨sl', e2⟩
  free := fun c ob q n hx => by
    obtain ⟨o', e1⟩ := a.there c ob q hx
    exact b.free c o' e1 (a.free c ob q n hx) hx
  there := fun c ob q hx => by
    obtain ⟨o', e1⟩ := a.there c ob q hx
    exact b.there c o' e1 hx
  tups := fun c xs q => b.tups c xs (a.tups c xs q)
  frzs := fun c ob xs q => b.frzs c ob xs (a.frzs c ob xs q)
  tbls := fun c ps q => by
    obtain ⟨m1, e1⟩ := a.tbls c ps q
    obtain ⟨m2, e2⟩ := b.tbls c _ e1
    exact ⟨m1 ++ m2, by rw [e2, Array.append_assoc]⟩
theorem Un.kept (k : ∀ b u, h.get? b = some u → h'.get? b = some u) : Un fs ex H H h h' :=
  ⟨fun b ob q _ _ _ => k b ob q, fun b ob q _ _ _ => ⟨ob.slots, k b ob q⟩, fun _ _ _ n _ => n, fun b ob q _ => ⟨ob, k b ob q⟩, fun _ _ q => q, fun _ _ _ q => q, fun _ ps q => ⟨#[], by rw [q]; simp⟩⟩
theorem Un.refl : Un fs ex H H h h := Un.kept fun _ _ q => q
theorem Un.laid (k : ∀ b u, h.get? b = some u → h'.get? b = some u) (hp : h.objs.size ≤ a) (hn : H a = none) : Un fs ex H (upd H a o) h h' where
  keep := fun b u q _ _ _ => k b u q
  slot := fun b u q _ _ _ => ⟨u.slots, k b u q⟩
  free := fun b u q n _ => by rw [upd_ne (Nat.ne_of_lt (Nat.lt_of_lt_of_le (Heap.lt_size q) hp))]; exact n
  there := fun b u q _ => ⟨u, k b u q⟩
  tups := fun b xs q => by rw [upd_ne (ne_of_none q hn)]; exact q
  frzs := fun b u xs q => by rw [upd_ne (ne_of_none q hn)]; exact q
  tbls := fun b ps q => ⟨#[], by rw [upd_ne (ne_of_none q hn), q]; simp⟩
theorem Un.write (mu : Mut (H x)) (he : e = x ∨ H e = some (.own x)) (k : ∀ b u, b ≠ e → h.get? b = some u → h'.get? b = some u) (heo : ∃ u, h'.get? e = some u) : Un fs ex H (upd H x o) h h' := by
  have hx : ∀ b, H b = none → b ≠ x := fun b n z => by subst z; rw [n] at mu; exact mu
  have hb : ∀ b, H b = none → b ≠ e := fun b n z => by
    subst z
    rcases he with r | r
    · exact hx b n r
    · rw [n] at r; cases r
  have hm : ∀ b u, H b = some u → ¬ Mut (some u) → b ≠ x := fun b u q nm z => by subst z; rw [q] at mu; exact nm mu
  refine ⟨fun b u q n _ _ => k b u (hb b n) q, fun b u q n _ _ => ⟨u.slots, k b u (hb b n) q⟩, fun b u q n _ => by rw [upd_ne (hx b n)]; exact n, fun b u q _ => ?_,
    fun b xs q => by rw [upd_ne (hm b _ q fun z => z)]; exact q, fun b u xs q => by rw [upd_ne (hm b _ q fun z => z)]; exact q, fun b ps q => ⟨#[], by rw [upd_ne (hm b _ q fun z => z), q]; simp⟩⟩
  by_cases hbe : b = e
  · subst hbe; exact heo
  · exact ⟨u, k b u hbe q⟩
theorem Un.mono (u : Un fs ex H H1 h h1) (hs : ∀ b ∈ fs, b ∈ fs') (hx : ∀ b ∈ ex, b ∈ ex') : Un fs' ex' H H1 h h1 :=
  ⟨fun b ob q n hb he => u.keep b ob q n (fun z => hb (hs b z)) fun z => he (hx b z), fun _ _ q n _ he => u.any q n fun z => he (hx _ z), fun b ob q n he => u.free b ob q n fun z => he (hx b z), fun b ob q he => u.there b ob q fun z => he (hx b z), u.tups, u.frzs, u.tbls⟩
end

/-! ### the heap without what is tracked -/
def trk (h : Heap) (H : Hp) : List Addr := (List.range h.objs.size).filter fun a => (H a).isSome
def hidT (h : Heap) (H : Hp) : Heap := PySem.W.hideAll h (trk h H)
theorem hidT_size (h : Heap) (H : Hp) : (hidT h H).objs.size = h.objs.size := PySem.W.hideAll_size _ _
theorem hidT_get {h : Heap} {H : Hp} {b : Addr} {o : Obj} (e : h.get? b = some o) (n : H b = none) : (hidT h H).get? b = some o :=
  PySem.W.hideAll_get _ e fun hm => by
    have q : (H b).isSome = true := (List.mem_filter.mp hm).2
    rw [n] at q; simp at q
theorem of_hidT {h : Heap} {H : Hp} {b : Addr} {o : Obj} (e : (hidT h H).get? b = some o) : h.get? b = some o ∧ H b = none := by
  have e' : h.get? b = some o := PySem.W.of_hideAll (trk h H) e
  refine ⟨e', ?_⟩
  cases q : H b with
  | none => rfl
  | some x =>
    have hm : b ∈ trk h H := List.mem_filter.mpr ⟨List.mem_range.mpr (Heap.lt_size e'), by simp [q]⟩
    have z : (hidT h H).get? b = none := PySem.W.hideAll_none (trk h H) hm
    rw [z] at e; cases e

/-! ### OpenK's ledger, filled with every new object but one -/
def allNews (g h : Heap) (L : Addr) : List (Addr × Obj) := (List.range h.objs.size).filterMap fun a => if a = L ∨ (g.get? a).isSome = true then none else (h.get? a).map fun o => (a, o)
theorem mem_allNews {g h : Heap} {L a : Addr} {o : Obj} (h1 : a ≠ L) (h2 : g.get? a = none) (h3 : h.get? a = some o) : (a, o) ∈ allNews g h L :=
  List.mem_filterMap.mpr ⟨a, List.mem_range.mpr (Heap.lt_size h3), by simp [h1, h2, h3]⟩
theorem of_mem_allNews {g h : Heap} {L : Addr} {p : Addr × Obj} (hp : p ∈ allNews g h L) : p.1 ≠ L ∧ g.get? p.1 = none ∧ h.get? p.1 = some p.2 := by
  obtain ⟨b, _, e⟩ := List.mem_filterMap.mp hp
  split at e
  · cases e
  · rename_i hn
    cases q : h.get? b with
    | none => rw [q] at e; simp at e
    | some u =>
      rw [q] at e
      simp only [Option.map_some, Option.some.injEq] at e
      subst e
      refine ⟨fun z => hn (.inl z), ?_, q⟩
      show g.get? b = none
      cases r : g.get? b with
      | none => rfl
      | some v => exact (hn (.inr (by simp [r]))).elim
def rest (g h : Heap) (L d : Addr) : List (Addr × Obj) := (allNews g h L).filter fun p => decide (p.1 ≠ d)
theorem rest_ne {g h : Heap} {L d : Addr} : ∀ p ∈ rest g h L d, p.1 ≠ d := fun p hp => of_decide_eq_true (List.mem_filter.mp hp).2
theorem mem_rest {g h : Heap} {L d a : Addr} {o : Obj} (h1 : a ≠ L) (h2 : g.get? a = none) (h3 : h.get? a = some o) (h4 : a ≠ d) : (a, o) ∈ rest g h L d :=
  List.mem_filter.mpr ⟨mem_allNews h1 h2 h3, decide_eq_true h4⟩
theorem news_all {g h : Heap} {L : Addr} : News g L h (allNews g h L) := fun p hp => let ⟨a, b, c⟩ := of_mem_allNews hp; ⟨c, a, b⟩
theorem news_at {g h : Heap} {L d : Addr} {o : Obj} (h1 : d ≠ L) (h2 : g.get? d = none) (h3 : h.get? d = some o) : News g L h ((d, o) :: rest g h L d) := fun p hp => by
  rcases List.mem_cons.mp hp with rfl | hp
  · exact ⟨h3, h1, h2⟩
  · exact news_all p (List.mem_filter.mp hp).1
/-- behind a rule that changed d alone: all else but the frame is kept -/
theorem kept_of_news {g h h' : Heap} {L d : Addr} {m : Str → Option Value} (k : ∀ b o, g.get? b = some o → h.get? b = some o) (F : Fr g L h' m) (N : News g L h' (rest g h L d)) :
    ∀ b o, b ≠ L → b ≠ d → h.get? b = some o → h'.get? b = some o := fun b o h1 h2 e => by
  cases q : g.get? b with
  | some u =>
    have := k b u q
    rw [e] at this; cases this
    exact F.keep b _ q
  | none => exact (N (b, o) (mem_rest h1 q e h2)).1
end L2

namespace L2
open PySem PySem.Spec PyProof.Rows

/-- the module's facts, over the base: the heap at the law's entry without what is tracked there -/
structure Mod (K : PySem.W.Frag) (mg : Str → Option Value) (base : Heap) : Prop where
  kin : K.In base
  glob : base.Ns mainGlobals mg
  blt : ∃ mb, base.Ns builtinsNs mb ∧ ∀ x : Str, x ≠ "__name__" → mb x = bootBuiltins x
  nolimit : base.NoLimit

/-- the context: a def's body (or a comprehension's block) running. base: fixed through the whole law; s₀, H₀: the entry; outer: the frames whose slots others may change (a def's callers); stack: all frames that run;
   ex: iterators that were made ahead of the entry and are walked here (a comprehension's); fn: the names whose cells were made at the entry (a def: all; a comprehension's block: its own); calm: not within an except suite; pn: pins that every state bears; xe: what is wanted of an exception that leaves the code -/
structure Cx where
  prog : Program
  w : World
  K : PySem.W.Frag
  mg : Str → Option Value
  base : Heap
  A : Around
  N : List Str
  s₀ : Shared
  H₀ : Hp
  env : Env
  outer : List Env
  stack : List Env
  ex : List Addr
  fn : Str → Bool
  calm : Bool
  pn : List (Addr × Obj)
  xe : Value → Shared → Prop
/-- the callers' frames -/
def frs (l : List Env) : List Addr := l.filterMap (·.frame)
abbrev Cx.fs (X : Cx) : List Addr := frs X.outer

def Vis (sc : Scope) (x : Str) : Prop := sc.names.lookup x = some .local ∨ sc.names.lookup x = some .cell ∨ sc.names.lookup x = some .free
def Loc (sc : Scope) (x : Str) : Prop := sc.names.lookup x = some .local ∨ sc.names.lookup x = some .cell
def Look (env : Env) (h : Heap) (m : Str → Option Value) (x : Str) (u : Value) : Prop :=
  (env.kindOf x = some .local ∧ m x = some u) ∨ ((env.kindOf x = some .cell ∨ env.kindOf x = some .free) ∧ ∃ c, env.cells.lookup x = some c ∧ h.IsCell c (some u))

structure Cx.Ok (X : Cx) : Prop where
  mod : Mod X.K X.mg X.base
  kind : X.env.scope.kind = .function
  glob : X.env.globals = mainGlobals
  blt : X.env.builtins = builtinsNs
  above : X.s₀.heap.objs.size ≤ X.env.locals
  inj : ∀ x y c, X.env.cells.lookup x = some c → X.env.cells.lookup y = some c → x = y
  has : ∀ x, (X.env.kindOf x = some .cell ∨ X.env.kindOf x = some .free) → ∃ c, X.env.cells.lookup x = some c
  cab : ∀ x c, X.fn x = true → X.env.cells.lookup x = some c → X.s₀.heap.objs.size ≤ c
  hd : X.calm = true → X.A.handled = none
  frames : X.A.frames = some X.stack
  stk : X.stack = X.outer ∨ (X.stack = X.env :: X.outer ∧ X.env.frame = some X.env.locals)
  exf : ∀ b ∈ X.ex, b ≠ X.env.locals ∧ ∀ x c, X.env.cells.lookup x = some c → c ≠ b
  bs : ∀ b o, X.base.get? b = some o → X.s₀.heap.get? b = some o ∧ X.H₀ b = none
  bsz : X.base.objs.size ≤ X.s₀.heap.objs.size
  noex : ∀ b o, X.base.get? b = some o → b ∉ X.ex
  exfs : ∀ b ∈ X.ex, b ∉ X.fs
  funs : X.s₀.heap.FunFrames X.base X.outer
  frf : ∀ b ∈ X.fs, X.H₀ b = none

structure Inv (X : Cx) (pins : List (Addr × Obj)) (σ : List (Option V)) (H : Hp) (s : Shared) : Prop where
  ok : X.Ok
  os : s.os = X.s₀.os
  bare : AllBare s.gens
  base : Un X.fs X.ex X.H₀ H X.s₀.heap s.heap
  loc : ∃ m, s.heap.Ns X.env.locals m ∧ ∀ (i : Nat) (x : Str) (v : V), X.N[i]? = some x → σ[i]? = some (some v) → Vis X.env.scope x → ∃ u, RelV v u ∧ Look X.env s.heap m x u
  cell : ∀ x c, X.env.cells.lookup x = some c → ∃ v, s.heap.IsCell c v
  free : H X.env.locals = none
  freeC : ∀ x c, X.env.cells.lookup x = some c → H c = none
  pin : ∀ p ∈ X.pn ++ pins, s.heap.get? p.1 = some p.2 ∧ H p.1 = none ∧ p.1 ≠ X.env.locals ∧ p.1 ∉ X.fs ∧ ∀ v, p.2.data ≠ .cell v
  hok : HOk X.prog X.w H s.heap
  len : σ.length = X.N.length

section
variable {X : Cx} {pins : List (Addr × Obj)} {σ : List (Option V)} {H H' : Hp} {s : Shared} {h' : Heap}

theorem Cx.Ok.nofr (ok : X.Ok) {b : Addr} {o : Obj} (e : X.base.get? b = some o) : b ∉ X.fs := fun hb => by
  have := (ok.funs.mem hb).1
  rw [e] at this; cases this
theorem Inv.bs (I : Inv X pins σ H s) : ∀ b o, X.base.get? b = some o → s.heap.get? b = some o ∧ H b = none := fun b o e =>
  ⟨I.base.keep b o (I.ok.bs b o e).1 (I.ok.bs b o e).2 (I.ok.nofr e) (I.ok.noex b o e), I.base.free b o (I.ok.bs b o e).1 (I.ok.bs b o e).2 (I.ok.noex b o e)⟩
theorem Inv.bk (I : Inv X pins σ H s) : ∀ b o, X.base.get? b = some o → s.heap.get? b = some o := fun b o e => (I.bs b o e).1
theorem Inv.mod (I : Inv X pins σ H s) : Mod X.K X.mg X.base := I.ok.mod
theorem Inv.kIn (I : Inv X pins σ H s) : X.K.In s.heap := I.ok.mod.kin.keeps I.bk
theorem Inv.nolimit (I : Inv X pins σ H s) : s.heap.NoLimit := I.ok.mod.nolimit.keeps I.bk
/-- the frame over the base: for OpenK's rules (K.In X.base is I.mod.kin) -/
theorem Inv.fr (I : Inv X pins σ H s) : ∃ m, Fr X.base X.env.locals s.heap m :=
  let ⟨m, hn, _⟩ := I.loc
  ⟨m, hn, I.bk, Nat.le_trans I.ok.bsz I.ok.above⟩
theorem Inv.lt (I : Inv X pins σ H s) : X.env.locals < s.heap.objs.size := let ⟨_, hn, _⟩ := I.loc; hn.lt
theorem Inv.sz (I : Inv X pins σ H s) : X.s₀.heap.objs.size ≤ s.heap.objs.size := Nat.le_trans I.ok.above (Nat.le_of_lt I.lt)
theorem Inv.nofs (I : Inv X pins σ H s) {a : Addr} (h : s.heap.objs.size ≤ a) : a ∉ X.fs := fun hb => by
  obtain ⟨_, o, ho, _⟩ := I.ok.funs.mem hb
  exact absurd (Nat.lt_of_lt_of_le (Heap.lt_size ho) (Nat.le_trans I.sz h)) (Nat.lt_irrefl _)
theorem Inv.cne (I : Inv X pins σ H s) : ∀ x c, X.env.cells.lookup x = some c → c ≠ X.env.locals := fun x c e z => by
  obtain ⟨v, o, ho, hd⟩ := I.cell x c e
  obtain ⟨m, ⟨o', es, ep, ho', hd', _⟩, _⟩ := I.loc
  rw [z, ho'] at ho; cases ho; rw [hd'] at hd; cases hd
theorem Inv.funs (I : Inv X pins σ H s) : s.heap.FunFrames X.base X.outer := by
  have all : ∀ (l : List Env), (∀ b ∈ frs l, b ∈ X.fs) → X.s₀.heap.FunFrames X.base l → s.heap.FunFrames X.base l := by
    intro l
    induction l with
    | nil => intro _ _; trivial
    | cons env r ih =>
      intro hs hl
      obtain ⟨hk, ⟨L, o, hf, hn, ho, hd⟩, hr⟩ := hl
      have hL : L ∈ X.fs := hs L (by unfold frs; rw [List.filterMap_cons, hf]; exact List.mem_cons_self)
      obtain ⟨sl, e⟩ := I.base.slot L o ho (I.ok.frf L hL) hL fun z => I.ok.exfs L z hL
      exact ⟨hk, ⟨L, _, hf, hn, e, hd⟩, ih (fun b hb => hs b (by unfold frs; rw [List.filterMap_cons, hf]; exact List.mem_cons_of_mem _ hb)) hr⟩
  exact all X.outer (fun _ hb => hb) I.ok.funs

/-- the frames that run, for a call -/
theorem Inv.stack (I : Inv X pins σ H s) : s.heap.FunFrames X.base X.stack := by
  rcases I.ok.stk with e | ⟨e, hf⟩
  · rw [e]; exact I.funs
  · rw [e]
    obtain ⟨m, hn, _⟩ := I.loc
    refine .cons (by rw [I.ok.kind]; decide) hf hn ?_ I.funs
    exact Heap.get?_none_of_le (Nat.le_trans I.ok.bsz I.ok.above)
theorem Inv.stkSub (I : Inv X pins σ H s) : ∀ b ∈ frs X.stack, b ∈ X.env.locals :: X.fs := fun b hb => by
  rcases I.ok.stk with e | ⟨e, hf⟩
  · rw [e] at hb; exact List.mem_cons_of_mem _ hb
  · rw [e] at hb
    unfold frs at hb
    rw [List.filterMap_cons, hf] at hb
    exact hb
theorem Inv.stkFree (I : Inv X pins σ H s) : ∀ b ∈ frs X.stack, H b = none := fun b hb => by
  rcases List.mem_cons.mp (I.stkSub b hb) with e | hb
  · rw [e]; exact I.free
  · obtain ⟨_, o, ho, _⟩ := I.ok.funs.mem hb
    exact I.base.free b o ho (I.ok.frf b hb) fun z => I.ok.exfs b z hb

/-- THE STEP: the untracked objects but the frame and the records at ch are kept (the callers' frames up to slots), the frame's map is kept, the new abstract heap is held -/
theorem Inv.step {g' : Array GenState} {t' : Nat} {d' : Drawn} {ch : List Addr} (I : Inv X pins σ H s)
    (hch : ∀ b ∈ ch, (b ∈ X.ex ∨ X.s₀.heap.objs.size ≤ b) ∧ b ≠ X.env.locals ∧ (∀ x c, X.env.cells.lookup x = some c → c ≠ b) ∧ ∀ p ∈ X.pn ++ pins, p.1 ≠ b)
    (keep : ∀ b o, b ≠ X.env.locals → b ∉ X.fs → b ∉ ch → s.heap.get? b = some o → H b = none → h'.get? b = some o)
    (slot : ∀ b o, b ≠ X.env.locals → b ∈ X.fs → b ∉ ch → s.heap.get? b = some o → H b = none → ∃ sl, h'.get? b = some { o with slots := sl }) (free : ∀ b o, b ∉ ch → s.heap.get? b = some o → H b = none → H' b = none)
    (there : ∀ b o, b ∉ ch → s.heap.get? b = some o → ∃ o', h'.get? b = some o')
    (tups : ∀ b xs, H b = some (.tup xs) → H' b = some (.tup xs)) (frzs : ∀ b o u, H b = some (.frz o u) → H' b = some (.frz o u)) (tbls : ∀ b ps, H b = some (.tbl ps) → ∃ more, H' b = some (.tbl (ps ++ more)))
    (ns : ∀ m, s.heap.Ns X.env.locals m → h'.Ns X.env.locals m) (hok : HOk X.prog X.w H' h') (hg : AllBare g') :
    Inv X pins σ H' { s with heap := h', gens := g', drawn := d', toks := t' } := by
  have neL : ∀ b o, X.s₀.heap.get? b = some o → b ≠ X.env.locals := fun b o e => Nat.ne_of_lt (Nat.lt_of_lt_of_le (Heap.lt_size e) I.ok.above)
  have neC : ∀ b o, X.s₀.heap.get? b = some o → b ∉ X.ex → b ∉ ch := fun b o e hx hb => by
    rcases (hch b hb).1 with z | z
    · exact hx z
    · exact absurd (Nat.lt_of_lt_of_le (Heap.lt_size e) z) (Nat.lt_irrefl _)
  have cellK : ∀ x c, X.env.cells.lookup x = some c → ∀ v, s.heap.IsCell c v → h'.IsCell c v := fun x c e v ⟨o, ho, hd⟩ => by
    have nch : c ∉ ch := fun z => (hch c z).2.2.1 x c e rfl
    by_cases hc : c ∈ X.fs
    · obtain ⟨sl, q⟩ := slot c o (I.cne x c e) hc nch ho (I.freeC x c e)
      exact ⟨_, q, hd⟩
    · exact ⟨o, keep c o (I.cne x c e) hc nch ho (I.freeC x c e), hd⟩
  refine ⟨I.ok, I.os, hg, ⟨fun b o e n hb hx => ?_, fun b o e n hb hx => ?_, fun b o e n hx => ?_, fun b o e hx => ?_, fun b xs e => tups b xs (I.base.tups b xs e), fun b o xs e => frzs b o xs (I.base.frzs b o xs e), fun b ps e => ?_⟩, ?_, fun x c e => ?_, ?_, fun x c e => ?_, fun p hp => ?_, hok, I.len⟩
  · exact keep b o (neL b o e) hb (neC b o e hx) (I.base.keep b o e n hb hx) (I.base.free b o e n hx)
  · obtain ⟨sl, e1⟩ := I.base.slot b o e n hb hx
    obtain ⟨sl', e2⟩ := slot b _ (neL b o e) hb (neC b o e hx) e1 (I.base.free b o e n hx)
    exact ⟨sl', e2⟩
  · obtain ⟨o', e1⟩ := I.base.there b o e hx
    exact free b o' (neC b o e hx) e1 (I.base.free b o e n hx)
  · obtain ⟨o', e1⟩ := I.base.there b o e hx
    exact there b o' (neC b o e hx) e1
  · obtain ⟨m1, e1⟩ := I.base.tbls b ps e
    obtain ⟨m2, e2⟩ := tbls b _ e1
    exact ⟨m1 ++ m2, by rw [e2, Array.append_assoc]⟩
  · obtain ⟨m, hn, hl⟩ := I.loc
    refine ⟨m, ns m hn, fun i x v e1 e2 e3 => ?_⟩
    obtain ⟨u, r, l⟩ := hl i x v e1 e2 e3
    refine ⟨u, r, ?_⟩
    rcases l with l | ⟨k, c, e, z⟩
    · exact .inl l
    · exact .inr ⟨k, c, e, cellK x c e _ z⟩
  · obtain ⟨v, z⟩ := I.cell x c e
    exact ⟨v, cellK x c e v z⟩
  · obtain ⟨m, ⟨o, _, _, ho, _⟩, _⟩ := I.loc
    exact free _ o (fun z => (hch _ z).2.1 rfl) ho I.free
  · obtain ⟨v, o, ho, hd⟩ := I.cell x c e
    exact free c o (fun z => (hch c z).2.2.1 x c e rfl) ho (I.freeC x c e)
  · obtain ⟨e, n, ne, nf, d⟩ := I.pin p hp
    have nch : p.1 ∉ ch := fun z => (hch p.1 z).2.2.2 p hp rfl
    exact ⟨keep p.1 p.2 ne nf nch e n, free p.1 p.2 nch e n, ne, nf, d⟩
/-- .. where the frame's own object is kept too -/
theorem Inv.un {t' : Nat} (I : Inv X pins σ H s) (u : Un X.fs [] H H' s.heap h') (hok : HOk X.prog X.w H' h') : Inv X pins σ H' { s with heap := h', toks := t' } := by
  obtain ⟨m, ⟨o, es, ep, ho, r⟩, _⟩ := id I.loc
  obtain ⟨sl, hL⟩ := u.any ho I.free (by simp)
  exact I.step (g' := s.gens) (d' := s.drawn) (ch := []) (fun _ z => nomatch z) (fun b o _ hb _ e n => u.keep b o e n hb (by simp)) (fun b o _ hb _ e n => u.slot b o e n hb (by simp)) (fun b o _ e n => u.free b o e n (by simp)) (fun b o _ e => u.there b o e (by simp)) u.tups u.frzs u.tbls (fun m' hm => by
    obtain ⟨o', es', ep', ho', r'⟩ := hm
    rw [ho] at ho'; cases ho'
    exact ⟨_, es', ep', hL, r'⟩) hok I.bare
/-- behind a call (or a comprehension's block): the slots of this frame may have changed too, the records at ch may have turned -/
theorem Inv.call {g' : Array GenState} {t' : Nat} {d' : Drawn} {ch : List Addr} (I : Inv X pins σ H s) (u : Un (frs X.stack) ch H H' s.heap h') (hok : HOk X.prog X.w H' h') (hg : AllBare g')
    (hch : ∀ b ∈ ch, (b ∈ X.ex ∨ X.s₀.heap.objs.size ≤ b) ∧ b ≠ X.env.locals ∧ (∀ x c, X.env.cells.lookup x = some c → c ≠ b) ∧ ∀ p ∈ X.pn ++ pins, p.1 ≠ b) :
    Inv X pins σ H' { s with heap := h', gens := g', drawn := d', toks := t' } := by
  obtain ⟨m, ⟨o, es, ep, ho, r⟩, _⟩ := id I.loc
  obtain ⟨sl, hL⟩ := u.any ho I.free fun z => (hch _ z).2.1 rfl
  exact I.step (ch := ch) hch (fun b o hL hb hc e n => u.keep b o e n (fun z => (List.mem_cons.mp (I.stkSub b z)).elim hL hb) hc) (fun b o _ _ hc e n => u.any e n hc) (fun b o hc e n => u.free b o e n hc) (fun b o hc e => u.there b o e hc) u.tups u.frzs u.tbls (fun m' hm => by
    obtain ⟨o', es', ep', ho', r'⟩ := hm
    rw [ho] at ho'; cases ho'
    exact ⟨_, es', ep', hL, r'⟩) hok hg
/-- an untracked record of ours (an iterator) has turned -/
theorem Inv.turned {t' : Nat} {it : Addr} (I : Inv X pins σ H s) (k : ∀ b o, b ≠ it → s.heap.get? b = some o → h'.get? b = some o) (hn : H it = none) (hL : it ≠ X.env.locals)
    (h1 : it ∈ X.ex ∨ X.s₀.heap.objs.size ≤ it) (h2 : ∀ x c, X.env.cells.lookup x = some c → c ≠ it) (h3 : ∀ p ∈ X.pn ++ pins, p.1 ≠ it) : Inv X pins σ H { s with heap := h', toks := t' } := by
  have nit : ∀ b u, H b = some u → b ≠ it := fun b u e z => by rw [z, hn] at e; cases e
  refine I.step (g' := s.gens) (d' := s.drawn) (ch := [it]) (fun b hb => ?_) (fun b o _ _ hc e _ => k b o (fun z => hc (by simp [z])) e) (fun b o _ _ hc e _ => ⟨o.slots, k b o (fun z => hc (by simp [z])) e⟩) (fun _ _ _ _ n => n)
    (fun b o hc e => ⟨o, k b o (fun z => hc (by simp [z])) e⟩) (fun _ _ e => e) (fun _ _ _ e => e) (fun b ps e => ⟨#[], by rw [e]; simp⟩) (fun m hm => ?_) (fun b u e => ?_) I.bare
  · have e : b = it := by simpa using hb
    subst e
    exact ⟨h1, hL, h2, h3⟩
  · obtain ⟨o, es, ep, ho, r⟩ := hm
    exact ⟨o, es, ep, k _ o (Ne.symm hL) ho, r⟩
  · refine (I.hok b u e).stay (fun c v hc q => k c v ?_ q) (fun _ q => q) fun _ _ q => q
    rcases hc with z | z
    · rw [z]; exact nit b u e
    · exact nit c _ z
theorem Inv.tok (I : Inv X pins σ H s) (t : Nat) : Inv X pins σ H { s with toks := t } := I.un (h' := s.heap) (t' := t) Un.refl I.hok
/-- all objects kept -/
theorem Inv.kept {t' : Nat} (I : Inv X pins σ H s) (k : ∀ b u, s.heap.get? b = some u → h'.get? b = some u) : Inv X pins σ H { s with heap := h', toks := t' } := I.un (Un.kept k) (I.hok.kept k)
/-- a new object laid and tracked -/
theorem Inv.laid {a : Addr} {o : HO} {t' : Nat} (I : Inv X pins σ H s) (k : ∀ b u, s.heap.get? b = some u → h'.get? b = some u) (hp : s.heap.objs.size ≤ a) (new : ObjOk X.prog X.w (upd H a o) h' a o) :
    Inv X pins σ (upd H a o) { s with heap := h', toks := t' } := I.un (Un.laid k hp (I.hok.fresh hp)) (I.hok.laid k hp new)
/-- an object written -/
theorem Inv.write {x e : Addr} {o : HO} {t' : Nat} (I : Inv X pins σ H s) (mu : Mut (H x)) (he : e = x ∨ H e = some (.own x)) (k : ∀ b u, b ≠ e → s.heap.get? b = some u → h'.get? b = some u) (heo : ∃ u, h'.get? e = some u)
    (new : ObjOk X.prog X.w (upd H x o) h' x o) : Inv X pins σ (upd H x o) { s with heap := h', toks := t' } := I.un (Un.write mu he k heo) (I.hok.write mu he k heo new)
/-- forgetting slots, pins -/
theorem Inv.weak {σ' : List (Option V)} (I : Inv X pins σ H s) (hl : σ'.length = σ.length) (w : ∀ (i : Nat) v, σ'[i]? = some (some v) → σ[i]? = some (some v)) : Inv X pins σ' H s :=
  ⟨I.ok, I.os, I.bare, I.base, let ⟨m, hn, hl'⟩ := I.loc; ⟨m, hn, fun i x v e1 e2 e3 => hl' i x v e1 (w i v e2) e3⟩, I.cell, I.free, I.freeC, I.pin, I.hok, hl.trans I.len⟩
theorem Inv.pins_of {pins' : List (Addr × Obj)} (I : Inv X pins σ H s) (h : ∀ p ∈ pins', s.heap.get? p.1 = some p.2 ∧ H p.1 = none ∧ p.1 ≠ X.env.locals ∧ p.1 ∉ X.fs ∧ ∀ v, p.2.data ≠ .cell v) : Inv X pins' σ H s :=
  ⟨I.ok, I.os, I.bare, I.base, I.loc, I.cell, I.free, I.freeC, fun p hp => (List.mem_append.mp hp).elim (fun z => I.pin p (List.mem_append_left _ z)) (h p), I.hok, I.len⟩

theorem nodup_ix {N : List Str} (hN : N.Nodup) {i j : Nat} {x : Str} (a : N[i]? = some x) (b : N[j]? = some x) : i = j := by
  obtain ⟨h1, e1⟩ := List.getElem?_eq_some_iff.mp a
  obtain ⟨h2, e2⟩ := List.getElem?_eq_some_iff.mp b
  exact (List.getElem_inj hN).mp (e1.trans e2.symm)

/-- a name is stored; what changed -/
theorem store_ok2 {M : Model} {A : Around} {E : Value → Shared → Prop} {i : Nat} {x : Str} {v : V} {u : Value} {Q : Unit → Shared → Prop} (I : Inv X pins σ H s) (hN : X.N.Nodup) (hi : X.N[i]? = some x) (hx : Loc X.env.scope x) (r : RelV v u)
    (h : ∀ s', Inv X pins (σ.set i (some v)) H s' → (∃ a, Heap.SameBut a s.heap s'.heap ∧ (a = X.env.locals ∨ X.env.cells.lookup x = some a)) → Q () s') (hf : X.fn x = true ∨ X.env.scope.names.lookup x = some .local := by first | exact .inl rfl | exact .inr rfl | assumption) : wpAny M A (storeName X.env x u) Q E s := by
  obtain ⟨m, hn, hl⟩ := id I.loc
  have hcls : (X.env.scope.kind == .class || (X.env.scope.kind == .module && X.env.locals != X.env.globals)) = false := by rw [I.ok.kind]; rfl
  have hiσ : i < σ.length := by rw [I.len]; exact (List.getElem?_eq_some_iff.mp hi).1
  have cne := I.cne
  have tracked : ∀ {a : Addr} {h' : Heap}, (∃ o, s.heap.get? a = some o ∧ H a = none) → Heap.SameBut a s.heap h' → HOk X.prog X.w H h' := fun {a h'} ha hs b ob e => by
    obtain ⟨_, _, hfree⟩ := ha
    refine (I.hok b ob e).stay (fun c w' hc q => (hs.2 c ?_).trans q) (fun _ q => q) fun _ _ q => q
    rintro rfl
    rcases hc with rfl | hc
    · rw [hfree] at e; cases e
    · rw [hfree] at hc; cases hc
  rcases hx with hk | hk
  · refine wpAny_storeName_local hk hn (fun h' hn' hs => ?_) hcls
    obtain ⟨oL, _, _, hoL, _⟩ := id hn
    refine h _ ⟨I.ok, I.os, I.bare, ⟨fun b o e n hb hx => ?_, fun b o e n hb hx => ?_, I.base.free, fun b o e hx => ?_, I.base.tups, I.base.frzs, I.base.tbls⟩, ⟨_, hn', fun j y v' e1 e2 e3 => ?_⟩, fun y c e => ?_, I.free, I.freeC, fun p hp => ?_, tracked ⟨oL, hoL, I.free⟩ hs, by simpa using I.len⟩ ⟨_, hs, .inl rfl⟩
    · exact (hs.2 b (Nat.ne_of_lt (Nat.lt_of_lt_of_le (Heap.lt_size e) I.ok.above))).trans (I.base.keep b o e n hb hx)
    · obtain ⟨sl, e1⟩ := I.base.slot b o e n hb hx
      exact ⟨sl, (hs.2 b (Nat.ne_of_lt (Nat.lt_of_lt_of_le (Heap.lt_size e) I.ok.above))).trans e1⟩
    · obtain ⟨o', e1⟩ := I.base.there b o e hx
      exact ⟨o', (hs.2 b (Nat.ne_of_lt (Nat.lt_of_lt_of_le (Heap.lt_size e) I.ok.above))).trans e1⟩
    · by_cases hj : j = i
      · subst hj
        rw [hi] at e1; cases e1
        rw [List.getElem?_set_self hiσ] at e2
        cases e2
        exact ⟨u, r, .inl ⟨hk, by simp⟩⟩
      · rw [List.getElem?_set_ne (Ne.symm hj)] at e2
        obtain ⟨u', r', q⟩ := hl j y v' e1 e2 e3
        refine ⟨u', r', ?_⟩
        rcases q with ⟨k, e⟩ | ⟨k, c, e, z⟩
        · refine .inl ⟨k, ?_⟩
          have : y ≠ x := fun e => hj (nodup_ix hN e1 (e ▸ hi))
          simp [this, e]
        · exact .inr ⟨k, c, e, z.sameBut hs (cne y c e)⟩
    · obtain ⟨w', z⟩ := I.cell y c e
      exact ⟨w', z.sameBut hs (cne y c e)⟩
    · obtain ⟨e, n, ne, nf, d⟩ := I.pin p hp
      exact ⟨(hs.2 p.1 ne).trans e, n, ne, nf, d⟩
  · have hfn : X.fn x = true := by
      rcases hf with z | z
      · exact z
      · rw [z] at hk; cases hk
    obtain ⟨c, hc⟩ := I.ok.has x (.inl hk)
    obtain ⟨w', z⟩ := I.cell x c hc
    refine wpAny_storeName_cell I.ok.kind hk hc z (fun h' hc' hs => ?_)
    obtain ⟨oc, hoc, hocd⟩ := id z
    refine h { s with heap := h' } ⟨I.ok, I.os, I.bare, ⟨fun b o e n hb hx => ?_, fun b o e n hb hx => ?_, I.base.free, fun b o e hx => ?_, I.base.tups, I.base.frzs, I.base.tbls⟩, ⟨m, hn.sameBut hs (Ne.symm (cne x c hc)), fun j y v' e1 e2 e3 => ?_⟩, fun y c' e => ?_, I.free, I.freeC, fun p hp => ?_, tracked ⟨oc, hoc, I.freeC x c hc⟩ hs, by simpa using I.len⟩ ⟨c, hs, .inr hc⟩
    · exact (hs.2 b (Nat.ne_of_lt (Nat.lt_of_lt_of_le (Heap.lt_size e) (I.ok.cab x c hfn hc)))).trans (I.base.keep b o e n hb hx)
    · obtain ⟨sl, e1⟩ := I.base.slot b o e n hb hx
      exact ⟨sl, (hs.2 b (Nat.ne_of_lt (Nat.lt_of_lt_of_le (Heap.lt_size e) (I.ok.cab x c hfn hc)))).trans e1⟩
    · obtain ⟨o', e1⟩ := I.base.there b o e hx
      exact ⟨o', (hs.2 b (Nat.ne_of_lt (Nat.lt_of_lt_of_le (Heap.lt_size e) (I.ok.cab x c hfn hc)))).trans e1⟩
    · by_cases hj : j = i
      · subst hj
        rw [hi] at e1; cases e1
        rw [List.getElem?_set_self hiσ] at e2
        cases e2
        exact ⟨u, r, .inr ⟨.inl hk, c, hc, hc'⟩⟩
      · rw [List.getElem?_set_ne (Ne.symm hj)] at e2
        obtain ⟨u', r', q⟩ := hl j y v' e1 e2 e3
        refine ⟨u', r', ?_⟩
        rcases q with q | ⟨k, c', e, z'⟩
        · exact .inl q
        · refine .inr ⟨k, c', e, z'.sameBut hs ?_⟩
          rintro rfl
          exact hj (nodup_ix hN e1 (I.ok.inj _ _ _ e hc ▸ hi))
    · by_cases hcc : c' = c
      · subst hcc; exact ⟨_, hc'⟩
      · obtain ⟨w2, z2⟩ := I.cell y c' e
        exact ⟨w2, z2.sameBut hs hcc⟩
    · obtain ⟨e, n, ne, nf, d⟩ := I.pin p hp
      refine ⟨(hs.2 p.1 ?_).trans e, n, ne, nf, d⟩
      intro q
      rw [q, hoc] at e
      have q' : oc = p.2 := Option.some.inj e
      exact d w' (by rw [← q']; exact hocd)
theorem store_ok {M : Model} {A : Around} {E : Value → Shared → Prop} {i : Nat} {x : Str} {v : V} {u : Value} {Q : Unit → Shared → Prop} (I : Inv X pins σ H s) (hN : X.N.Nodup) (hi : X.N[i]? = some x) (hx : Loc X.env.scope x) (r : RelV v u)
    (h : ∀ s', Inv X pins (σ.set i (some v)) H s' → Q () s') (hf : X.fn x = true ∨ X.env.scope.names.lookup x = some .local := by first | exact .inl rfl | exact .inr rfl | assumption) : wpAny M A (storeName X.env x u) Q E s :=
  store_ok2 I hN hi hx r (fun s' I' _ => h s' I') hf
/-- behind a call or a block, the state as it is -/
theorem Inv.call' {s' : Shared} {ch : List Addr} (I : Inv X pins σ H s) (ho : s'.os = s.os) (u : Un (frs X.stack) ch H H' s.heap s'.heap) (hok : HOk X.prog X.w H' s'.heap) (hg : AllBare s'.gens)
    (hch : ∀ b ∈ ch, (b ∈ X.ex ∨ X.s₀.heap.objs.size ≤ b) ∧ b ≠ X.env.locals ∧ (∀ x c, X.env.cells.lookup x = some c → c ≠ b) ∧ ∀ p ∈ X.pn ++ pins, p.1 ≠ b) : Inv X pins σ H' s' := by
  obtain ⟨h', g', d', t', o'⟩ := s'
  have e : o' = s.os := ho
  subst e
  exact I.call (g' := g') (t' := t') (d' := d') u hok hg hch
end

/-! ### the judgements -/
/-- an exception: its class, its own dict's address (where it has one), the abstract heap behind it -/
abbrev XK := Value → Option Addr → Hp → Prop
abbrev St := List (Option V)
abbrev VK := V → Hp → Prop
/-- an expression's reading; a test's; an argument list's -/
abbrev TE := St → Hp → VK → Prop
abbrev TT := St → Hp → (Bool → Hp → Prop) → Prop
abbrev TA := St → Hp → (List V → Hp → Prop) → Prop
/-- what is wanted behind a statement -/
structure Ends where
  nx : St → Hp → Prop
  rt : VK
  bk : St → Hp → Prop := fun _ _ => False
  ct : St → Hp → Prop := fun _ _ => False
abbrev TS := Ends → St → Hp → Prop

def EP (X : Cx) (pins : List (Addr × Obj)) (σ : St) (Q : VK) (u : Value) (s' : Shared) : Prop := ∃ v H', Inv X pins σ H' s' ∧ RelV v u ∧ Q v H'
def TP (X : Cx) (pins : List (Addr × Obj)) (σ : St) (Q : Bool → Hp → Prop) (b : Bool) (s' : Shared) : Prop := ∃ H', Inv X pins σ H' s' ∧ Q b H'
def AP (X : Cx) (pins : List (Addr × Obj)) (σ : St) (Q : List V → Hp → Prop) (us : List Value) (s' : Shared) : Prop := ∃ vs H', Inv X pins σ H' s' ∧ Vals vs us ∧ Q vs H'
def SP (X : Cx) (pins : List (Addr × Obj)) (D : Ends) (f : Flow) (s' : Shared) : Prop :=
  match f with
  | .next => ∃ σ' H', Inv X pins σ' H' s' ∧ D.nx σ' H'
  | .brk => ∃ σ' H', Inv X pins σ' H' s' ∧ D.bk σ' H'
  | .cont => ∃ σ' H', Inv X pins σ' H' s' ∧ D.ct σ' H'
  | .ret u => ∃ v σ' H', Inv X pins σ' H' s' ∧ RelV v u ∧ D.rt v H'

def PE (X : Cx) (e : Expr) (t : TE) : Prop :=
  ∀ (pins : List (Addr × Obj)) (s : Shared) (σ : St) (H : Hp) (Q : VK), Inv X pins σ H s → t σ H Q → wpAny (model X.prog X.w) X.A (eval e X.env) (EP X pins σ Q) X.xe s
def PT (X : Cx) (e : Expr) (t : TT) : Prop :=
  ∀ (pins : List (Addr × Obj)) (s : Shared) (σ : St) (H : Hp) (Q : Bool → Hp → Prop), Inv X pins σ H s → t σ H Q → wpAny (model X.prog X.w) X.A (isTrue e X.env (eval e X.env)) (TP X pins σ Q) X.xe s
/-- a test whatever its 'whole' is (and, or) -/
def PW (X : Cx) (e : Expr) (t : TT) : Prop :=
  ∀ (whole : Sem Value) (pins : List (Addr × Obj)) (s : Shared) (σ : St) (H : Hp) (Q : Bool → Hp → Prop), Inv X pins σ H s → t σ H Q → wpAny (model X.prog X.w) X.A (isTrue e X.env whole) (TP X pins σ Q) X.xe s
theorem PW.pt {X : Cx} {e : Expr} {t : TT} (h : PW X e t) : PT X e t := h _
/-- an argument list (no star), from the left -/
def PA (X : Cx) (es : List Expr) (t : TA) : Prop :=
  ∀ (pos : Pos) (pins : List (Addr × Obj)) (s : Shared) (σ : St) (H : Hp) (Q : List V → Hp → Prop), Inv X pins σ H s → t σ H Q → wpAny (model X.prog X.w) X.A (spliced (backTo pos (starEach es X.env))) (AP X pins σ Q) X.xe s
def PS (X : Cx) (st : Stmt) (t : TS) : Prop :=
  ∀ (pins : List (Addr × Obj)) (s : Shared) (σ : St) (H : Hp) (D : Ends), Inv X pins σ H s → t D σ H → wpAny (model X.prog X.w) X.A (exec st X.env) (SP X pins D) X.xe s
def PSs (X : Cx) (st : List Stmt) (t : TS) : Prop :=
  ∀ (pins : List (Addr × Obj)) (s : Shared) (σ : St) (H : Hp) (D : Ends), Inv X pins σ H s → t D σ H → wpAny (model X.prog X.w) X.A (execs st X.env) (SP X pins D) X.xe s
/-- weaken the end -/
theorem thn {α : Type} {t : Sem α} {Q Q' : α → Shared → Prop} {M : Model} {A : Around} {E : Value → Shared → Prop} {s : Shared} (h : wpAny M A t Q E s) (hQ : ∀ a s, Q a s → Q' a s) : wpAny M A t Q' E s := wpAny_mono h hQ fun _ _ x => x
end L2

namespace L2
open PySem PySem.Spec PyProof.Rows
section
variable {X : Cx}

/-- two expressions in a row -/
theorem bin {a b : Expr} {ta tb : TE} (ha : PE X a ta) (hb : PE X b tb) {pins : List (Addr × Obj)} {s : Shared} {σ : St} {H : Hp} {R : V → V → Hp → Prop} (I : Inv X pins σ H s) (h : ta σ H fun x H1 => tb σ H1 fun y H2 => R x y H2)
    {α : Type} {Q : α → Shared → Prop} {f : Value → Value → Sem α}
    (hf : ∀ v u s2 x y H2, Inv X pins σ H2 s2 → RelV x v → RelV y u → R x y H2 → wpAny (model X.prog X.w) X.A (f v u) Q X.xe s2) :
    wpAny (model X.prog X.w) X.A (eval a X.env) (fun v s₁ => wpAny (model X.prog X.w) X.A (eval b X.env) (fun u s₂ => wpAny (model X.prog X.w) X.A (f v u) Q X.xe s₂) X.xe s₁) X.xe s := by
  refine thn (ha pins s σ H _ I h) fun v s1 ⟨x, H1, I1, r1, q1⟩ => ?_
  refine thn (hb pins s1 σ H1 _ I1 q1) fun u s2 ⟨y, H2, I2, r2, q2⟩ => ?_
  exact hf v u s2 x y H2 I2 r1 r2 q2

/-! ### names and constants -/
def tVar (i : Nat) : TE := fun σ H Q => ∃ v, σ[i]? = some (some v) ∧ Q v H
def tC (v : V) : TE := fun _ H Q => Q v H
theorem pe_var {i : Nat} {x : Str} {pos : Pos} (hN : X.N[i]? = some x) (hv : Vis X.env.scope x) (hd : (x == ("__debug__" : Str)) = false := by decide) (hcd : (x == ("__classdict__" : Str)) = false := by decide) : PE X (.Name x pos) (tVar i) := by
  intro pins s σ H Q I h
  obtain ⟨v, e, h⟩ := h
  obtain ⟨m, hn, hl⟩ := I.loc
  obtain ⟨u, r, l⟩ := hl i x v hN e hv
  have fin : EP X pins σ Q u s := ⟨v, H, I, r, h⟩
  rcases l with ⟨hk, hm⟩ | ⟨hk, c, hc, hcell⟩
  · exact wpAny_Name (wpAny_loadName_local I.ok.kind hk hn hm fin) hd
  · rcases hk with hk | hk
    · exact wpAny_Name (wpAny_loadName_cell I.ok.kind hk hc hcell fin) hd
    · exact wpAny_Name (wpAny_loadName_free I.ok.kind hk hc hcell fin hcd) hd
theorem pe_int {i j pos} : PE X (.Constant (.int i) j pos) (tC (.int i)) := fun _ _ _ H _ I h => wpAny_Constant_int ⟨.int i, H, I.tok _, ⟨_, rfl⟩, h⟩
theorem pe_bl {b j pos} : PE X (.Constant (.bool b) j pos) (tC (.bl b)) := fun _ _ _ H _ I h => Constant_bool ⟨.bl b, H, I, rfl, h⟩
theorem pe_non {j pos} : PE X (.Constant .none j pos) (tC .non) := fun _ _ _ H _ I h => Constant_none ⟨.non, H, I, rfl, h⟩
theorem pe_str {x j pos} : PE X (.Constant (.str x) j pos) (tC (.str x)) := fun _ _ _ H _ I h => Calls.Constant_str ⟨.str x, H, I.tok _, ⟨_, rfl⟩, h⟩

/-- a global name of the def -/
def Gl (X : Cx) (x : Str) : Prop := X.env.kindOf x = some .globalImplicit
theorem ld_glob {E : Value → Shared → Prop} {pins : List (Addr × Obj)} {s : Shared} {σ : St} {H : Hp} {x : Str} {u : Value} {pos : Pos} {Q : Value → Shared → Prop} (I : Inv X pins σ H s) (hg : Gl X x) (hm : X.mg x = some u) (h : Q u s)
    (hd : (x == ("__debug__" : Str)) = false := by decide) : wpAny (model X.prog X.w) X.A (eval (.Name x pos) X.env) Q E s :=
  Calls.Name_function_global I.ok.kind hg (Calls.loadGlobal_global (by rw [I.ok.glob]; exact I.mod.glob.keeps I.bk) hm h) hd
theorem ld_blt {E : Value → Shared → Prop} {pins : List (Addr × Obj)} {s : Shared} {σ : St} {H : Hp} {x : Str} {u : Value} {pos : Pos} {Q : Value → Shared → Prop} (I : Inv X pins σ H s) (hg : Gl X x) (hm : X.mg x = none) (hv : bootBuiltins x = some u) (h : Q u s)
    (hn : x ≠ "__name__" := by decide) (hd : (x == ("__debug__" : Str)) = false := by decide) : wpAny (model X.prog X.w) X.A (eval (.Name x pos) X.env) Q E s := by
  obtain ⟨mb, h1, h2⟩ := I.mod.blt
  exact Calls.Name_function_global I.ok.kind hg (Calls.loadGlobal_builtin (by rw [I.ok.glob]; exact I.mod.glob.keeps I.bk) hm (by rw [I.ok.blt]; exact h1.keeps I.bk) ((h2 x hn).trans hv) h) hd
/-- a module's constant, a class, a function, as a value -/
theorem pe_glob {x : Str} {v : V} {u : Value} {pos : Pos} (hg : Gl X x) (hm : X.mg x = some u) (r : RelV v u) (hd : (x == ("__debug__" : Str)) = false := by decide) : PE X (.Name x pos) (tC v) :=
  fun _ _ _ H _ I h => ld_glob I hg hm ⟨v, H, I, r, h⟩ hd
theorem pe_bltn {x : Str} {v : V} {u : Value} {pos : Pos} (hg : Gl X x) (hm : X.mg x = none) (hv : bootBuiltins x = some u) (r : RelV v u) (hn : x ≠ "__name__" := by decide) (hd : (x == ("__debug__" : Str)) = false := by decide) : PE X (.Name x pos) (tC v) :=
  fun _ _ _ H _ I h => ld_blt I hg hm hv ⟨v, H, I, r, h⟩ hn hd

/-! ### arithmetic -/
/-- two ints -/
def t2I (ta tb : TE) (k : Int → Int → Hp → Prop) : St → Hp → Prop := fun σ H => ta σ H fun x H1 => tb σ H1 fun y H2 => ∃ i j, x = .int i ∧ y = .int j ∧ k i j H2
def tAdd (ta tb : TE) : TE := fun σ H Q => t2I ta tb (fun i j H2 => Q (.int (i + j)) H2) σ H
def tSub (ta tb : TE) : TE := fun σ H Q => t2I ta tb (fun i j H2 => Q (.int (i - j)) H2) σ H
/-- the left factor below 2^64 -/
def tMul (ta tb : TE) : TE := fun σ H Q => t2I ta tb (fun i j H2 => (-(2 ^ 64) < i ∧ i < 2 ^ 64) ∧ Q (.int (i * j)) H2) σ H
variable {a b : Expr} {ta tb : TE} {pos : Pos}
theorem pe_add (ha : PE X a ta) (hb : PE X b tb) : PE X (.BinOp a .Add b pos) (tAdd ta tb) := by
  intro pins s σ H Q I h
  refine wpAny_BinOp (bin ha hb I h fun v u s2 x y H2 I2 rx ry q => ?_)
  obtain ⟨i, j, rfl, rfl, q⟩ := q
  obtain ⟨t, rfl⟩ := rx
  obtain ⟨t', rfl⟩ := ry
  exact add_int ⟨.int _, H2, I2.tok _, ⟨_, rfl⟩, q⟩
theorem pe_sub (ha : PE X a ta) (hb : PE X b tb) : PE X (.BinOp a .Sub b pos) (tSub ta tb) := by
  intro pins s σ H Q I h
  refine wpAny_BinOp (bin ha hb I h fun v u s2 x y H2 I2 rx ry q => ?_)
  obtain ⟨i, j, rfl, rfl, q⟩ := q
  obtain ⟨t, rfl⟩ := rx
  obtain ⟨t', rfl⟩ := ry
  exact sub_int ⟨.int _, H2, I2.tok _, ⟨_, rfl⟩, q⟩
theorem pe_mul (ha : PE X a ta) (hb : PE X b tb) : PE X (.BinOp a .Mult b pos) (tMul ta tb) := by
  intro pins s σ H Q I h
  refine wpAny_BinOp (bin ha hb I h fun v u s2 x y H2 I2 rx ry q => ?_)
  obtain ⟨i, j, rfl, rfl, ⟨q1, q2⟩, q⟩ := q
  obtain ⟨t, rfl⟩ := rx
  obtain ⟨t', rfl⟩ := ry
  exact mul_int ⟨.int _, H2, I2.tok _, ⟨_, rfl⟩, q⟩ (.of_left (intBits_le_64 q1 q2))

/-! ### comparisons -/
def PC (X : Cx) (op : CmpOp) (a b : Expr) (t : TE) : Prop :=
  ∀ (pins : List (Addr × Obj)) (s : Shared) (σ : St) (H : Hp) (Q : VK), Inv X pins σ H s → t σ H Q →
    wpAny (model X.prog X.w) X.A (eval a X.env) (fun v s₁ => wpAny (model X.prog X.w) X.A (eval b X.env) (fun u s₂ => wpAny (model X.prog X.w) X.A (compareOp op v u) (EP X pins σ Q) X.xe s₂) X.xe s₁) X.xe s
theorem nobehind (b : Expr) {op : CmpOp} (h : op ≠ .In) (h2 : op ≠ .NotIn) : behindInMarks op b = false := by
  have e1 : (op == CmpOp.In) = false := by cases op <;> first | rfl | exact absurd rfl h
  have e2 : (op == CmpOp.NotIn) = false := by cases op <;> first | rfl | exact absurd rfl h2
  cases b <;> simp [behindInMarks, e1, e2]
def tCmp (p : Int → Int → Bool) (ta tb : TE) : TE := fun σ H Q => t2I ta tb (fun i j H2 => Q (.bl (p i j)) H2) σ H
abbrev tLt : TE → TE → TE := tCmp fun i j => decide (i < j)
abbrev tLe : TE → TE → TE := tCmp fun i j => decide (i ≤ j)
abbrev tGt : TE → TE → TE := tCmp fun i j => decide (j < i)
abbrev tGe : TE → TE → TE := tCmp fun i j => decide (j ≤ i)
abbrev tEqI : TE → TE → TE := tCmp fun i j => decide (i = j)
abbrev tNeI : TE → TE → TE := tCmp fun i j => !decide (i = j)
/-- a comparison of two ints, by its rule -/
theorem pc_int {op : CmpOp} {p : Int → Int → Bool} (ha : PE X a ta) (hb : PE X b tb)
    (rule : ∀ (i j : Int) (t u : Tok) (Q : Value → Shared → Prop) (s : Shared), Q (.bool (p i j)) s → wpAny (model X.prog X.w) X.A (compareOp op (.int i t) (.int j u)) Q X.xe s) : PC X op a b (tCmp p ta tb) := by
  intro pins s σ H Q I h
  refine bin ha hb I h fun v u s2 x y H2 I2 rx ry q => ?_
  obtain ⟨i, j, rfl, rfl, q⟩ := q
  obtain ⟨t, rfl⟩ := rx
  obtain ⟨t', rfl⟩ := ry
  exact rule i j t t' _ s2 ⟨.bl _, H2, I2, rfl, q⟩
theorem pc_lt (ha : PE X a ta) (hb : PE X b tb) : PC X .Lt a b (tLt ta tb) := pc_int ha hb fun _ _ _ _ _ _ h => lt_int h
theorem pc_le (ha : PE X a ta) (hb : PE X b tb) : PC X .LtE a b (tLe ta tb) := pc_int ha hb fun _ _ _ _ _ _ h => le_int h
theorem pc_gt (ha : PE X a ta) (hb : PE X b tb) : PC X .Gt a b (tGt ta tb) := pc_int ha hb fun _ _ _ _ _ _ h => gt_int h
theorem pc_ge (ha : PE X a ta) (hb : PE X b tb) : PC X .GtE a b (tGe ta tb) := pc_int ha hb fun _ _ _ _ _ _ h => ge_int h
theorem pc_eqI (ha : PE X a ta) (hb : PE X b tb) : PC X .Eq a b (tEqI ta tb) := pc_int ha hb fun _ _ _ _ _ _ h => eq_int (by rw [Bool.beq_eq_decide_eq]; exact h)
theorem pc_neI (ha : PE X a ta) (hb : PE X b tb) : PC X .NotEq a b (tNeI ta tb) := pc_int ha hb fun _ _ _ _ _ _ h => ne_int (by rw [bne, Bool.beq_eq_decide_eq]; exact h)
/-- is None -/
def tIsN (ta : TE) : TE := fun σ H Q => ta σ H fun x H1 => Q (.bl (decide (x = .non))) H1
def tNotN (ta : TE) : TE := fun σ H Q => ta σ H fun x H1 => Q (.bl (!decide (x = .non))) H1
theorem RelV.none_iff {x : V} {v : Value} (r : RelV x v) : (v == Value.none) = decide (x = .non) := by
  cases x with
  | non => cases r; rfl
  | bl _ => cases r; rfl
  | int _ => obtain ⟨t, rfl⟩ := r; rfl
  | str _ => obtain ⟨t, rfl⟩ := r; rfl
  | byt _ => obtain ⟨t, rfl⟩ := r; rfl
  | flt _ => obtain ⟨t, rfl⟩ := r; rfl
  | ref _ => cases r; rfl
  | ty _ => cases r; rfl
theorem pc_isN {j pos'} (ha : PE X a ta) : PC X .Is a (.Constant .none j pos') (tIsN ta) := by
  intro pins s σ H Q I h
  refine thn (ha pins s σ H _ I h) fun v s1 ⟨x, H1, I1, r1, q1⟩ => ?_
  exact Constant_none (is_none_gen ⟨.bl _, H1, I1, by rw [r1.none_iff]; rfl, q1⟩)
theorem pc_notN {j pos'} (ha : PE X a ta) : PC X .IsNot a (.Constant .none j pos') (tNotN ta) := by
  intro pins s σ H Q I h
  refine thn (ha pins s σ H _ I h) fun v s1 ⟨x, H1, I1, r1, q1⟩ => ?_
  exact Constant_none (isnot_none_gen ⟨.bl _, H1, I1, by rw [r1.none_iff]; rfl, q1⟩)
/-- a comparison as a value, as a test -/
def tB (t : TE) : TT := fun σ H Q => t σ H fun x H1 => ∃ c, x = .bl c ∧ Q c H1
theorem pe_cmp {op : CmpOp} {t : TE} (h : PC X op a b t) (h1 : behindInMarks op b = false := by first | exact nobehind _ (by decide) (by decide) | rfl) : PE X (.Compare a [op] [b] pos) t := fun pins s σ H Q I hw => wpAny_Compare1 (h pins s σ H Q I hw) h1
theorem pt_cmp {op : CmpOp} {t : TE} (h : PC X op a b t) (h1 : behindInMarks op b = false := by first | exact nobehind _ (by decide) (by decide) | rfl) : PT X (.Compare a [op] [b] pos) (tB t) := by
  intro pins s σ H Q I hw
  refine wpAny_isTrue_Compare1 (thn (h pins s σ H _ I hw) fun v s1 h1 => thn h1 fun u s2 h2 => thn h2 fun c s3 ⟨x, H1, I1, r1, q1⟩ => ?_) h1
  obtain ⟨d, rfl, q⟩ := q1
  cases r1
  exact wpAny_truthy_bool ⟨H1, I1, q⟩
/-- an expression whose value is a bool, as a test -/
theorem pt_val {e : Expr} {t : TE} (h : PE X e t) (he : ∀ whole, isTrue e X.env whole = (do let v ← whole; standAt e.pos; holding [v] (truthy v)) := by intro _; rfl) : PT X e (tB t) := by
  intro pins s σ H Q I hw
  refine isTrue_plain (thn (h pins s σ H _ I hw) fun v s1 ⟨x, H1, I1, r1, q1⟩ => ?_) (he _)
  obtain ⟨d, rfl, q⟩ := q1
  cases r1
  exact wpAny_truthy_bool ⟨H1, I1, q⟩

/-! ### and, or, not -/
variable {tA tB' : TT} {rest : List Expr}
def tAnd (t u : TT) : TT := fun σ H Q => t σ H fun c H1 => if c = true then u σ H1 Q else Q false H1
def tOr (t u : TT) : TT := fun σ H Q => t σ H fun c H1 => if c = true then Q true H1 else u σ H1 Q
def tNot (t : TT) : TT := fun σ H Q => t σ H fun c H1 => Q (!c) H1
theorem pw_and1 (ha : PT X a tA) : PW X (.BoolOp .And [a] pos) tA := by
  intro wh pins s σ H Q I h
  refine isTrue_and (thn (ha pins s σ H Q I h) fun c s1 e => ?_)
  cases c with
  | true => exact isTrue_and_nil e
  | false => exact e
theorem pw_or1 (ha : PT X a tA) : PW X (.BoolOp .Or [a] pos) tA := by
  intro wh pins s σ H Q I h
  refine isTrue_or (thn (ha pins s σ H Q I h) fun c s1 e => ?_)
  cases c with
  | false => exact isTrue_or_nil e
  | true => exact e
theorem pw_and (ha : PT X a tA) (hb : PW X (.BoolOp .And (b :: rest) pos) tB') : PW X (.BoolOp .And (a :: b :: rest) pos) (tAnd tA tB') := by
  intro wh pins s σ H Q I h
  refine isTrue_and (thn (ha pins s σ H _ I h) fun c s1 ⟨H1, I1, q1⟩ => ?_)
  cases c with
  | true => exact hb wh pins s1 σ H1 Q I1 q1
  | false => exact ⟨H1, I1, q1⟩
theorem pw_or (ha : PT X a tA) (hb : PW X (.BoolOp .Or (b :: rest) pos) tB') : PW X (.BoolOp .Or (a :: b :: rest) pos) (tOr tA tB') := by
  intro wh pins s σ H Q I h
  refine isTrue_or (thn (ha pins s σ H _ I h) fun c s1 ⟨H1, I1, q1⟩ => ?_)
  cases c with
  | true => exact ⟨H1, I1, q1⟩
  | false => exact hb wh pins s1 σ H1 Q I1 q1
theorem pt_not (ha : PT X a tA) : PT X (.UnaryOp .Not a pos) (tNot tA) := by
  intro pins s σ H Q I h
  exact isTrue_not (ha pins s σ H (fun c H1 => Q (!c) H1) I h)
/-- .. as values (bools) -/
def tAndV (ta tb : TE) : TE := fun σ H Q => ta σ H fun x H1 => ∃ c, x = .bl c ∧ if c = true then tb σ H1 Q else Q (.bl false) H1
def tOrV (ta tb : TE) : TE := fun σ H Q => ta σ H fun x H1 => ∃ c, x = .bl c ∧ if c = true then Q (.bl true) H1 else tb σ H1 Q
def tNotV (ta : TE) : TE := fun σ H Q => ta σ H fun x H1 => ∃ c, x = .bl c ∧ Q (.bl (!c)) H1
theorem pe_one {op} {t : TE} (h : PE X a t) : PE X (.BoolOp op [a] pos) t := fun pins s σ H Q I hw => BoolOp_one (h pins s σ H Q I hw)
theorem pe_and (ha : PE X a ta) (hb : PE X (.BoolOp .And (b :: rest) pos) tb) : PE X (.BoolOp .And (a :: b :: rest) pos) (tAndV ta tb) := by
  intro pins s σ H Q I h
  refine BoolOp_and (thn (ha pins s σ H _ I h) fun v s1 ⟨x, H1, I1, r1, q1⟩ => ?_)
  obtain ⟨c, rfl, q1⟩ := q1
  cases r1
  refine wpAny_truthy_bool ?_
  cases c with
  | true => exact hb pins s1 σ H1 Q I1 q1
  | false => exact ⟨.bl false, H1, I1, rfl, q1⟩
theorem pe_or (ha : PE X a ta) (hb : PE X (.BoolOp .Or (b :: rest) pos) tb) : PE X (.BoolOp .Or (a :: b :: rest) pos) (tOrV ta tb) := by
  intro pins s σ H Q I h
  refine BoolOp_or (thn (ha pins s σ H _ I h) fun v s1 ⟨x, H1, I1, r1, q1⟩ => ?_)
  obtain ⟨c, rfl, q1⟩ := q1
  cases r1
  refine wpAny_truthy_bool ?_
  cases c with
  | false => exact hb pins s1 σ H1 Q I1 q1
  | true => exact ⟨.bl true, H1, I1, rfl, q1⟩
theorem pe_not (ha : PE X a ta) : PE X (.UnaryOp .Not a pos) (tNotV ta) := by
  intro pins s σ H Q I h
  refine UnaryOp_ (thn (ha pins s σ H _ I h) fun v s1 ⟨x, H1, I1, r1, q1⟩ => ?_)
  obtain ⟨c, rfl, q1⟩ := q1
  cases r1
  exact not_of (wpAny_truthy_bool ⟨.bl (!c), H1, I1, rfl, q1⟩)
/-- a if t else b -/
def tIf (t : TT) (ta tb : TE) : TE := fun σ H Q => t σ H fun c H1 => if c = true then ta σ H1 Q else tb σ H1 Q
theorem pe_ifExp {c : Expr} (hc : PT X c tA) (ha : PE X a ta) (hb : PE X b tb) : PE X (.IfExp c a b pos) (tIf tA ta tb) := by
  intro pins s σ H Q I h
  refine wpAny_IfExp (thn (hc pins s σ H _ I h) fun d s1 ⟨H1, I1, q1⟩ => ?_)
  cases d with
  | true => exact ha pins s1 σ H1 Q I1 q1
  | false => exact hb pins s1 σ H1 Q I1 q1
end
end L2

namespace L2
open PySem PySem.Spec PyProof.Rows

/-! ### a list, a tuple that is read: tracked, frozen, or an object of the module -/
def SqL (K : PySem.W.Frag) (H : Hp) (a : Addr) (xs : List V) : Prop :=
  Rd H a (.lst xs) ∨
    ∃ (o : Obj) (its : Array Value) (n : Nat), K.lookup a = some o ∧ o.cls = .type "list" ∧ o.dict = none ∧ o.data = .seq its n ∧ its.size ≤ sizeLine ∧ Vals xs its.toList
def SqT (K : PySem.W.Frag) (H : Hp) (a : Addr) (xs : List V) : Prop :=
  Rd H a (.tup xs) ∨
    ∃ (o : Obj) (its : Array Value) (n : Nat), K.lookup a = some o ∧ o.cls = .type "tuple" ∧ o.data = .seq its n ∧ its.size ≤ sizeLine ∧ Vals xs its.toList
def absV : Value → Option V
  | .none => some .non
  | .bool b => some (.bl b)
  | .int i _ => some (.int i)
  | .str x _ => some (.str x)
  | .bytes b _ => some (.byt b)
  | .float b _ => some (.flt b)
  | .ref a => some (.ref a)
  | .type n => some (.ty n)
  | _ => none
theorem RelV.abs {x : V} {u : Value} (r : RelV x u) : absV u = some x := by
  cases x with
  | non => cases r; rfl
  | bl _ => cases r; rfl
  | int _ => obtain ⟨t, rfl⟩ := r; rfl
  | str _ => obtain ⟨t, rfl⟩ := r; rfl
  | byt _ => obtain ⟨t, rfl⟩ := r; rfl
  | flt _ => obtain ⟨t, rfl⟩ := r; rfl
  | ref _ => cases r; rfl
  | ty _ => cases r; rfl
theorem RelV.inj {x y : V} {u : Value} (r : RelV x u) (q : RelV y u) : x = y := Option.some.inj (r.abs.symm.trans q.abs)
theorem Vals.inj : ∀ {xs ys : List V} {us : List Value}, Vals xs us → Vals ys us → xs = ys
  | _, _, _, .nil, .nil => rfl
  | _, _, _, .cons r t, .cons r' t' => by rw [r.inj r', Vals.inj t t']
section
variable {X : Cx} {pins : List (Addr × Obj)} {σ : St} {H : Hp} {s : Shared} {a : Addr} {xs ys : List V}
theorem SqL.of {K : PySem.W.Frag} (h : H a = some (.lst xs)) : SqL K H a xs := .inl (.inl h)
theorem SqT.of {K : PySem.W.Frag} (h : H a = some (.tup xs)) : SqT K H a xs := .inl (.inl h)
theorem Inv.list (I : Inv X pins σ H s) (h : SqL X.K H a xs) : ∃ its : List Value, Vals xs its ∧ PlainL s.heap a its.toArray ∧ xs.length ≤ sizeLine := by
  rcases h with h | ⟨o, its, n, hk, hc, hd, hs, hz, r⟩
  · obtain ⟨z, its, n, r, e⟩ := h.ok I.hok
    exact ⟨its, r, ⟨_, n, e, rfl, rfl, rfl⟩, z⟩
  · refine ⟨its.toList, r, ⟨o, n, I.kIn a o hk, hc, hd, by simpa using hs⟩, ?_⟩
    have e := r.length
    simp only [Array.length_toList] at e
    omega
theorem Inv.tuple (I : Inv X pins σ H s) (h : SqT X.K H a xs) : ∃ its : List Value, Vals xs its ∧ IsTup s.heap a its.toArray ∧ xs.length ≤ sizeLine := by
  rcases h with h | ⟨o, its, n, hk, hc, hs, hz, r⟩
  · obtain ⟨z, its, r, p⟩ := h.ok I.hok
    exact ⟨its, r, p, z⟩
  · refine ⟨its.toList, r, ⟨o, I.kIn a o hk, hc, n, by simpa using hs⟩, ?_⟩
    have e := r.length
    simp only [Array.length_toList] at e
    omega
theorem Inv.list_inj (I : Inv X pins σ H s) (h : SqL X.K H a xs) (h' : SqL X.K H a ys) : xs = ys := by
  obtain ⟨its, r, ⟨o, n, e, _, _, d⟩, _⟩ := I.list h
  obtain ⟨its', r', ⟨o', n', e', _, _, d'⟩, _⟩ := I.list h'
  rw [e] at e'; cases e'
  rw [d] at d'
  injection d' with d1 _
  have : its = its' := by simpa using congrArg Array.toList d1
  subst this
  exact r.inj r'
theorem Inv.tuple_inj (I : Inv X pins σ H s) (h : SqT X.K H a xs) (h' : SqT X.K H a ys) : xs = ys := by
  obtain ⟨its, r, ⟨o, e, _, n, d⟩, _⟩ := I.tuple h
  obtain ⟨its', r', ⟨o', e', _, n', d'⟩, _⟩ := I.tuple h'
  rw [e] at e'; cases e'
  rw [d] at d'
  injection d' with d1 _
  have : its = its' := by simpa using congrArg Array.toList d1
  subst this
  exact r.inj r'
end

/-! ### another wish about exceptions -/
abbrev Cx.wish (X : Cx) (E : Value → Shared → Prop) : Cx := { X with xe := E }
/-- no exception leaves -/
abbrev Cx.nox (X : Cx) : Cx := X.wish fun _ _ => False
theorem Cx.Ok.wish {X : Cx} (ok : X.Ok) (E : Value → Shared → Prop) : (X.wish E).Ok :=
  ⟨ok.mod, ok.kind, ok.glob, ok.blt, ok.above, ok.inj, ok.has, ok.cab, ok.hd, ok.frames, ok.stk, ok.exf, ok.bs, ok.bsz, ok.noex, ok.exfs, ok.funs, ok.frf⟩
theorem Cx.Ok.unwish {X : Cx} {E : Value → Shared → Prop} (ok : (X.wish E).Ok) : X.Ok :=
  ⟨ok.mod, ok.kind, ok.glob, ok.blt, ok.above, ok.inj, ok.has, ok.cab, ok.hd, ok.frames, ok.stk, ok.exf, ok.bs, ok.bsz, ok.noex, ok.exfs, ok.funs, ok.frf⟩
section
variable {X : Cx} {pins : List (Addr × Obj)} {σ : St} {H : Hp} {s : Shared} {E : Value → Shared → Prop}
theorem Inv.wish (I : Inv X pins σ H s) (E : Value → Shared → Prop) : Inv (X.wish E) pins σ H s := ⟨I.ok.wish E, I.os, I.bare, I.base, I.loc, I.cell, I.free, I.freeC, I.pin, I.hok, I.len⟩
theorem Inv.unwish (I : Inv (X.wish E) pins σ H s) : Inv X pins σ H s := ⟨I.ok.unwish, I.os, I.bare, I.base, I.loc, I.cell, I.free, I.freeC, I.pin, I.hok, I.len⟩
theorem SP.unwish {D : Ends} {f : Flow} {s' : Shared} (h : SP (X.wish E) pins D f s') : SP X pins D f s' := by
  cases f with
  | next => obtain ⟨σ', H', I, q⟩ := h; exact ⟨σ', H', I.unwish, q⟩
  | brk => obtain ⟨σ', H', I, q⟩ := h; exact ⟨σ', H', I.unwish, q⟩
  | cont => obtain ⟨σ', H', I, q⟩ := h; exact ⟨σ', H', I.unwish, q⟩
  | ret u => obtain ⟨v, σ', H', I, r, q⟩ := h; exact ⟨v, σ', H', I.unwish, r, q⟩
theorem PE.nox {e : Expr} {t : TE} (h : PE X.nox e t) : PE X e t := fun pins s σ H Q I hw =>
  wpAny_mono (h pins s σ H Q (I.wish _) hw) (fun _ _ ⟨v, H', I', r, q⟩ => ⟨v, H', I'.unwish, r, q⟩) fun _ _ z => False.elim z
theorem PT.nox {e : Expr} {t : TT} (h : PT X.nox e t) : PT X e t := fun pins s σ H Q I hw =>
  wpAny_mono (h pins s σ H Q (I.wish _) hw) (fun _ _ ⟨H', I', q⟩ => ⟨H', I'.unwish, q⟩) fun _ _ z => False.elim z
theorem PSs.nox {st : List Stmt} {t : TS} (h : PSs X.nox st t) : PSs X st t := fun pins s σ H D I hw =>
  wpAny_mono (h pins s σ H D (I.wish _) hw) (fun _ _ q => q.unwish) fun _ _ z => False.elim z
end

/-! ### blocks and small statements -/
section
variable {X : Cx} {st : Stmt} {rest : List Stmt} {t u : TS} {e : Expr} {te : TE} {pos : Pos}
def tNext : TS := fun D σ H => D.nx σ H
def tSeq (t u : TS) : TS := fun D σ H => t { D with nx := u D } σ H
theorem pss_nil : PSs X [] tNext := fun _ _ σ H _ I h => wpAny_execs_nil ⟨σ, H, I, h⟩
theorem pss_cons (h1 : PS X st t) (h2 : PSs X rest u) : PSs X (st :: rest) (tSeq t u) := by
  intro pins s σ H D I h
  refine wpAny_execs_cons (thn (h1 pins s σ H { D with nx := u D } I h) fun f s1 q => ?_)
  cases f with
  | next =>
    obtain ⟨σ', H', I', q⟩ := q
    exact h2 pins s1 σ' H' D I' q
  | ret v => exact q
  | brk => exact q
  | cont => exact q
theorem pss_one (h1 : PS X st t) : PSs X [st] t := by
  intro pins s σ H D I h
  refine wpAny_execs_cons (thn (h1 pins s σ H D I h) fun f s1 q => ?_)
  cases f with
  | next => exact wpAny_execs_nil q
  | ret v => exact q
  | brk => exact q
  | cont => exact q
def tBreak : TS := fun D σ H => D.bk σ H
def tCont : TS := fun D σ H => D.ct σ H
theorem ps_pass : PS X (.Pass pos) tNext := fun _ _ σ H _ I h => wpAny_Pass ⟨σ, H, I, h⟩
theorem ps_break : PS X (.Break pos) tBreak := fun _ _ σ H _ I h => wpAny_Break ⟨σ, H, I, h⟩
theorem ps_continue : PS X (.Continue pos) tCont := fun _ _ σ H _ I h => wpAny_Continue ⟨σ, H, I, h⟩
/-- in a def's body nothing is shown -/
theorem Inv.quiet {pins : List (Addr × Obj)} {σ : St} {H : Hp} {s : Shared} (I : Inv X pins σ H s) : interactive X.env = false := by simp [interactive, I.ok.kind]
/-- a docstring -/
theorem ps_doc {x j pos pos'} : PS X (.Expr (.Constant (.str x) j pos) pos') tNext := fun _ s σ H _ I h => wpAny_Expr (Calls.Constant_str (show SP X _ _ .next { s with toks := s.toks + 1 } from ⟨σ, H, I.tok _, h⟩)) I.quiet
/-- an expression whose value is dropped -/
def tDrop (te : TE) : TS := fun D σ H => te σ H fun _ H1 => D.nx σ H1
theorem ps_expr (he : PE X e te) (hs : swapsWith e none pos.line X.env = pure false := by rfl) : PS X (.Expr e pos) (tDrop te) := by
  intro pins s σ H D I h
  exact wpAny_Expr_any (thn (he pins s σ H _ I h) fun v s1 ⟨x, H1, I1, r1, q1⟩ => ⟨σ, H1, I1, q1⟩) I.quiet hs
def tRet (te : TE) : TS := fun D σ H => te σ H D.rt
theorem ps_ret (he : PE X e te) : PS X (.Return (some e) pos) (tRet te) := by
  intro pins s σ H D I h
  exact wpAny_Return_some (thn (he pins s σ H _ I h) fun v s1 ⟨x, H1, I1, r1, q1⟩ => ⟨x, σ, H1, I1, r1, q1⟩)
def tRetN : TS := fun D _ H => D.rt .non H
theorem ps_retN : PS X (.Return none pos) tRetN := fun _ _ σ H _ I h => wpAny_Return_none ⟨.non, σ, H, I, rfl, h⟩
def tIfS (c : TT) (t u : TS) : TS := fun D σ H => c σ H fun b H1 => if b = true then t D σ H1 else u D σ H1
theorem ps_if {c : Expr} {a b : List Stmt} {tc : TT} (hc : PT X c tc) (ha : PSs X a t) (hb : PSs X b u) : PS X (.If c a b pos) (tIfS tc t u) := by
  intro pins s σ H D I h
  refine wpAny_If (thn (hc pins s σ H _ I h) fun d s1 ⟨H1, I1, q1⟩ => ?_)
  cases d with
  | true => exact ha pins s1 σ H1 D I1 q1
  | false => exact hb pins s1 σ H1 D I1 q1
/-- code that the proof never comes to -/
def tNever : TS := fun _ _ _ => False
theorem ps_never : PS X st tNever := fun _ _ _ _ _ _ h => h.elim
theorem pss_never {sts : List Stmt} : PSs X sts tNever := fun _ _ _ _ _ _ h => h.elim
end

/-! ### targets -/
abbrev TG := V → St → Hp → (St → Hp → Prop) → Prop
abbrev TGs := List V → St → Hp → (St → Hp → Prop) → Prop
def PG (X : Cx) (target : Expr) (t : TG) : Prop :=
  ∀ (pins : List (Addr × Obj)) (s : Shared) (σ : St) (H : Hp) (v : V) (u : Value) (Q : St → Hp → Prop), Inv X pins σ H s → RelV v u → t v σ H Q →
    wpAny (model X.prog X.w) X.A (assign target X.env u) (fun _ s' => ∃ σ' H', Inv X pins σ' H' s' ∧ Q σ' H') X.xe s
/-- several targets, one after another -/
def PGs (X : Cx) (ts : List Expr) (t : TGs) : Prop :=
  ∀ (pins : List (Addr × Obj)) (s : Shared) (σ : St) (H : Hp) (vs : List V) (us : List Value) (Q : St → Hp → Prop), Inv X pins σ H s → Vals vs us → t vs σ H Q →
    wpAny (model X.prog X.w) X.A (assignInOrder ((assignEach ts X.env).map (·.2)) us) (fun _ s' => ∃ σ' H', Inv X pins σ' H' s' ∧ Q σ' H') X.xe s
/-- o[i] = v, by values -/
abbrev TSet := V → V → V → Hp → (Hp → Prop) → Prop
def PSet (X : Cx) (t : TSet) : Prop :=
  ∀ (pins : List (Addr × Obj)) (s : Shared) (σ : St) (H : Hp) (o i v : V) (ov iv u : Value) (Q : Hp → Prop), Inv X pins σ H s → RelV o ov → RelV i iv → RelV v u → t o i v H Q →
    wpAny (model X.prog X.w) X.A (setItem ov iv u) (fun _ s' => ∃ H', Inv X pins σ H' s' ∧ Q H') X.xe s
/-- a op= b, by values -/
abbrev TIp := V → V → Hp → VK → Prop
def PIp (X : Cx) (op : Operator) (t : TIp) : Prop :=
  ∀ (pins : List (Addr × Obj)) (s : Shared) (σ : St) (H : Hp) (x y : V) (v u : Value) (Q : VK), Inv X pins σ H s → RelV x v → RelV y u → t x y H Q →
    wpAny (model X.prog X.w) X.A (inplaceOp op v u) (EP X pins σ Q) X.xe s
section
variable {X : Cx} {pos : Pos}
def gName (i : Nat) : TG := fun v σ H Q => Q (σ.set i (some v)) H
theorem pg_name {i : Nat} {x : Str} (hN : X.N.Nodup) (hi : X.N[i]? = some x) (hx : Loc X.env.scope x) (hf : X.fn x = true ∨ X.env.scope.names.lookup x = some .local := by first | exact .inl rfl | exact .inr rfl | assumption) : PG X (.Name x pos) (gName i) := by
  intro pins s σ H v u Q I r h
  exact wpAny_assign_Name (store_ok I hN hi hx r (fun s' I' => ⟨_, H, I', h⟩) hf)
def gNil : TGs := fun vs σ H Q => vs = [] ∧ Q σ H
def gCons (t : TG) (u : TGs) : TGs := fun vs σ H Q => ∃ v r, vs = v :: r ∧ t v σ H fun σ' H' => u r σ' H' Q
theorem pgs_nil : PGs X [] gNil := by
  intro pins s σ H vs us Q I r h
  obtain ⟨e, h⟩ := h
  subst e
  cases r
  exact assignInOrder_nil ⟨σ, H, I, h⟩
theorem pgs_cons {e : Expr} {es : List Expr} {t : TG} {u : TGs} (h1 : PG X e t) (h2 : PGs X es u)
    (hs : (assignEach (e :: es) X.env).map (·.2) = assign e X.env :: (assignEach es X.env).map (·.2) := by rfl) : PGs X (e :: es) (gCons t u) := by
  intro pins s σ H vs us Q I r h
  obtain ⟨v, vr, e1, h⟩ := h
  subst e1
  cases r with
  | cons r rr =>
    rw [hs]
    refine assignInOrder_cons (thn (h1 pins s σ H _ _ _ I r h) fun _ s1 ⟨σ1, H1, I1, q1⟩ => ?_)
    exact h2 pins s1 σ1 H1 _ _ Q I1 rr q1
/-- (a, b, ..) = a tuple of that length -/
def gTup (K : PySem.W.Frag) (n : Nat) (t : TGs) : TG := fun v σ H Q => ∃ a xs, v = .ref a ∧ SqT K H a xs ∧ xs.length = n ∧ t xs σ H Q
theorem pg_tup {es : List Expr} {k : Nat} {t : TGs} {n : Nat} (hc : X.calm = true) (h : PGs X es t)
    (hn : (assignEach es X.env).length = n := by rfl) (hst : (assignEach es X.env).findIdx? (·.1) = none := by rfl) : PG X (.Tuple es k pos) (gTup X.K n t) := by
  intro pins s σ H v u Q I r hw
  obtain ⟨a, xs, e1, hq, hl, hw⟩ := hw
  subst e1
  cases r
  obtain ⟨its, rv, ht, hz⟩ := I.tuple hq
  refine assign_Tuple_tuple (I.ok.hd hc) ht (by simp [hn, ← hl, rv.length]) hst fun h' hx => ?_
  have I1 : Inv X pins σ H { s with heap := h' } := I.kept (t' := s.toks) fun b o e => hx b o (Nat.ne_of_lt (Heap.lt_size e)) e
  exact h pins _ σ H xs _ Q I1 (by simpa using rv) hw
/-- o[i] = .. -/
def gSub (to ti : TE) (t : TSet) : TG := fun v σ H Q => to σ H fun o H1 => ti σ H1 fun i H2 => t o i v H2 fun H3 => Q σ H3
theorem pg_sub {o i : Expr} {to ti : TE} {t : TSet} (ho : PE X o to) (hi : PE X i ti) (hs : PSet X t)
    (ha : ∀ v, assign (.Subscript o i pos) X.env v = (do
      let ov ← holding [v] (eval o X.env)
      let iv ← holding [v, ov] (eval i X.env)
      standAt pos
      holding [v, ov, iv] (setItem ov iv v)
      release [v, ov, iv] []) := by intro _; rfl) : PG X (.Subscript o i pos) (gSub to ti t) := by
  intro pins s σ H v u Q I r h
  rw [ha]
  refine wpAny_bind (wpAny_holding (thn (ho pins s σ H _ I h) fun ov s1 ⟨x, H1, I1, r1, q1⟩ => ?_))
  refine wpAny_bind (wpAny_holding (thn (hi pins s1 σ H1 _ I1 q1) fun iv s2 ⟨y, H2, I2, r2, q2⟩ => ?_))
  refine wpAny_bind (wpAny_standAt (wpAny_bind (wpAny_holding (thn (hs pins s2 σ H2 x y v ov iv u _ I2 r1 r2 r q2) fun _ s3 ⟨H3, I3, q3⟩ => ?_))))
  exact wpAny_release ⟨σ, H3, I3, q3⟩
/-- target = value -/
def tAsg (te : TE) (g : TG) : TS := fun D σ H => te σ H fun x H1 => g x σ H1 D.nx
theorem ps_asg {tg e : Expr} {te : TE} {g : TG} (he : PE X e te) (hg : PG X tg g) (hs : swapsWithSole [tg] e pos.line X.env = pure false := by rfl) (hw : swappedStores [tg] e X.env = pure none := by rfl)
    (h1 : (assignEach [tg] X.env).map (·.2) = [assign tg X.env] := by rfl) : PS X (.Assign [tg] e pos) (tAsg te g) := by
  intro pins s σ H D I h
  refine wpAny_Assign_stores (thn (he pins s σ H _ I h) fun v s1 ⟨x, H1, I1, r1, q1⟩ => ?_) hs hw
  rw [h1]
  exact thn (hg pins s1 σ H1 x v _ I1 r1 q1) fun _ s2 q => q
/-- name = value -/
theorem ps_set {i : Nat} {x : Str} {e : Expr} {te : TE} {pos' : Pos} (hN : X.N.Nodup) (hi : X.N[i]? = some x) (hx : Loc X.env.scope x) (he : PE X e te) (hs : swapsWith e (some (.Name x pos')) pos.line X.env = pure false := by rfl) (hf : X.fn x = true ∨ X.env.scope.names.lookup x = some .local := by first | exact .inl rfl | exact .inr rfl | assumption) :
    PS X (.Assign [.Name x pos'] e pos) (tAsg te (gName i)) := by
  intro pins s σ H D I h
  refine wpAny_Assign_Name (thn (he pins s σ H _ I h) fun v s1 ⟨y, H1, I1, r1, q1⟩ => ?_) hs
  exact store_ok I1 hN hi hx r1 (fun s2 I2 => ⟨_, H1, I2, q1⟩) hf
/-- a, b = x, y with plain local names: stored from the right; the pair itself is not tracked (the opening rows as in PyProof/Rows/TupAssign.lean:23) -/
def tPar (i j : Nat) (ta : TA) : TS := fun D σ H => ta σ H fun vs H1 => ∃ v w, vs = [v, w] ∧ D.nx ((σ.set i (some v)).set j (some w)) H1
theorem ps_par {i j : Nat} {x y : Str} {a b : Expr} {ta : TA} {px py pt : Pos} {kt k2 pt2} (hc : X.calm = true) (hN : X.N.Nodup) (hi : X.N[i]? = some x) (hj : X.N[j]? = some y) (hij : i ≠ j)
    (hx : X.env.scope.names.lookup x = some .local) (hy : X.env.scope.names.lookup y = some .local) (ha : PA X [a, b] ta)
    (hw : swappedStores [.Tuple [.Name x px, .Name y py] kt pt] (.Tuple [a, b] k2 pt2) X.env = pure (some [x, y]))
    (hs : swapsWithSole [.Tuple [.Name x px, .Name y py] kt pt] (.Tuple [a, b] k2 pt2) pos.line X.env = pure false := by rfl) :
    PS X (.Assign [.Tuple [.Name x px, .Name y py] kt pt] (.Tuple [a, b] k2 pt2) pos) (tPar i j ta) := by
  intro pins s σ H D I h
  rw [exec_Assign_arm]
  refine wpAny_bind (wpAny_standAt ?_)
  rw [hs]
  refine wpAny_bind (wpAny_pure ?_)
  rw [if_neg (by decide)]
  refine wpAny_bind (Tuple_ (thn (ha _ pins s σ H _ I h) fun us s1 ⟨vs, H1, I1, r1, q1⟩ => ?_))
  obtain ⟨v, w, e1, q1⟩ := q1
  subst e1
  obtain ⟨u1, u2, rfl, rv, rw'⟩ : ∃ u1 u2, us = [u1, u2] ∧ RelV v u1 ∧ RelV w u2 := by
    cases r1 with
    | cons p q =>
      cases q with
      | cons p' q' =>
        cases q'
        exact ⟨_, _, rfl, p, p'⟩
  refine wpAny_newObj_type ?_ (by show 2 ≤ sizeLine; decide)
  have I2 : Inv X pins σ H1 { s1 with heap := s1.heap.push { cls := .type "tuple", data := .seq [u1, u2].toArray } } := I1.kept (t' := s1.toks) fun b o e => Heap.get?_push_of_some _ e
  rw [hw]
  refine wpAny_bind (wpAny_pure ?_)
  show wpAny (model X.prog X.w) X.A (do rule "assign.swapped-stores"; let items ← unpackItems (.ref s1.heap.objs.size) 2 none; assignInOrder [fun v => bindName X.env y v, fun v => bindName X.env x v] items.reverse; pure Flow.next) _ _ _
  refine wpAny_bind (wpAny_rule (wpAny_bind (unpackItems_tuple (items := #[u1, u2]) (I.ok.hd hc) (IsTup.new s1.heap _) fun h' hx' => ?_)))
  have I3 := I2.kept (h' := h') (t' := s1.toks) fun b o e => hx' b o (Nat.ne_of_lt (Heap.lt_size e)) e
  show wpAny _ _ (assignInOrder [fun v => bindName X.env y v, fun v => bindName X.env x v] [u2, u1] >>= fun _ => pure Flow.next) _ _ _
  refine wpAny_bind (assignInOrder_cons (wpAny_bindName (store_ok I3 hN hj (.inl hy) rw' (fun s2 I4 => ?_) (.inr hy))))
  refine assignInOrder_cons (wpAny_bindName (store_ok I4 hN hi (.inl hx) rv (fun s3 I5 => assignInOrder_nil (wpAny_pure ?_)) (.inr hx)))
  rw [List.set_comm _ _ (Ne.symm hij)] at I5
  exact ⟨_, H1, I5, q1⟩
/-- name op= e -/
def tAug (i : Nat) (te : TE) (ti : TIp) : TS := fun D σ H => ∃ x, σ[i]? = some (some x) ∧ te σ H fun y H1 => ti x y H1 fun z H2 => D.nx (σ.set i (some z)) H2
theorem ps_aug {i : Nat} {x : Str} {e : Expr} {te : TE} {op : Operator} {ti : TIp} {pos' : Pos} (hN : X.N.Nodup) (hi : X.N[i]? = some x) (hx : Loc X.env.scope x) (he : PE X e te) (ho : PIp X op ti) (hf : X.fn x = true ∨ X.env.scope.names.lookup x = some .local := by first | exact .inl rfl | exact .inr rfl | assumption) :
    PS X (.AugAssign (.Name x pos') op e pos) (tAug i te ti) := by
  intro pins s σ H D I h
  obtain ⟨v, e1, h⟩ := h
  obtain ⟨m, hn, hl⟩ := I.loc
  have vis : Vis X.env.scope x := by rcases hx with k | k; exact .inl k; exact .inr (.inl k)
  obtain ⟨u, r, l⟩ := hl i x v hi e1 vis
  refine wpAny_AugAssign_Name ?_
  have go : wpAny (model X.prog X.w) X.A (eval e X.env) (fun w s₂ => wpAny (model X.prog X.w) X.A (inplaceOp op u w) (fun r s₃ => wpAny (model X.prog X.w) X.A (storeName X.env x r) (fun _ => SP X pins D .next) X.xe s₃) X.xe s₂) X.xe s := by
    refine thn (he pins s σ H _ I h) fun w s1 ⟨y, H1, I1, r1, q1⟩ => ?_
    refine thn (ho pins s1 σ H1 v y u w _ I1 r r1 q1) fun z s2 ⟨zv, H2, I2, r2, q2⟩ => ?_
    exact store_ok I2 hN hi hx r2 (fun s3 I3 => ⟨_, H2, I3, q2⟩) hf
  rcases l with ⟨hk, hm⟩ | ⟨hk, c, hc, hcell⟩
  · exact wpAny_loadName_local I.ok.kind hk hn hm go
  · rcases hk with hk | hk
    · exact wpAny_loadName_cell I.ok.kind hk hc hcell go
    · rcases hx with k | k
      · have : X.env.scope.names.lookup x = some .free := hk
        rw [k] at this; cases this
      · have : X.env.scope.names.lookup x = some .free := hk
        rw [k] at this; cases this
/-- o[i] op= e -/
def tAugS (to ti te : TE) (tget : V → V → Hp → VK → Prop) (tip : TIp) (tset : TSet) : TS := fun D σ H => to σ H fun o H1 => ti σ H1 fun i H2 => tget o i H2 fun x H3 => te σ H3 fun y H4 => tip x y H4 fun z H5 => tset o i z H5 fun H6 => D.nx σ H6
/-- o[i], by values -/
def PGet (X : Cx) (t : V → V → Hp → VK → Prop) : Prop :=
  ∀ (pins : List (Addr × Obj)) (s : Shared) (σ : St) (H : Hp) (o i : V) (ov iv : Value) (Q : VK), Inv X pins σ H s → RelV o ov → RelV i iv → t o i H Q →
    wpAny (model X.prog X.w) X.A (getItem ov iv) (EP X pins σ Q) X.xe s
theorem ps_augS {o i e : Expr} {to ti te : TE} {tget : V → V → Hp → VK → Prop} {tip : TIp} {tset : TSet} {op : Operator} {tpos : Pos} (ho : PE X o to) (hi : PE X i ti) (hg : PGet X tget) (he : PE X e te) (hp : PIp X op tip) (hs : PSet X tset)
    (ha : ∀ ov iv new, augStore i ov iv new = (do holding [new, ov, iv] (setItem ov iv new); release [new, ov, iv] []; pure .next) := by intros; rfl) : PS X (.AugAssign (.Subscript o i tpos) op e pos) (tAugS to ti te tget tip tset) := by
  intro pins s σ H D I h
  refine wpAny_AugAssign_SubscriptAny (thn (ho pins s σ H _ I h) fun ov s1 ⟨x1, H1, I1, r1, q1⟩ => ?_) ha
  refine thn (hi pins s1 σ H1 _ I1 q1) fun iv s2 ⟨x2, H2, I2, r2, q2⟩ => ?_
  refine thn (hg pins s2 σ H2 x1 x2 ov iv _ I2 r1 r2 q2) fun old s3 ⟨x3, H3, I3, r3, q3⟩ => ?_
  refine thn (he pins s3 σ H3 _ I3 q3) fun v s4 ⟨x4, H4, I4, r4, q4⟩ => ?_
  refine thn (hp pins s4 σ H4 x3 x4 old v _ I4 r3 r4 q4) fun new s5 ⟨x5, H5, I5, r5, q5⟩ => ?_
  exact thn (hs pins s5 σ H5 x1 x2 x5 ov iv new _ I5 r1 r2 r5 q5) fun _ s6 ⟨H6, I6, q6⟩ => ⟨σ, H6, I6, q6⟩
/-- ints -/
def ipI (f : Int → Int → Int) : TIp := fun x y H Q => ∃ i j, x = .int i ∧ y = .int j ∧ Q (.int (f i j)) H
theorem ip_add : PIp X .Add (ipI fun i j => i + j) := by
  intro pins s σ H x y v u Q I r1 r2 h
  obtain ⟨i, j, e1, e2, q⟩ := h
  subst e1; subst e2
  obtain ⟨t, rfl⟩ := r1
  obtain ⟨t', rfl⟩ := r2
  exact iadd_int ⟨.int _, H, I.tok _, ⟨_, rfl⟩, q⟩
theorem ip_sub : PIp X .Sub (ipI fun i j => i - j) := by
  intro pins s σ H x y v u Q I r1 r2 h
  obtain ⟨i, j, e1, e2, q⟩ := h
  subst e1; subst e2
  obtain ⟨t, rfl⟩ := r1
  obtain ⟨t', rfl⟩ := r2
  exact isub_int ⟨.int _, H, I.tok _, ⟨_, rfl⟩, q⟩
end

/-! ### while -/
section
variable {X : Cx} {pos : Pos}
/-- the invariant W with its measure -/
def tWhile (c : TT) (tb : TS) : TS := fun D σ H => ∃ W : Nat → St → Hp → Prop, (∃ m, W m σ H) ∧ ∀ m σ H, W m σ H →
  c σ H fun b H1 => if b = true then ∃ N : St → Hp → Prop, (∀ σ' H', N σ' H' → ∃ m', m' < m ∧ W m' σ' H') ∧ tb { D with nx := N, ct := N, bk := D.nx } σ H1 else D.nx σ H1
theorem ps_while {c : Expr} {body : List Stmt} {tc : TT} {tb : TS} (hp : PassesOwn (model X.prog X.w) X.A X.env X.xe) (hc : PT X c tc) (hb : PSs X body tb) : PS X (.While c body [] pos) (tWhile tc tb) := by
  intro pins s σ H D I h
  obtain ⟨W, ⟨m0, w0⟩, turn⟩ := h
  refine wpAny_While (codeAny_whileLoop (fun n s' => ∃ σ' H', Inv X pins σ' H' s' ∧ W n σ' H') ?_ m0 ⟨σ, H, I, w0⟩)
  rintro n s1 ⟨σ1, H1, I1, w1⟩
  refine wpAny_passesOwn hp (thn (hc pins s1 σ1 H1 _ I1 (turn n σ1 H1 w1)) fun b s2 ⟨H2, I2, q2⟩ => ?_)
  cases b with
  | true =>
    obtain ⟨N, hN, q2⟩ := q2
    rw [if_pos rfl]
    refine wpAny_passesOwn hp (thn (hb pins s2 σ1 H2 _ I2 q2) fun f s3 q3 => ?_)
    cases f with
    | next =>
      obtain ⟨σ3, H3, I3, n3⟩ := q3
      obtain ⟨m', hm, w3⟩ := hN σ3 H3 n3
      exact ⟨m', hm, σ3, H3, I3, w3⟩
    | cont =>
      obtain ⟨σ3, H3, I3, n3⟩ := q3
      obtain ⟨m', hm, w3⟩ := hN σ3 H3 n3
      exact ⟨m', hm, σ3, H3, I3, w3⟩
    | brk => exact q3
    | ret v => exact q3
  | false =>
    rw [if_neg Bool.false_ne_true]
    exact wpAny_execs_nil ⟨σ1, H2, I2, q2⟩
end

/-! ### what a loop or a comprehension walks -/
/-- at turn i: it yields x (the heap may grow), or it stops -/
structure It where
  go : Nat → Hp → Prop
  yld : Nat → Hp → V → Hp → Prop
  stop : Nat → Hp → Prop
/-- the iterator's own objects may turn: they are not the frame's, not pinned, younger than the entry (or a comprehension's own) -/
def FpOk (X : Cx) (pins : List (Addr × Obj)) (H : Hp) (b : Addr) : Prop :=
  H b = none ∧ b ≠ X.env.locals ∧ b ∉ X.fs ∧ (b ∈ X.ex ∨ X.s₀.heap.objs.size ≤ b) ∧ (∀ x c, X.env.cells.lookup x = some c → c ≠ b) ∧ ∀ p ∈ X.pn ++ pins, p.1 ≠ b
theorem Inv.fpOk {X : Cx} {pins : List (Addr × Obj)} {σ : St} {H H' : Hp} {s : Shared} {b : Addr} (I : Inv X pins σ H s) (hb : s.heap.objs.size ≤ b) (hn : H' b = none) : FpOk X pins H' b := by
  refine ⟨hn, Nat.ne_of_gt (Nat.lt_of_lt_of_le I.lt hb), I.nofs hb, .inr (Nat.le_trans I.sz hb), fun x c e z => ?_, fun p hp z => ?_⟩
  · obtain ⟨v, q⟩ := I.cell x c e
    exact absurd (Nat.lt_of_lt_of_le q.lt (by rw [z]; exact hb)) (Nat.lt_irrefl _)
  · exact absurd (Nat.lt_of_lt_of_le (Heap.lt_size (I.pin p hp).1) (by rw [z]; exact hb)) (Nat.lt_irrefl _)
structure Turn (P : Program) (w : World) (K : PySem.W.Frag) (tg : Expr) (J : It) (fp : List Addr) (it : Addr) (tn : Nat → Heap → Prop) : Prop where
  mem : it ∈ fp
  obj : ∀ i h, tn i h → ∀ b ∈ fp, ∃ o, h.get? b = some o ∧ ∀ v, o.data ≠ .cell v
  keep : ∀ i h h', tn i h → (∀ b ∈ fp, ∀ o, h.get? b = some o → h'.get? b = some o) → tn i h'
  item : ∀ (X : Cx), X.prog = P → X.w = w → X.K = K → X.calm = true → ∀ (i : Nat) (pins : List (Addr × Obj)) (s : Shared) (σ : St) (H : Hp) (E : Value → Shared → Prop), Inv X pins σ H s → (∀ b ∈ fp, FpOk X pins H b) → tn i s.heap → J.go i H →
    wpAny (model P w) X.A (pyNext (.ref it)) (fun r s1 => ∃ u, r = some u ∧
      wpAny (model P w) X.A (letOwnedTupleGo tg (.ref it) u) (fun _ s2 => ∃ x H', Inv X pins σ H' s2 ∧ RelV x u ∧ J.yld i H x H' ∧ tn (i + 1) s2.heap ∧ ∀ b ∈ fp, H' b = none) E s1) E s
  done : ∀ (X : Cx), X.prog = P → X.w = w → X.K = K → X.calm = true → ∀ (i : Nat) (pins : List (Addr × Obj)) (s : Shared) (σ : St) (H : Hp) (E : Value → Shared → Prop), Inv X pins σ H s → (∀ b ∈ fp, FpOk X pins H b) → tn i s.heap → J.stop i H →
    wpAny (model P w) X.A (pyNext (.ref it)) (fun r s1 => r = none ∧ Inv X pins σ H s1) E s
  self : ∀ (A : Around) (i : Nat) (s : Shared) (Q : Value → Shared → Prop) (E : Value → Shared → Prop), tn i s.heap → Q (.ref it) s → wpAny (model P w) A (pyIter (.ref it)) Q E s
abbrev TI := St → Hp → (It → Hp → Prop) → Prop
/-- an iterator has come -/
def PIE (X : Cx) (pins : List (Addr × Obj)) (σ : St) (tg : Expr) (R : It → Hp → Prop) (itv : Value) (s2 : Shared) : Prop :=
  ∃ (it : Addr) (fp : List Addr) (tn : Nat → Heap → Prop) (J : It) (H' : Hp), itv = .ref it ∧ Inv X pins σ H' s2 ∧ Turn X.prog X.w X.K tg J fp it tn ∧ tn 0 s2.heap ∧ (∀ b ∈ fp, FpOk X pins H' b) ∧ R J H'
def PI (X : Cx) (tg iter : Expr) (wi : TI) : Prop :=
  ∀ (pins : List (Addr × Obj)) (s : Shared) (σ : St) (H : Hp) (R : It → Hp → Prop), Inv X pins σ H s → wi σ H R →
    wpAny (model X.prog X.w) X.A (eval iter X.env) (fun v s1 => wpAny (model X.prog X.w) X.A (pyIter v) (PIE X pins σ tg R) X.xe s1) X.xe s

/-- the step ahead of the store is nothing for an iterator that keeps no tuple -/
theorem go_of {M : Model} {A : Around} {E : Value → Shared → Prop} {s : Shared} {tg : Expr} {it : Addr} {u : Value} {o : Obj} {n : String} {vs : Array Value} {Q : Unit → Shared → Prop} (ho : s.heap.get? it = some o) (hc : o.cls = .type n) (hd : o.data = .fields vs)
    (hn : ["enumerate", "zip", "dict_itemiterator", "dict_reverseitemiterator", "odict_iterator", "itertools.zip_longest", "itertools.pairwise"].contains n = false) (hQ : Q () s) : wpAny M A (letOwnedTupleGo tg (.ref it) u) Q E s := by
  unfold letOwnedTupleGo
  cases tg <;> first
    | exact wpAny_pure hQ
    | (cases u <;> first
        | exact wpAny_pure hQ
        | (refine wpAny_bind (wpAny_load ho ?_)
           rw [hc, hd]
           show wpAny M A (if (["enumerate", "zip", "dict_itemiterator", "dict_reverseitemiterator", "odict_iterator", "itertools.zip_longest", "itertools.pairwise"].contains n && vs[0]? == some (rawInt _)) = true then _ else _) Q E s
           rw [if_neg (by intro h; rw [hn, Bool.false_and] at h; cases h)]
           exact wpAny_pure hQ))

/-- the list at a, as it stands at each turn (a loop may append to it) -/
def Itl (K : PySem.W.Frag) (a : Addr) : It :=
  ⟨fun i H => ∃ xs x, SqL K H a xs ∧ xs[i]? = some x, fun i H x H' => H' = H ∧ ∀ xs, SqL K H a xs → xs[i]? = some x, fun i H => ∃ xs, SqL K H a xs ∧ xs.length ≤ i⟩
def Itt (K : PySem.W.Frag) (a : Addr) : It :=
  ⟨fun i H => ∃ xs x, SqT K H a xs ∧ xs[i]? = some x, fun i H x H' => H' = H ∧ ∀ xs, SqT K H a xs → xs[i]? = some x, fun i H => ∃ xs, SqT K H a xs ∧ xs.length ≤ i⟩
/-- lo, lo + 1, .. (n of them) -/
def Itr (lo : Int) (n : Nat) : It := ⟨fun i _ => i < n, fun i H x H' => H' = H ∧ x = .int (lo + i), fun i _ => n ≤ i⟩
theorem turn_list {P : Program} {w : World} {K : PySem.W.Frag} {tg : Expr} (a it : Addr) : Turn P w K tg (Itl K a) [it] it (fun i h => h.IsListIter it a i) where
  mem := by simp
  obj := fun i h st b hb => by
    have e : b = it := by simpa using hb
    subst e
    obtain ⟨o, e, c, d⟩ := st
    exact ⟨o, e, fun v z => by rw [d] at z; cases z⟩
  keep := fun i h h' st k => st.at fun o e => k it (by simp) o e
  item := by
    intro X hP hw hK hc i pins s σ H E I hf st hg
    subst hP hw hK
    obtain ⟨xs, x, hq, hx⟩ := hg
    obtain ⟨its, rv, p, hz⟩ := I.list hq
    obtain ⟨u, hu, ru⟩ := rv.get hx
    obtain ⟨f0, f1, f2, f3, f4, f5⟩ := hf it (by simp)
    refine wpAny_pyNext_list_item st p.isList (x := u) (by simpa using hu) fun h' st' sb => ?_
    have I1 : Inv X pins σ H { s with heap := h' } := I.turned (t' := s.toks) (fun b o hb e => (sb.2 b hb).trans e) f0 f1 f3 f4 f5
    obtain ⟨o, e, c, d⟩ := id st'
    exact ⟨u, rfl, go_of (s := { s with heap := h' }) e c d (by decide) ⟨x, H, I1, ru, ⟨rfl, fun ys hy => by rw [I.list_inj hy hq]; exact hx⟩, st', fun b hb => (hf b hb).1⟩⟩
  done := by
    intro X hP hw hK hc i pins s σ H E I hf st hg
    subst hP hw hK
    obtain ⟨xs, hq, hx⟩ := hg
    obtain ⟨its, rv, p, hz⟩ := I.list hq
    obtain ⟨f0, f1, f2, f3, f4, f5⟩ := hf it (by simp)
    have hl := rv.length
    exact wpAny_pyNext_list_end (I.ok.hd hc) st p.isList (by simp; omega) fun h' eb => ⟨rfl, I.turned (t' := s.toks) (fun b o hb e => eb b o hb e) f0 f1 f3 f4 f5⟩
  self := fun _ _ _ _ _ st h => wpAny_pyIter_listiter st h
theorem turn_tuple {P : Program} {w : World} {K : PySem.W.Frag} {tg : Expr} (a it : Addr) : Turn P w K tg (Itt K a) [it] it (fun i h => h.IsTupleIter it a i) where
  mem := by simp
  obj := fun i h st b hb => by
    have e : b = it := by simpa using hb
    subst e
    obtain ⟨o, e, c, d⟩ := st
    exact ⟨o, e, fun v z => by rw [d] at z; cases z⟩
  keep := fun i h h' st k => st.at fun o e => k it (by simp) o e
  item := by
    intro X hP hw hK hc i pins s σ H E I hf st hg
    subst hP hw hK
    obtain ⟨xs, x, hq, hx⟩ := hg
    obtain ⟨its, rv, p, hz⟩ := I.tuple hq
    obtain ⟨u, hu, ru⟩ := rv.get hx
    obtain ⟨f0, f1, f2, f3, f4, f5⟩ := hf it (by simp)
    refine wpAny_pyNext_tuple_item st (show s.heap.IsTuple a its.toArray from p) (x := u) (by simpa using hu) fun h' st' sb => ?_
    have I1 : Inv X pins σ H { s with heap := h' } := I.turned (t' := s.toks) (fun b o hb e => (sb.2 b hb).trans e) f0 f1 f3 f4 f5
    obtain ⟨o, e, c, d⟩ := id st'
    exact ⟨u, rfl, go_of (s := { s with heap := h' }) e c d (by decide) ⟨x, H, I1, ru, ⟨rfl, fun ys hy => by rw [I.tuple_inj hy hq]; exact hx⟩, st', fun b hb => (hf b hb).1⟩⟩
  done := by
    intro X hP hw hK hc i pins s σ H E I hf st hg
    subst hP hw hK
    obtain ⟨xs, hq, hx⟩ := hg
    obtain ⟨its, rv, p, hz⟩ := I.tuple hq
    obtain ⟨f0, f1, f2, f3, f4, f5⟩ := hf it (by simp)
    have hl := rv.length
    exact wpAny_pyNext_tuple_end (I.ok.hd hc) st (show s.heap.IsTuple a its.toArray from p) (by simp; omega) fun h' eb => ⟨rfl, I.turned (t' := s.toks) (fun b o hb e => eb b o hb e) f0 f1 f3 f4 f5⟩
  self := fun _ _ _ _ _ st h => wpAny_pyIter_tupleiter st h
theorem turn_range {P : Program} {w : World} {K : PySem.W.Frag} {tg : Expr} (it : Addr) (lo : Int) (n : Nat) : Turn P w K tg (Itr lo n) [it] it (fun i h => IsRangeIter h it (lo + (i : Nat) * 1) ((n : Int) - (i : Nat)) 1) where
  mem := by simp
  obj := fun i h st b hb => by
    have e : b = it := by simpa using hb
    subst e
    exact ⟨_, st, fun v z => by
      have z' : Data.fields _ = Data.cell v := z
      cases z'⟩
  keep := fun i h h' st k => k it (by simp) _ st
  item := by
    intro X hP hw hK hc i pins s σ H E I hf st hg
    subst hP hw hK
    obtain ⟨f0, f1, f2, f3, f4, f5⟩ := hf it (by simp)
    have W := Walks.range (prog := X.prog) (w := X.w) (I.ok.hd hc) it lo 1 n
    refine W.item i s _ _ hg st fun v h' tk hv st' kk => ?_
    obtain ⟨t, rfl⟩ := hv
    have I1 : Inv X pins σ H { s with heap := h', toks := tk } := I.turned (fun b o hb e => kk b o (by simpa using hb) e) f0 f1 f3 f4 f5
    refine ⟨_, rfl, go_of (s := { s with heap := h', toks := tk }) (n := "range_iterator") st' rfl rfl (by decide) ⟨.int (lo + i), H, I1, ⟨t, ?_⟩, ⟨rfl, rfl⟩, st', fun b hb => (hf b hb).1⟩⟩
    rw [Int.mul_one]
  done := by
    intro X hP hw hK hc i pins s σ H E I hf st hg
    subst hP hw hK
    obtain ⟨f0, f1, f2, f3, f4, f5⟩ := hf it (by simp)
    exact wpAny_pyNext_range_end (I.ok.hd hc) st (by have : n ≤ i := hg; omega) fun h' eb => ⟨rfl, I.turned (t' := s.toks) (fun b o hb e => eb b o hb e) f0 f1 f3 f4 f5⟩
  self := fun _ _ _ _ _ st h => wpAny_pyIter_rangeiter st h
end L2

namespace L2
open PySem PySem.Spec PyProof.Rows
section
variable {X : Cx} {tg : Expr}
def iList (K : PySem.W.Frag) (tl : TE) : TI := fun σ H R => tl σ H fun x H1 => ∃ a, x = .ref a ∧ (∃ xs, SqL K H1 a xs) ∧ R (Itl K a) H1
def iTup (K : PySem.W.Frag) (tl : TE) : TI := fun σ H R => tl σ H fun x H1 => ∃ a, x = .ref a ∧ (∃ xs, SqT K H1 a xs) ∧ R (Itt K a) H1
theorem pi_list {l : Expr} {tl : TE} (hl : PE X l tl) : PI X tg l (iList X.K tl) := by
  intro pins s σ H R I h
  refine thn (hl pins s σ H _ I h) fun v s1 ⟨x, H1, I1, r1, q1⟩ => ?_
  obtain ⟨a, e, ⟨xs, hq⟩, q⟩ := q1
  subst e
  cases r1
  obtain ⟨its, rv, p, hz⟩ := I1.list hq
  refine wpAny_pyIter_list p.isList ?_
  refine ⟨s1.heap.objs.size, [s1.heap.objs.size], _, _, H1, rfl, I1.kept (t' := s1.toks) fun b o e => Heap.get?_push_of_some _ e, turn_list a _, ⟨_, Heap.get?_push_size _ rfl, rfl, rfl⟩, fun b hb => ?_, q⟩
  have e : b = s1.heap.objs.size := by simpa using hb
  subst e
  exact I1.fpOk (Nat.le_refl _) (I1.hok.fresh (Nat.le_refl _))
theorem pi_tup {l : Expr} {tl : TE} (hl : PE X l tl) : PI X tg l (iTup X.K tl) := by
  intro pins s σ H R I h
  refine thn (hl pins s σ H _ I h) fun v s1 ⟨x, H1, I1, r1, q1⟩ => ?_
  obtain ⟨a, e, ⟨xs, hq⟩, q⟩ := q1
  subst e
  cases r1
  obtain ⟨its, rv, p, hz⟩ := I1.tuple hq
  refine wpAny_pyIter_tuple (show s1.heap.IsTuple a its.toArray from p) ?_
  refine ⟨s1.heap.objs.size, [s1.heap.objs.size], _, _, H1, rfl, I1.kept (t' := s1.toks) fun b o e => Heap.get?_push_of_some _ e, turn_tuple a _, ⟨_, Heap.get?_push_size _ rfl, rfl, rfl⟩, fun b hb => ?_, q⟩
  have e : b = s1.heap.objs.size := by simpa using hb
  subst e
  exact I1.fpOk (Nat.le_refl _) (I1.hok.fresh (Nat.le_refl _))
/-- a range object just made, walked -/
theorem range_it {pins : List (Addr × Obj)} {σ : St} {H : Hp} {s : Shared} {R : It → Hp → Prop} {E : Value → Shared → Prop} {lo hi : Int} {t u v : Tok} {tk : Nat} (I : Inv X pins σ H s) (h1 : -(2 ^ 62) ≤ lo) (h2 : lo < 2 ^ 62) (h3 : -(2 ^ 62) ≤ hi) (h4 : hi < 2 ^ 62)
    (q : R (Itr lo (hi - lo).toNat) H) : wpAny (model X.prog X.w) X.A (pyIter (.ref s.heap.objs.size)) (PIE X pins σ tg R) E { s with heap := s.heap.push { cls := .type "range", data := .fields #[.int lo t, .int hi u, .int 1 v] }, toks := tk } := by
  refine wpAny_pyIter_range (IsRange.new ..) (small_one h1 h2 h3 h4) ?_
  have I1 : Inv X pins σ H { s with heap := s.heap.push { cls := .type "range", data := .fields #[.int lo t, .int hi u, .int 1 v] }, toks := tk } := I.kept fun b o e => Heap.get?_push_of_some _ e
  refine ⟨(s.heap.push { cls := .type "range", data := .fields #[.int lo t, .int hi u, .int 1 v] }).objs.size, [(s.heap.push { cls := .type "range", data := .fields #[.int lo t, .int hi u, .int 1 v] }).objs.size], _, _, H, rfl,
    I1.kept (t' := tk) fun b o e => Heap.get?_push_of_some _ e, turn_range _ lo (hi - lo).toNat, ?_, fun b hb => ?_, q⟩
  · have e1 : lo + ((0 : Nat) : Int) * 1 = lo := by simp
    have e2 : (((hi - lo).toNat : Nat) : Int) - ((0 : Nat) : Int) = Builtin.Range.rangeSize lo hi 1 := by rw [rangeSize_one]; split <;> omega
    show IsRangeIter _ _ (lo + ((0 : Nat) : Int) * 1) ((((hi - lo).toNat : Nat) : Int) - ((0 : Nat) : Int)) 1
    rw [e1, e2]
    exact Heap.get?_push_size _ rfl
  · have e : b = (s.heap.push { cls := .type "range", data := .fields #[.int lo t, .int hi u, .int 1 v] }).objs.size := by simpa using hb
    subst e
    exact I1.fpOk (Nat.le_refl _) (I1.hok.fresh (Nat.le_refl _))
def iRng1 (ta : TA) : TI := fun σ H R => ta σ H fun vs H1 => ∃ j : Int, vs = [.int j] ∧ -(2 ^ 62) ≤ j ∧ j < 2 ^ 62 ∧ R (Itr 0 j.toNat) H1
def iRng2 (ta : TA) : TI := fun σ H R => ta σ H fun vs H1 => ∃ i j : Int, vs = [.int i, .int j] ∧ (-(2 ^ 62) ≤ i ∧ i < 2 ^ 62 ∧ -(2 ^ 62) ≤ j ∧ j < 2 ^ 62) ∧ R (Itr i (j - i).toNat) H1
theorem pi_range1 {a : Expr} {ta : TA} {p pos : Pos} (hg : Gl X "range") (hm : X.mg "range" = none) (ha : PA X [a] ta) (hs : starEach [a] X.env = [(false, eval a X.env)] := by rfl) : PI X tg (.Call (.Name "range" p) [a] [] pos) (iRng1 ta) := by
  intro pins s σ H R I h
  refine Call_ (ld_blt I hg hm boot_range (PyProof.Rows.callWith_type1 (thn (ha pos pins s σ H _ I h) fun us s1 ⟨vs, H1, I1, r1, q1⟩ => ?_) hs rfl))
  obtain ⟨j, e, q1, q2, q⟩ := q1
  subst e
  cases r1 with
  | cons r rr =>
    cases rr
    obtain ⟨t, rfl⟩ := r
    exact call_range_1 (range_it I1 (by omega) (by omega) q1 q2 (by simpa using q))
theorem pi_range2 {a b : Expr} {ta : TA} {p pos : Pos} (hg : Gl X "range") (hm : X.mg "range" = none) (ha : PA X [a, b] ta) (hs : starEach [a, b] X.env = [(false, eval a X.env), (false, eval b X.env)] := by rfl) (hs2 : starEach [b] X.env = [(false, eval b X.env)] := by rfl) :
    PI X tg (.Call (.Name "range" p) [a, b] [] pos) (iRng2 ta) := by
  intro pins s σ H R I h
  refine Call_ (ld_blt I hg hm boot_range (PyProof.Rows.callWith_type1 (thn (ha pos pins s σ H _ I h) fun us s1 ⟨vs, H1, I1, r1, q1⟩ => ?_) (by rw [hs, hs2]) (by rw [hs2]; rfl)))
  obtain ⟨i, j, e, ⟨q1, q2, q3, q4⟩, q⟩ := q1
  subst e
  cases r1 with
  | cons r rr =>
    cases rr with
    | cons r' rr =>
      cases rr
      obtain ⟨t, rfl⟩ := r
      obtain ⟨t', rfl⟩ := r'
      exact call_range_2 (range_it I1 q1 q2 q3 q4 q)

/-! ### for -/
/-- W: the invariant by the turn and a measure; N: what the body is to reach -/
def tFor (wi : TI) (g : TG) (tb : TS) : TS := fun D σ H => wi σ H fun J H1 => ∃ W : Nat → Nat → St → Hp → Prop, (∃ m, W 0 m σ H1) ∧ ∀ i m σ H, W i m σ H →
  (J.stop i H ∧ D.nx σ H) ∨ (J.go i H ∧ ∃ N : St → Hp → Prop, (∀ σ' H', N σ' H' → ∃ m', m' < m ∧ W (i + 1) m' σ' H') ∧ ∀ x H', J.yld i H x H' → g x σ H' fun σ2 H2 => tb { D with nx := N, ct := N, bk := D.nx } σ2 H2)
/-- the records at fp as they stand -/
def pinsAt (fp : List Addr) (h : Heap) : List (Addr × Obj) := fp.filterMap fun b => (h.get? b).map fun o => (b, o)
theorem mem_pinsAt {fp : List Addr} {h : Heap} {b : Addr} {o : Obj} (hb : b ∈ fp) (e : h.get? b = some o) : (b, o) ∈ pinsAt fp h := List.mem_filterMap.mpr ⟨b, hb, by rw [e]; rfl⟩
theorem of_pinsAt {fp : List Addr} {h : Heap} {p : Addr × Obj} (hp : p ∈ pinsAt fp h) : p.1 ∈ fp ∧ h.get? p.1 = some p.2 := by
  obtain ⟨b, hb, e⟩ := List.mem_filterMap.mp hp
  cases q : h.get? b with
  | none => rw [q] at e; cases e
  | some o =>
    rw [q] at e
    have e' : (b, o) = p := Option.some.inj e
    subst e'
    exact ⟨hb, q⟩
theorem Inv.pinned {pins : List (Addr × Obj)} {σ : St} {H : Hp} {s : Shared} {fp : List Addr} (I : Inv X pins σ H s) (hf : ∀ b ∈ fp, FpOk X pins H b) (ho : ∀ b ∈ fp, ∃ o, s.heap.get? b = some o ∧ ∀ v, o.data ≠ .cell v) : Inv X (pins ++ pinsAt fp s.heap) σ H s :=
  I.pins_of fun p hp => (List.mem_append.mp hp).elim (fun z => I.pin p (List.mem_append_right _ z)) fun z => by
    obtain ⟨hb, e⟩ := of_pinsAt z
    obtain ⟨f0, f1, f2, _⟩ := hf p.1 hb
    obtain ⟨o, e', d⟩ := ho p.1 hb
    rw [e] at e'; cases e'
    exact ⟨e, f0, f1, f2, d⟩
theorem Inv.unpinned {pins pl : List (Addr × Obj)} {σ : St} {H : Hp} {s : Shared} (I : Inv X (pins ++ pl) σ H s) : Inv X pins σ H s := I.pins_of fun p hp => I.pin p (List.mem_append_right _ (List.mem_append_left _ hp))
theorem ps_for {iter : Expr} {body : List Stmt} {wi : TI} {g : TG} {tb : TS} {pos : Pos} (hp : PassesOwn (model X.prog X.w) X.A X.env X.xe) (hc : X.calm = true) (hi : PI X tg iter wi) (hg : PG X tg g) (hb : PSs X body tb)
    (hs : ∀ x, foldedSetIterable iter X.env x = pure x := by intro _; rfl) : PS X (.For tg iter body [] pos) (tFor wi g tb) := by
  intro pins s σ H D I h
  refine wpAny_For (thn (hi pins s σ H _ I h) fun v s1 h1 => thn h1 fun itv s2 h2 => ?_) hs
  obtain ⟨it, fp, tn, J, H2, e, I2, T, st2, f2, W, ⟨m0, w0⟩, turn⟩ := h2
  subst e
  -- what stays true of the iterator's objects through the loop
  have stat : ∀ {H' : Hp}, (∀ b ∈ fp, H' b = none) → ∀ b ∈ fp, FpOk X pins H' b := fun hn b hb => ⟨hn b hb, (f2 b hb).2⟩
  refine codeAny_forLoop_any (fun n s' => ∃ i σ' H', Inv X pins σ' H' s' ∧ tn i s'.heap ∧ (∀ b ∈ fp, H' b = none) ∧ W i n σ' H') ?_ m0 ⟨0, σ, H2, I2, st2, fun b hb => (f2 b hb).1, w0⟩
  rintro n s3 ⟨i, σ3, H3, I3, st3, fr3, w3⟩
  rcases turn i n σ3 H3 w3 with ⟨stop, qn⟩ | ⟨go, N, hN, step⟩
  · refine wpAny_passesOwn hp (thn (T.done X rfl rfl rfl hc i pins s3 σ3 H3 X.xe I3 (stat fr3) st3 stop) fun r s4 ⟨hr, I4⟩ => ?_)
    subst hr
    exact wpAny_execs_nil ⟨σ3, H3, I4, qn⟩
  · refine wpAny_passesOwn hp (thn (T.item X rfl rfl rfl hc i pins s3 σ3 H3 X.xe I3 (stat fr3) st3 go) fun r s4 ⟨u, hr, h4⟩ => ?_)
    subst hr
    refine wpAny_passesOwn hp (thn h4 fun _ s5 ⟨x, H5, I5, r5, y5, st5, fr5⟩ => ?_)
    have I5' := I5.pinned (stat fr5) (T.obj _ _ st5)
    refine wpAny_passesOwn hp (thn (hg _ s5 σ3 H5 x u _ I5' r5 (step x H5 y5)) fun _ s6 ⟨σ6, H6, I6, q6⟩ => ?_)
    refine wpAny_passesOwn hp (thn (hb _ s6 σ6 H6 _ I6 q6) fun f s7 q7 => ?_)
    have again : ∀ {σ7 : St} {H7 : Hp}, Inv X (pins ++ pinsAt fp s5.heap) σ7 H7 s7 → N σ7 H7 → ∃ m, m < n ∧ ∃ i σ' H', Inv X pins σ' H' s7 ∧ tn i s7.heap ∧ (∀ b ∈ fp, H' b = none) ∧ W i m σ' H' := fun {σ7 H7} I7 n7 => by
      obtain ⟨m', hm, w7⟩ := hN σ7 H7 n7
      refine ⟨m', hm, i + 1, σ7, H7, I7.unpinned, T.keep _ _ _ st5 fun b hb o e => (I7.pin (b, o) (List.mem_append_right _ (List.mem_append_right _ (mem_pinsAt hb e)))).1, fun b hb => ?_, w7⟩
      obtain ⟨o, e, d⟩ := T.obj _ _ st5 b hb
      exact (I7.pin (b, o) (List.mem_append_right _ (List.mem_append_right _ (mem_pinsAt hb e)))).2.1
    cases f with
    | next => obtain ⟨σ7, H7, I7, n7⟩ := q7; exact again I7 n7
    | cont => obtain ⟨σ7, H7, I7, n7⟩ := q7; exact again I7 n7
    | brk => obtain ⟨σ7, H7, I7, q7⟩ := q7; exact ⟨σ7, H7, I7.unpinned, q7⟩
    | ret v => obtain ⟨x7, σ7, H7, I7, r7, q7⟩ := q7; exact ⟨x7, σ7, H7, I7.unpinned, r7, q7⟩
end

/-! ### the forms one uses -/
/-- over a list that the body leaves as it is -/
theorem for_list {K : PySem.W.Frag} {a : Addr} {xs : List V} {g : TG} {tb : TS} {D : Ends} {σ : St} {H : Hp} (Pv : Nat → St → Hp → Prop) (h0 : Pv 0 σ H) (hl : ∀ i σ H, i ≤ xs.length → Pv i σ H → SqL K H a xs)
    (hs : ∀ i x σ H, xs[i]? = some x → Pv i σ H → g x σ H fun σ2 H2 => tb { D with nx := Pv (i + 1), ct := Pv (i + 1), bk := D.nx } σ2 H2) (hd : ∀ σ H, Pv xs.length σ H → D.nx σ H) :
    ∃ W : Nat → Nat → St → Hp → Prop, (∃ m, W 0 m σ H) ∧ ∀ i m σ H, W i m σ H →
      ((Itl K a).stop i H ∧ D.nx σ H) ∨ ((Itl K a).go i H ∧ ∃ N : St → Hp → Prop, (∀ σ' H', N σ' H' → ∃ m', m' < m ∧ W (i + 1) m' σ' H') ∧ ∀ x H', (Itl K a).yld i H x H' → g x σ H' fun σ2 H2 => tb { D with nx := N, ct := N, bk := D.nx } σ2 H2) := by
  refine ⟨fun i m σ H => m = xs.length - i ∧ i ≤ xs.length ∧ Pv i σ H, ⟨xs.length, by simp, Nat.zero_le _, h0⟩, ?_⟩
  rintro i m σ H ⟨rfl, hi, p⟩
  have q := hl i σ H hi p
  by_cases hlt : i < xs.length
  · refine .inr ⟨⟨xs, xs[i], q, by simp [hlt]⟩, Pv (i + 1), fun σ' H' p' => ⟨xs.length - (i + 1), by omega, rfl, hlt, p'⟩, fun x H' y => ?_⟩
    obtain ⟨e, y⟩ := y
    subst e
    exact hs i x σ _ (y xs q) p
  · have e : i = xs.length := by omega
    subst e
    exact .inl ⟨⟨xs, q, Nat.le_refl _⟩, hd σ H p⟩
theorem for_tup {K : PySem.W.Frag} {a : Addr} {xs : List V} {g : TG} {tb : TS} {D : Ends} {σ : St} {H : Hp} (Pv : Nat → St → Hp → Prop) (h0 : Pv 0 σ H) (hl : ∀ i σ H, i ≤ xs.length → Pv i σ H → SqT K H a xs)
    (hs : ∀ i x σ H, xs[i]? = some x → Pv i σ H → g x σ H fun σ2 H2 => tb { D with nx := Pv (i + 1), ct := Pv (i + 1), bk := D.nx } σ2 H2) (hd : ∀ σ H, Pv xs.length σ H → D.nx σ H) :
    ∃ W : Nat → Nat → St → Hp → Prop, (∃ m, W 0 m σ H) ∧ ∀ i m σ H, W i m σ H →
      ((Itt K a).stop i H ∧ D.nx σ H) ∨ ((Itt K a).go i H ∧ ∃ N : St → Hp → Prop, (∀ σ' H', N σ' H' → ∃ m', m' < m ∧ W (i + 1) m' σ' H') ∧ ∀ x H', (Itt K a).yld i H x H' → g x σ H' fun σ2 H2 => tb { D with nx := N, ct := N, bk := D.nx } σ2 H2) := by
  refine ⟨fun i m σ H => m = xs.length - i ∧ i ≤ xs.length ∧ Pv i σ H, ⟨xs.length, by simp, Nat.zero_le _, h0⟩, ?_⟩
  rintro i m σ H ⟨rfl, hi, p⟩
  have q := hl i σ H hi p
  by_cases hlt : i < xs.length
  · refine .inr ⟨⟨xs, xs[i], q, by simp [hlt]⟩, Pv (i + 1), fun σ' H' p' => ⟨xs.length - (i + 1), by omega, rfl, hlt, p'⟩, fun x H' y => ?_⟩
    obtain ⟨e, y⟩ := y
    subst e
    exact hs i x σ _ (y xs q) p
  · have e : i = xs.length := by omega
    subst e
    exact .inl ⟨⟨xs, q, Nat.le_refl _⟩, hd σ H p⟩
theorem for_range {lo : Int} {n : Nat} {g : TG} {tb : TS} {D : Ends} {σ : St} {H : Hp} (Pv : Nat → St → Hp → Prop) (h0 : Pv 0 σ H)
    (hs : ∀ i σ H, i < n → Pv i σ H → g (.int (lo + i)) σ H fun σ2 H2 => tb { D with nx := Pv (i + 1), ct := Pv (i + 1), bk := D.nx } σ2 H2) (hd : ∀ σ H, Pv n σ H → D.nx σ H) :
    ∃ W : Nat → Nat → St → Hp → Prop, (∃ m, W 0 m σ H) ∧ ∀ i m σ H, W i m σ H →
      ((Itr lo n).stop i H ∧ D.nx σ H) ∨ ((Itr lo n).go i H ∧ ∃ N : St → Hp → Prop, (∀ σ' H', N σ' H' → ∃ m', m' < m ∧ W (i + 1) m' σ' H') ∧ ∀ x H', (Itr lo n).yld i H x H' → g x σ H' fun σ2 H2 => tb { D with nx := N, ct := N, bk := D.nx } σ2 H2) := by
  refine ⟨fun i m σ H => m = n - i ∧ i ≤ n ∧ Pv i σ H, ⟨n, by simp, Nat.zero_le _, h0⟩, ?_⟩
  rintro i m σ H ⟨rfl, hi, p⟩
  by_cases hlt : i < n
  · refine .inr ⟨hlt, Pv (i + 1), fun σ' H' p' => ⟨n - (i + 1), by omega, rfl, hlt, p'⟩, fun x H' y => ?_⟩
    obtain ⟨e, y⟩ := y
    subst e y
    exact hs i σ _ hlt p
  · have e : i = n := by omega
    subst e
    exact .inl ⟨Nat.le_refl _, hd σ H p⟩
/-- while, by a word and a measure of the state -/
theorem while_by {c : TT} {tb : TS} {D : Ends} {σ : St} {H : Hp} (Pv : St → Hp → Prop) (μ : St → Hp → Nat) (h0 : Pv σ H)
    (hs : ∀ σ H, Pv σ H → c σ H fun b H1 => if b = true then tb { D with nx := fun σ' H' => Pv σ' H' ∧ μ σ' H' < μ σ H, ct := fun σ' H' => Pv σ' H' ∧ μ σ' H' < μ σ H, bk := D.nx } σ H1 else D.nx σ H1)
    (mono : ∀ σ H Q Q', (∀ b H1, Q b H1 → Q' b H1) → c σ H Q → c σ H Q') : tWhile c tb D σ H := by
  refine ⟨fun m σ H => m = μ σ H ∧ Pv σ H, ⟨_, rfl, h0⟩, ?_⟩
  rintro m σ H ⟨rfl, p⟩
  refine mono σ H _ _ (fun b H1 q => ?_) (hs σ H p)
  cases b with
  | true => exact ⟨_, fun σ' H' ⟨p', l⟩ => ⟨_, l, rfl, p'⟩, q⟩
  | false => exact q
end L2

namespace L2
open PySem PySem.Spec PyProof.Rows

abbrev R2 := V → V → Hp → VK → Prop
/-- a two-place operation on values: f is binaryOp op, inplaceOp op or compareOp op -/
def OpR (X : Cx) (f : Value → Value → Sem Value) (r : R2) : Prop :=
  ∀ (pins : List (Addr × Obj)) (s : Shared) (σ : St) (H : Hp) (x y : V) (v u : Value) (Q : VK), Inv X pins σ H s → RelV x v → RelV y u → r x y H Q →
    wpAny (model X.prog X.w) X.A (f v u) (EP X pins σ Q) X.xe s
/-- a one-place operation -/
def UnR (X : Cx) (f : Value → Sem Value) (r : V → Hp → VK → Prop) : Prop :=
  ∀ (pins : List (Addr × Obj)) (s : Shared) (σ : St) (H : Hp) (x : V) (v : Value) (Q : VK), Inv X pins σ H s → RelV x v → r x H Q →
    wpAny (model X.prog X.w) X.A (f v) (EP X pins σ Q) X.xe s
/-- a call of a value that is known (a builtin, a type) with values -/
def CallR (X : Cx) (f : Value) (r : List V → Hp → VK → Prop) : Prop :=
  ∀ (pins : List (Addr × Obj)) (s : Shared) (σ : St) (H : Hp) (xs : List V) (us : List Value) (Q : VK), Inv X pins σ H s → Vals xs us → r xs H Q →
    wpAny (model X.prog X.w) X.A (call f us) (EP X pins σ Q) X.xe s
/-- a value's truth -/
def TruR (X : Cx) (r : V → Hp → (Bool → Hp → Prop) → Prop) : Prop :=
  ∀ (pins : List (Addr × Obj)) (s : Shared) (σ : St) (H : Hp) (x : V) (v : Value) (Q : Bool → Hp → Prop), Inv X pins σ H s → RelV x v → r x H Q →
    wpAny (model X.prog X.w) X.A (truthy v) (TP X pins σ Q) X.xe s

def tOp (r : R2) (ta tb : TE) : TE := fun σ H Q => ta σ H fun x H1 => tb σ H1 fun y H2 => r x y H2 Q
def tUn (r : V → Hp → VK → Prop) (ta : TE) : TE := fun σ H Q => ta σ H fun x H1 => r x H1 Q
/-- ints in, under C, and a value out -/
def rI (C : Int → Int → Prop) (g : Int → Int → V) : R2 := fun x y H Q => ∃ i j, x = .int i ∧ y = .int j ∧ C i j ∧ Q (g i j) H
def rI0 (g : Int → Int → V) : R2 := fun x y H Q => ∃ i j, x = .int i ∧ y = .int j ∧ Q (g i j) H
def rU (g : Int → V) : V → Hp → VK → Prop := fun x H Q => ∃ i, x = .int i ∧ Q (g i) H

section
variable {X : Cx} {a b c : Expr} {ta tb tc : TE} {pos : Pos}

theorem binT (ha : PE X a ta) (hb : PE X b tb) {pins : List (Addr × Obj)} {s : Shared} {σ : St} {H : Hp} {R : V → V → Hp → Prop} (I : Inv X pins σ H s)
    (h : ta σ H fun x H1 => tb σ H1 fun y H2 => R x y H2) {Q : Value → Shared → Prop} {f : Value → Value → Sem Value}
    (hf : ∀ v u s2 x y H2, Inv X pins σ H2 s2 → RelV x v → RelV y u → R x y H2 → wpAny (model X.prog X.w) X.A (f v u) Q X.xe s2) :
    wpAny (model X.prog X.w) X.A (eval a X.env) (fun v s₁ => wpAny (model X.prog X.w) X.A (eval b X.env) (fun u s₂ => wpAny (model X.prog X.w) X.A (f v u) Q X.xe s₂) X.xe s₁) X.xe s := by
  refine thn (ha pins s σ H _ I h) fun v s1 ⟨x, H1, I1, r1, q1⟩ => ?_
  refine thn (hb pins s1 σ H1 _ I1 q1) fun u s2 ⟨y, H2, I2, r2, q2⟩ => ?_
  exact hf v u s2 x y H2 I2 r1 r2 q2

theorem pe_op {op : Operator} {r : R2} (ho : OpR X (binaryOp op) r) (ha : PE X a ta) (hb : PE X b tb) : PE X (.BinOp a op b pos) (tOp r ta tb) := by
  intro pins s σ H Q I h
  exact wpAny_BinOp (binT ha hb I h fun v u s2 x y H2 I2 rx ry q => ho pins s2 σ H2 x y v u Q I2 rx ry q)
theorem pe_un {op : UnaryOp} {r : V → Hp → VK → Prop} (ho : UnR X (unaryOp op) r) (ha : PE X a ta) : PE X (.UnaryOp op a pos) (tUn r ta) := by
  intro pins s σ H Q I h
  exact UnaryOp_ (thn (ha pins s σ H _ I h) fun v s1 ⟨x, H1, I1, r1, q1⟩ => ho pins s1 σ H1 x v Q I1 r1 q1)
/-- a op= e at a name: the name's slot i -/
theorem augR {op : Operator} {r : R2} (ho : OpR X (inplaceOp op) r) {pins : List (Addr × Obj)} {s : Shared} {σ : St} {H : Hp} {x y : V} {v u : Value} {Q : VK} (I : Inv X pins σ H s)
    (rx : RelV x v) (ry : RelV y u) (q : r x y H Q) : wpAny (model X.prog X.w) X.A (inplaceOp op v u) (EP X pins σ Q) X.xe s := ho pins s σ H x y v u Q I rx ry q

/-! ### ints -/
theorem opI {f : Value → Value → Sem Value} {C : Int → Int → Prop} {g : Int → Int → Int}
    (rule : ∀ (i j : Int) (t u : Tok) (s : Shared) (Q : Value → Shared → Prop) (E : Value → Shared → Prop), C i j → Q (.int (g i j) s.toks) { s with toks := s.toks + 1 } → wpAny (model X.prog X.w) X.A (f (.int i t) (.int j u)) Q E s) :
    OpR X f (rI C fun i j => .int (g i j)) := by
  intro pins s σ H x y v u Q I rx ry h
  obtain ⟨i, j, rfl, rfl, hc, q⟩ := h
  obtain ⟨t, rfl⟩ := rx
  obtain ⟨t', rfl⟩ := ry
  exact rule i j t t' s _ _ hc ⟨.int (g i j), H, I.tok _, ⟨_, rfl⟩, q⟩
theorem opI0 {f : Value → Value → Sem Value} {g : Int → Int → Int}
    (rule : ∀ (i j : Int) (t u : Tok) (s : Shared) (Q : Value → Shared → Prop) (E : Value → Shared → Prop), Q (.int (g i j) s.toks) { s with toks := s.toks + 1 } → wpAny (model X.prog X.w) X.A (f (.int i t) (.int j u)) Q E s) :
    OpR X f (rI0 fun i j => .int (g i j)) := by
  intro pins s σ H x y v u Q I rx ry h
  obtain ⟨i, j, rfl, rfl, q⟩ := h
  obtain ⟨t, rfl⟩ := rx
  obtain ⟨t', rfl⟩ := ry
  exact rule i j t t' s _ _ ⟨.int (g i j), H, I.tok _, ⟨_, rfl⟩, q⟩
theorem opB0 {f : Value → Value → Sem Value} {g : Int → Int → Bool}
    (rule : ∀ (i j : Int) (t u : Tok) (s : Shared) (Q : Value → Shared → Prop) (E : Value → Shared → Prop), Q (.bool (g i j)) s → wpAny (model X.prog X.w) X.A (f (.int i t) (.int j u)) Q E s) :
    OpR X f (rI0 fun i j => .bl (g i j)) := by
  intro pins s σ H x y v u Q I rx ry h
  obtain ⟨i, j, rfl, rfl, q⟩ := h
  obtain ⟨t, rfl⟩ := rx
  obtain ⟨t', rfl⟩ := ry
  exact rule i j t t' s _ _ ⟨.bl (g i j), H, I, rfl, q⟩

def CDiv (i j : Int) : Prop := 0 < j ∧ j < 1073741824
def CDivN (i j : Int) : Prop := j ≠ 0 ∧ j.natAbs < 1073741824
def CPow (i j : Int) : Prop := 0 ≤ j ∧ j ≤ 1000000 ∧ i.natAbs < 2 ^ 64
def CMul (i j : Int) : Prop := (-(2 ^ 64) < i ∧ i < 2 ^ 64) ∨ (-(2 ^ 64) < j ∧ j < 2 ^ 64)
theorem CMul.ok {i j : Int} (h : CMul i j) : IntMulOk i j := by
  rcases h with ⟨h1, h2⟩ | ⟨h1, h2⟩
  · exact .of_left (intBits_le_64 h1 h2)
  · exact .of_right (intBits_le_64 h1 h2)
theorem two_pow_nn (k : Nat) : (0 : Int) ≤ 2 ^ k := by
  rw [two_pow_cast]
  exact Int.natCast_nonneg _

theorem op_add : OpR X (binaryOp .Add) (rI0 fun i j => .int (i + j)) := opI0 fun _ _ _ _ _ _ _ q => add_int q
theorem op_sub : OpR X (binaryOp .Sub) (rI0 fun i j => .int (i - j)) := opI0 fun _ _ _ _ _ _ _ q => sub_int q
theorem op_mul : OpR X (binaryOp .Mult) (rI CMul fun i j => .int (i * j)) := opI fun _ _ _ _ _ _ _ hc q => mul_int q hc.ok
/-- // by a positive divisor -/
theorem op_fdiv : OpR X (binaryOp .FloorDiv) (rI CDiv fun i j => .int (i / j)) := opI fun i j _ _ _ _ _ hc q => by
  have h1 : (0 : Int) < j := hc.1
  have h2 : j < 1073741824 := hc.2
  exact floordiv_int (by omega) (by rw [Int.fdiv_eq_ediv_of_nonneg i (by omega)]; exact q) (.inl (PyProof.noPylong_small (by omega)))
theorem op_fdivN : OpR X (binaryOp .FloorDiv) (rI CDivN fun i j => .int (i.fdiv j)) := opI fun _ _ _ _ _ _ _ hc q => floordiv_int hc.1 q (.inl (PyProof.noPylong_small hc.2))
/-- % by a positive divisor of any size -/
theorem op_mod : OpR X (binaryOp .Mod) (rI (fun _ j => 0 < j) fun i j => .int (i % j)) := opI fun i j _ _ _ _ _ hc q => by
  have h1 : (0 : Int) < j := hc
  exact mod_int' (by omega) (by rw [Int.fmod_eq_emod_of_nonneg i (by omega)]; exact q)
theorem op_modN : OpR X (binaryOp .Mod) (rI (fun _ j => j ≠ 0) fun i j => .int (i.fmod j)) := opI fun _ _ _ _ _ _ _ hc q => mod_int' hc q
theorem op_pow : OpR X (binaryOp .Pow) (rI CPow fun i j => .int (i ^ j.toNat)) := opI fun _ _ _ _ _ _ _ hc q => pow_int_small hc.1 hc.2.1 hc.2.2 q
theorem op_shl : OpR X (binaryOp .LShift) (rI CPow fun i j => .int (i * 2 ^ j.toNat)) := opI fun _ _ _ _ _ _ _ hc q => lshift_int_small hc.1 hc.2.1 hc.2.2 q
theorem op_shr : OpR X (binaryOp .RShift) (rI (fun _ j => 0 ≤ j) fun i j => .int (i / 2 ^ j.toNat)) := opI fun i j _ _ _ _ _ hc q =>
  rshift_int hc (by rw [Int.fdiv_eq_ediv_of_nonneg i (two_pow_nn _)]; exact q)
theorem op_and : OpR X (binaryOp .BitAnd) (rI0 fun i j => .int (Builtin.bitAnd i j)) := opI0 fun _ _ _ _ _ _ _ q => and_int q
theorem op_or : OpR X (binaryOp .BitOr) (rI0 fun i j => .int (Builtin.bitOr i j)) := opI0 fun _ _ _ _ _ _ _ q => or_int q
theorem op_xor : OpR X (binaryOp .BitXor) (rI0 fun i j => .int (Builtin.bitXor i j)) := opI0 fun _ _ _ _ _ _ _ q => xor_int q

theorem iop_add : OpR X (inplaceOp .Add) (rI0 fun i j => .int (i + j)) := opI0 fun _ _ _ _ _ _ _ q => iadd_int q
theorem iop_sub : OpR X (inplaceOp .Sub) (rI0 fun i j => .int (i - j)) := opI0 fun _ _ _ _ _ _ _ q => isub_int q
theorem iop_mul : OpR X (inplaceOp .Mult) (rI CMul fun i j => .int (i * j)) := opI fun _ _ _ _ _ _ _ hc q => imul_int q hc.ok
theorem iop_fdiv : OpR X (inplaceOp .FloorDiv) (rI CDiv fun i j => .int (i / j)) := opI fun i j _ _ _ _ _ hc q => by
  have h1 : (0 : Int) < j := hc.1
  have h2 : j < 1073741824 := hc.2
  exact ifloordiv_int (by omega) (by rw [Int.fdiv_eq_ediv_of_nonneg i (by omega)]; exact q) (.inl (PyProof.noPylong_small (by omega)))
theorem iop_mod : OpR X (inplaceOp .Mod) (rI (fun _ j => 0 < j) fun i j => .int (i % j)) := opI fun i j _ _ _ _ _ hc q => by
  have h1 : (0 : Int) < j := hc
  exact imod_int (by omega) (by rw [Int.fmod_eq_emod_of_nonneg i (by omega)]; exact q)
theorem iop_shl : OpR X (inplaceOp .LShift) (rI CPow fun i j => .int (i * 2 ^ j.toNat)) := opI fun _ _ _ _ _ _ _ hc q => ilshift_int_small hc.1 hc.2.1 hc.2.2 q
theorem iop_shr : OpR X (inplaceOp .RShift) (rI (fun _ j => 0 ≤ j) fun i j => .int (i / 2 ^ j.toNat)) := opI fun i j _ _ _ _ _ hc q =>
  irshift_int hc (by rw [Int.fdiv_eq_ediv_of_nonneg i (two_pow_nn _)]; exact q)
theorem iop_and : OpR X (inplaceOp .BitAnd) (rI0 fun i j => .int (Builtin.bitAnd i j)) := opI0 fun _ _ _ _ _ _ _ q => iand_int q
theorem iop_or : OpR X (inplaceOp .BitOr) (rI0 fun i j => .int (Builtin.bitOr i j)) := opI0 fun _ _ _ _ _ _ _ q => ior_int q
theorem iop_xor : OpR X (inplaceOp .BitXor) (rI0 fun i j => .int (Builtin.bitXor i j)) := opI0 fun _ _ _ _ _ _ _ q => ixor_int q

theorem unI {f : Value → Sem Value} {g : Int → Int}
    (rule : ∀ (i : Int) (t : Tok) (s : Shared) (Q : Value → Shared → Prop) (E : Value → Shared → Prop), Q (.int (g i) s.toks) { s with toks := s.toks + 1 } → wpAny (model X.prog X.w) X.A (f (.int i t)) Q E s) :
    UnR X f (rU fun i => .int (g i)) := by
  intro pins s σ H x v Q I rx h
  obtain ⟨i, rfl, q⟩ := h
  obtain ⟨t, rfl⟩ := rx
  exact rule i t s _ _ ⟨.int (g i), H, I.tok _, ⟨_, rfl⟩, q⟩
theorem un_neg : UnR X (unaryOp .USub) (rU fun i => .int (-i)) := unI fun _ _ _ _ _ q => neg_int q
theorem un_inv : UnR X (unaryOp .Invert) (rU fun i => .int (Builtin.bitNot i)) := unI fun _ _ _ _ _ q => invert_int q

/-! ### bools among ints: n += (a < b) -/
theorem op_add_ib : OpR X (binaryOp .Add) (fun x y H Q => ∃ i k, x = .int i ∧ y = .bl k ∧ Q (.int (i + b2i k)) H) := by
  intro pins s σ H x y v u Q I rx ry h
  obtain ⟨i, k, rfl, rfl, q⟩ := h
  obtain ⟨t, rfl⟩ := rx
  cases ry
  exact add_int_bool ⟨.int (i + b2i k), H, I.tok _, ⟨_, rfl⟩, q⟩
end

/-! ### comparisons -/
/-- the scalars that == tells apart as data does -/
def scal : V → V → Bool
  | .non, .non => true | .non, .int _ => true | .int _, .non => true | .non, .bl _ => true | .bl _, .non => true | .non, .str _ => true | .str _, .non => true
  | .int _, .int _ => true | .bl _, .bl _ => true | .str _, .str _ => true | .byt _, .byt _ => true
  | .int _, .str _ => true | .str _, .int _ => true | .bl _, .str _ => true | .str _, .bl _ => true
  | _, _ => false
def rEq : R2 := fun x y H Q => scal x y = true ∧ Q (.bl (decide (x = y))) H
def rNe : R2 := fun x y H Q => scal x y = true ∧ Q (.bl (!decide (x = y))) H

theorem dec_int {i j : Int} : decide (V.int i = V.int j) = (i == j) := by
  rw [Bool.eq_iff_iff]
  simp
theorem dec_bl {i j : Bool} : decide (V.bl i = V.bl j) = (i == j) := by
  rw [Bool.eq_iff_iff]
  simp
theorem dec_str {i j : Str} : decide (V.str i = V.str j) = (i == j) := by
  rw [Bool.eq_iff_iff]
  simp
theorem dec_byt {i j : Array UInt8} : decide (V.byt i = V.byt j) = (i.toList == j.toList) := by
  rw [Bool.eq_iff_iff]
  cases i
  cases j
  simp

section
variable {X : Cx} {a b c : Expr} {ta tb tc : TE} {pos : Pos}
theorem fin_bl {pins : List (Addr × Obj)} {σ : St} {H : Hp} {s : Shared} {Q : VK} {k k' : Bool} (I : Inv X pins σ H s) (q : Q (.bl k) H) (e : k = k') : EP X pins σ Q (.bool k') s := by
  subst e
  exact ⟨.bl k, H, I, rfl, q⟩
theorem op_eq : OpR X (compareOp .Eq) rEq := by
  intro pins s σ H x y v u Q I rx ry h
  obtain ⟨hs, q⟩ := h
  cases x with
  | non =>
    cases rx
    cases y with
    | non => cases ry; exact PySem.EqNone.eq_none_none (fin_bl I q (by simp))
    | bl j => cases ry; exact PySem.EqNone.eq_none_bool (fin_bl I q (by simp))
    | int j => obtain ⟨t', rfl⟩ := ry; exact PySem.EqNone.eq_none_int (fin_bl I q (by simp))
    | str j => obtain ⟨t', rfl⟩ := ry; exact PySem.EqNone.eq_none_str (fin_bl I q (by simp))
    | _ => exact absurd (show false = true from hs) Bool.false_ne_true
  | bl i =>
    cases rx
    cases y with
    | non => cases ry; exact PySem.EqNone.eq_bool_none (fin_bl I q (by simp))
    | bl j => cases ry; exact eq_bool (fin_bl I q dec_bl)
    | str j => obtain ⟨t', rfl⟩ := ry; exact PySem.EqMixed.eq_bool_str (fin_bl I q (by simp))
    | _ => exact absurd (show false = true from hs) Bool.false_ne_true
  | int i =>
    obtain ⟨t, rfl⟩ := rx
    cases y with
    | non => cases ry; exact PySem.EqNone.eq_int_none (fin_bl I q (by simp))
    | int j => obtain ⟨t', rfl⟩ := ry; exact eq_int (fin_bl I q dec_int)
    | str j => obtain ⟨t', rfl⟩ := ry; exact PySem.EqMixed.eq_int_str (fin_bl I q (by simp))
    | _ => exact absurd (show false = true from hs) Bool.false_ne_true
  | str i =>
    obtain ⟨t, rfl⟩ := rx
    cases y with
    | non => cases ry; exact PySem.EqNone.eq_str_none (fin_bl I q (by simp))
    | bl j => cases ry; exact PySem.EqMixed.eq_str_bool (fin_bl I q (by simp))
    | int j => obtain ⟨t', rfl⟩ := ry; exact PySem.EqMixed.eq_str_int (fin_bl I q (by simp))
    | str j => obtain ⟨t', rfl⟩ := ry; exact eq_str (fin_bl I q dec_str)
    | _ => exact absurd (show false = true from hs) Bool.false_ne_true
  | byt i =>
    obtain ⟨t, rfl⟩ := rx
    cases y with
    | byt j => obtain ⟨t', rfl⟩ := ry; exact PySem.W.eq_bytes (fin_bl I q dec_byt)
    | _ => exact absurd (show false = true from hs) Bool.false_ne_true
  | _ => cases y <;> exact absurd (show false = true from hs) Bool.false_ne_true
theorem op_ne : OpR X (compareOp .NotEq) rNe := by
  intro pins s σ H x y v u Q I rx ry h
  obtain ⟨hs, q⟩ := h
  cases x with
  | non =>
    cases rx
    cases y with
    | non => cases ry; exact PySem.EqNone.ne_none_none (fin_bl I q (by simp))
    | bl j => cases ry; exact PySem.EqNone.ne_none_bool (fin_bl I q (by simp))
    | int j => obtain ⟨t', rfl⟩ := ry; exact PySem.EqNone.ne_none_int (fin_bl I q (by simp))
    | str j => obtain ⟨t', rfl⟩ := ry; exact PySem.EqNone.ne_none_str (fin_bl I q (by simp))
    | _ => exact absurd (show false = true from hs) Bool.false_ne_true
  | bl i =>
    cases rx
    cases y with
    | non => cases ry; exact PySem.EqNone.ne_bool_none (fin_bl I q (by simp))
    | bl j => cases ry; exact ne_bool (fin_bl I q (congrArg not dec_bl))
    | str j => obtain ⟨t', rfl⟩ := ry; exact PySem.EqMixed.ne_bool_str (fin_bl I q (by simp))
    | _ => exact absurd (show false = true from hs) Bool.false_ne_true
  | int i =>
    obtain ⟨t, rfl⟩ := rx
    cases y with
    | non => cases ry; exact PySem.EqNone.ne_int_none (fin_bl I q (by simp))
    | int j => obtain ⟨t', rfl⟩ := ry; exact ne_int (fin_bl I q (congrArg not dec_int))
    | str j => obtain ⟨t', rfl⟩ := ry; exact PySem.EqMixed.ne_int_str (fin_bl I q (by simp))
    | _ => exact absurd (show false = true from hs) Bool.false_ne_true
  | str i =>
    obtain ⟨t, rfl⟩ := rx
    cases y with
    | non => cases ry; exact PySem.EqNone.ne_str_none (fin_bl I q (by simp))
    | bl j => cases ry; exact PySem.EqMixed.ne_str_bool (fin_bl I q (by simp))
    | int j => obtain ⟨t', rfl⟩ := ry; exact PySem.EqMixed.ne_str_int (fin_bl I q (by simp))
    | str j => obtain ⟨t', rfl⟩ := ry; exact ne_str (fin_bl I q (congrArg not dec_str))
    | _ => exact absurd (show false = true from hs) Bool.false_ne_true
  | byt i =>
    obtain ⟨t, rfl⟩ := rx
    cases y with
    | byt j => obtain ⟨t', rfl⟩ := ry; exact PySem.W.ne_bytes (fin_bl I q (congrArg not dec_byt))
    | _ => exact absurd (show false = true from hs) Bool.false_ne_true
  | _ => cases y <;> exact absurd (show false = true from hs) Bool.false_ne_true

theorem op_lt : OpR X (compareOp .Lt) (rI0 fun i j => .bl (decide (i < j))) := opB0 fun _ _ _ _ _ _ _ q => lt_int q
theorem op_le : OpR X (compareOp .LtE) (rI0 fun i j => .bl (decide (i ≤ j))) := opB0 fun _ _ _ _ _ _ _ q => le_int q
theorem op_gt : OpR X (compareOp .Gt) (rI0 fun i j => .bl (decide (j < i))) := opB0 fun _ _ _ _ _ _ _ q => gt_int q
theorem op_ge : OpR X (compareOp .GtE) (rI0 fun i j => .bl (decide (j ≤ i))) := opB0 fun _ _ _ _ _ _ _ q => ge_int q
theorem op_lt_str : OpR X (compareOp .Lt) (fun x y H Q => ∃ i j, x = .str i ∧ y = .str j ∧ Q (.bl (decide (i.cps.toList < j.cps.toList))) H) := by
  intro pins s σ H x y v u Q I rx ry h
  obtain ⟨i, j, rfl, rfl, q⟩ := h
  obtain ⟨t, rfl⟩ := rx
  obtain ⟨t', rfl⟩ := ry
  exact lt_str (fin_bl I q rfl)
/-- the one string within the other -/
theorem op_in_str : OpR X (compareOp .In) (fun x y H Q => ∃ i j, x = .str i ∧ y = .str j ∧ Q (.bl (!(Builtin.Str.occurrences j i 0 j.length 1).isEmpty)) H) := by
  intro pins s σ H x y v u Q I rx ry h
  obtain ⟨i, j, rfl, rfl, q⟩ := h
  obtain ⟨t, rfl⟩ := rx
  obtain ⟨t', rfl⟩ := ry
  exact in_str (fin_bl I q rfl)

/-- is None, is not None: the right side a value none -/
theorem op_isN : OpR X (compareOp .Is) (fun x y H Q => y = .non ∧ Q (.bl (decide (x = .non))) H) := by
  intro pins s σ H x y v u Q I rx ry h
  obtain ⟨rfl, q⟩ := h
  cases ry
  refine is_none_gen (fin_bl I q ?_)
  cases x <;> first
    | (cases rx; rfl)
    | (obtain ⟨t, rfl⟩ := rx; rfl)
theorem op_notN : OpR X (compareOp .IsNot) (fun x y H Q => y = .non ∧ Q (.bl (!decide (x = .non))) H) := by
  intro pins s σ H x y v u Q I rx ry h
  obtain ⟨rfl, q⟩ := h
  cases ry
  refine isnot_none_gen (fin_bl I q ?_)
  cases x <;> first
    | (cases rx; rfl)
    | (obtain ⟨t, rfl⟩ := rx; rfl)

theorem op_notin_str : OpR X (compareOp .NotIn) (fun x y H Q => ∃ i j, x = .str i ∧ y = .str j ∧ Q (.bl (!(!(Builtin.Str.occurrences j i 0 j.length 1).isEmpty))) H) := by
  intro pins s σ H x y v u Q I rx ry h
  obtain ⟨i, j, rfl, rfl, q⟩ := h
  obtain ⟨t, rfl⟩ := rx
  obtain ⟨t', rfl⟩ := ry
  exact notIn_str (fin_bl I q rfl)
/-- is, is not of two objects that are tracked lists or instances -/
def isObj : HO → Bool
  | .lst _ => true
  | .ins _ _ _ => true
  | _ => false
theorem obj_there {pins : List (Addr × Obj)} {s : Shared} {σ : St} {H : Hp} {a : Addr} {o : HO} (I : Inv X pins σ H s) (h : H a = some o) (p : isObj o = true) : ∃ ob, s.heap.get? a = some ob ∧ ob.cls ≠ .type "tuple" := by
  cases o with
  | lst xs =>
    obtain ⟨_, its, n, _, e⟩ : xs.length ≤ sizeLine ∧ ∃ (its : List Value) (n : Nat), Vals xs its ∧ s.heap.get? a = some { cls := .type "list", data := .seq its.toArray n } := I.hok a _ h
    exact ⟨_, e, (by show Value.type "list" ≠ .type "tuple"; decide +kernel)⟩
  | ins C dx fs =>
    have x := I.hok a _ h
    obtain ⟨_, _, _, e, _⟩ := x
    exact ⟨_, e, (by show Value.ref C ≠ .type "tuple"; exact fun z => by cases z)⟩
  | _ => exact absurd (show false = true from p) Bool.false_ne_true
theorem op_is_ref : OpR X (compareOp .Is) (fun x y H Q => ∃ a b oa ob, x = .ref a ∧ y = .ref b ∧ H a = some oa ∧ isObj oa = true ∧ H b = some ob ∧ isObj ob = true ∧ Q (.bl (decide (a = b))) H) := by
  intro pins s σ H x y v u Q I rx ry h
  obtain ⟨a, b, oa, ob, rfl, rfl, ha, pa, hb, pb, q⟩ := h
  cases rx
  cases ry
  obtain ⟨o1, e1, n1⟩ := obj_there I ha pa
  obtain ⟨o2, e2, _⟩ := obj_there I hb pb
  by_cases z : a = b
  · subst z
    exact wpAny_is_ref_self (fin_bl I q (by simp))
  · exact wpAny_is_ref_other z e1 e2 n1 (fin_bl I q (by simp [z]))
theorem op_isnot_ref : OpR X (compareOp .IsNot) (fun x y H Q => ∃ a b oa ob, x = .ref a ∧ y = .ref b ∧ H a = some oa ∧ isObj oa = true ∧ H b = some ob ∧ isObj ob = true ∧ Q (.bl (!decide (a = b))) H) := by
  intro pins s σ H x y v u Q I rx ry h
  obtain ⟨a, b, oa, ob, rfl, rfl, ha, pa, hb, pb, q⟩ := h
  cases rx
  cases ry
  obtain ⟨o1, e1, n1⟩ := obj_there I ha pa
  obtain ⟨o2, e2, _⟩ := obj_there I hb pb
  by_cases z : a = b
  · subst z
    exact wpAny_isNot_ref_self (fin_bl I q (by simp))
  · exact wpAny_isNot_ref_other z e1 e2 n1 (fin_bl I q (by simp [z]))

/-- two rules for one operation: by cases -/
theorem OpR.or {f : Value → Value → Sem Value} {r r' : R2} (h : OpR X f r) (h' : OpR X f r') : OpR X f (fun x y H Q => r x y H Q ∨ r' x y H Q) := by
  intro pins s σ H x y v u Q I rx ry q
  rcases q with q | q
  · exact h pins s σ H x y v u Q I rx ry q
  · exact h' pins s σ H x y v u Q I rx ry q

theorem nomark (b : Expr) {op : CmpOp} (h : op ≠ .In := by decide) (h2 : op ≠ .NotIn := by decide) : behindInMarks op b = false := by
  have e1 : (op == CmpOp.In) = false := by cases op <;> first | rfl | exact absurd rfl h
  have e2 : (op == CmpOp.NotIn) = false := by cases op <;> first | rfl | exact absurd rfl h2
  cases b <;> simp [behindInMarks, e1, e2]
/-- a comparison as a value; hm: nomark b, or (for in, not in) by with_unfolding_all rfl -/
theorem pe_cmpR {op : CmpOp} {r : R2} (ho : OpR X (compareOp op) r) (ha : PE X a ta) (hb : PE X b tb) (hm : behindInMarks op b = false) : PE X (.Compare a [op] [b] pos) (tOp r ta tb) := by
  intro pins s σ H Q I h
  exact wpAny_Compare1 (binT ha hb I h fun v u s2 x y H2 I2 rx ry q => ho pins s2 σ H2 x y v u Q I2 rx ry q) hm
/-- a reading of a value as a test -/
def tTest (t : TE) : TT := fun σ H Q => t σ H fun x H' => ∃ k, x = .bl k ∧ Q k H'
theorem pt_cmpR {op : CmpOp} {r : R2} (ho : OpR X (compareOp op) r) (ha : PE X a ta) (hb : PE X b tb) (hm : behindInMarks op b = false) : PT X (.Compare a [op] [b] pos) (tTest (tOp r ta tb)) := by
  intro pins s σ H Q I h
  refine wpAny_isTrue_Compare1 (thn (ha pins s σ H _ I h) fun v s1 ⟨x, H1, I1, r1, q1⟩ => thn (hb pins s1 σ H1 _ I1 q1) fun u s2 ⟨y, H2, I2, r2, q2⟩ =>
    thn (ho pins s2 σ H2 x y v u _ I2 r1 r2 q2) fun c s3 ⟨z, H3, I3, r3, k, e, q3⟩ => ?_) hm
  subst e
  cases r3
  exact wpAny_truthy_bool ⟨H3, I3, q3⟩
/-- a op1 b op2 c -/
def tChain (r r' : R2) (ta tb tc : TE) : TE := fun σ H Q => ta σ H fun x H1 => tb σ H1 fun y H2 => r x y H2 fun z H3 => ∃ k, z = .bl k ∧
  (if k = true then tc σ H3 fun w' H4 => r' y w' H4 Q else Q (.bl false) H3)
theorem pe_chain {op op' : CmpOp} {r r' : R2} (ho : OpR X (compareOp op) r) (ho' : OpR X (compareOp op') r') (ha : PE X a ta) (hb : PE X b tb) (hc : PE X c tc)
    (hm : lastMarks [op, op'] [b, c] = false := by with_unfolding_all rfl) : PE X (.Compare a [op, op'] [b, c] pos) (tChain r r' ta tb tc) := by
  intro pins s σ H Q I h
  refine Compare_chain (thn (ha pins s σ H _ I h) fun v s1 ⟨x, H1, I1, r1, q1⟩ => chain_link (thn (hb pins s1 σ H1 _ I1 q1) fun u s2 ⟨y, H2, I2, r2, q2⟩ =>
    thn (ho pins s2 σ H2 x y v u _ I2 r1 r2 q2) fun d s3 ⟨z, H3, I3, r3, k, e, q3⟩ => ?_)) hm
  subst e
  cases r3
  refine wpAny_truthy_bool ?_
  cases k with
  | false => exact ite_ff ⟨.bl false, H3, I3, rfl, q3⟩
  | true => exact ite_tt (chain_last (thn (hc pins s3 σ H3 _ I3 q3) fun w' s4 ⟨z', H4, I4, r4, q4⟩ => ho' pins s4 σ H4 y z' u w' Q I4 r2 r4 q4))
theorem pt_chain {op op' : CmpOp} {r r' : R2} (ho : OpR X (compareOp op) r) (ho' : OpR X (compareOp op') r') (ha : PE X a ta) (hb : PE X b tb) (hc : PE X c tc)
    (hm : lastMarks [op, op'] [b, c] = false := by with_unfolding_all rfl) : PT X (.Compare a [op, op'] [b, c] pos) (tTest (tChain r r' ta tb tc)) := by
  intro pins s σ H Q I h
  refine isTrue_chain (thn (ha pins s σ H _ I h) fun v s1 ⟨x, H1, I1, r1, q1⟩ => test_link (thn (hb pins s1 σ H1 _ I1 q1) fun u s2 ⟨y, H2, I2, r2, q2⟩ =>
    thn (ho pins s2 σ H2 x y v u _ I2 r1 r2 q2) fun d s3 ⟨z, H3, I3, r3, k, e, q3⟩ => ?_)) hm
  subst e
  cases r3
  refine wpAny_truthy_bool ?_
  cases k with
  | false =>
    obtain ⟨k', e', q'⟩ := q3
    cases e'
    exact ite_ff ⟨H3, I3, q'⟩
  | true =>
    refine ite_tt (test_last (thn (hc pins s3 σ H3 _ I3 q3) fun w' s4 ⟨z', H4, I4, r4, q4⟩ => thn (ho' pins s4 σ H4 y z' u w' _ I4 r2 r4 q4) fun d' s5 ⟨z2, H5, I5, r5, k2, e2, q5⟩ => ?_))
    subst e2
    cases r5
    exact wpAny_truthy_bool ⟨H5, I5, q5⟩

/-! ### truth -/
/-- a value's truth by the abstract heap -/
def TruV (K : PySem.W.Frag) (x : V) (H : Hp) (k : Bool) : Prop :=
  match x with
  | .non => k = false
  | .bl b => k = b
  | .int i => k = (i != 0)
  | .str y => y.length ≤ sizeLine ∧ k = ((y.length : Int) != 0)
  | .byt y => y.size ≤ sizeLine ∧ k = ((y.size : Int) != 0)
  | .ref p => (∃ xs, SqL K H p xs ∧ k = !xs.isEmpty) ∨ (∃ xs, SqT K H p xs ∧ k = !xs.isEmpty) ∨ ∃ kvs, H p = some (.dK kvs) ∧ k = !kvs.isEmpty
  | _ => False
theorem isEmpty_kv {κ : Type} {kvs : List (κ × V)} {vs : List (κ × Value)} (r : KV kvs vs) : (!vs.isEmpty) = !kvs.isEmpty := by
  cases r <;> rfl
theorem isEmpty_of {xs : List V} {its : List Value} (r : Vals xs its) : (!its.toArray.isEmpty) = !xs.isEmpty := by
  cases r <;> simp
theorem line63 : (sizeLine : Nat) < 2 ^ 63 := by rw [sizeLine_eq]; decide
theorem tru_ok : TruR X (fun x H Q => ∃ k, TruV X.K x H k ∧ Q k H) := by
  intro pins s σ H x v Q I rx h
  obtain ⟨k, e, q⟩ := h
  have hl := line63
  have hs : sizeLine = 16777216 := sizeLine_eq
  cases x with
  | non =>
    cases rx
    have e' : k = false := e
    subst e'
    exact truthy_none ⟨H, I, q⟩
  | bl b =>
    cases rx
    have e' : k = b := e
    subst e'
    exact wpAny_truthy_bool ⟨H, I, q⟩
  | int i =>
    obtain ⟨t, rfl⟩ := rx
    have e' : k = (i != 0) := e
    subst e'
    exact PySem.P.truthy_int ⟨H, I, q⟩
  | str y =>
    obtain ⟨t, rfl⟩ := rx
    obtain ⟨hy, e'⟩ : y.length ≤ sizeLine ∧ k = ((y.length : Int) != 0) := e
    subst e'
    exact PySem.P.truthy_str (by omega) ⟨H, I.tok _, q⟩
  | byt y =>
    obtain ⟨t, rfl⟩ := rx
    obtain ⟨hy, e'⟩ : y.size ≤ sizeLine ∧ k = ((y.size : Int) != 0) := e
    subst e'
    exact PySem.W.truthy_bytes (by omega) ⟨H, I.tok _, q⟩
  | ref p =>
    cases rx
    have e' : (∃ xs, SqL X.K H p xs ∧ k = !xs.isEmpty) ∨ (∃ xs, SqT X.K H p xs ∧ k = !xs.isEmpty) ∨ ∃ kvs, H p = some (.dK kvs) ∧ k = !kvs.isEmpty := e
    rcases e' with ⟨xs, hx, e'⟩ | ⟨xs, hx, e'⟩ | ⟨kvs, hx, e'⟩
    · subst e'
      obtain ⟨its, r, pl, hz⟩ := I.list hx
      have hlen := r.length
      exact wpAny_truthy_list pl.isList (by simp only [List.size_toArray]; omega) ⟨H, I.tok _, by rw [isEmpty_of r]; exact q⟩
    · subst e'
      obtain ⟨its, r, pl, hz⟩ := I.tuple hx
      have hlen := r.length
      exact truthy_tuple pl (by simp only [List.size_toArray]; omega) ⟨H, I.tok _, by rw [isEmpty_of r]; exact q⟩
    · subst e'
      obtain ⟨hz, hS, vs, r, m⟩ : kvs.length ≤ sizeLine ∧ (p == sysModules) = false ∧ ∃ vs, KV kvs vs ∧ s.heap.DictOf (mixKind X.prog X.w) p vs := I.hok p _ hx
      have hlen : kvs.length = vs.length := Paired.length r
      exact wpAny_truthy_dict hS m (by omega) ⟨H, I.tok _, by rw [isEmpty_kv r]; exact q⟩
  | _ => exact (show False from e).elim
/-- any expression whose test is its value's truth (a name, a call, a subscript, a field ..: he by fun _ => rfl) -/
theorem pt_truth (ha : PE X a ta) (he : ∀ whole, isTrue a X.env whole = (do let v ← whole; standAt a.pos; holding [v] (truthy v))) :
    PT X a (fun σ H Q => ta σ H fun x H' => ∃ k, TruV X.K x H' k ∧ Q k H') := by
  intro pins s σ H Q I h
  exact isTrue_plain (thn (ha pins s σ H _ I h) fun v s1 ⟨x, H1, I1, r1, q1⟩ => tru_ok pins s1 σ H1 x v Q I1 r1 q1) (he _)

/-! ### strs and bytes -/
theorem pe_byt {x : List UInt8} {k : Nat} : PE X (.Constant (.bytes x) k pos) (fun _ H Q => Q (.byt x.toArray) H) := fun _ _ _ H _ I h => PySem.W.Constant_bytes ⟨.byt x.toArray, H, I.tok _, ⟨_, rfl⟩, h⟩
theorem op_add_str : OpR X (binaryOp .Add) (fun x y H Q => ∃ i j, x = .str i ∧ y = .str j ∧ i.length + j.length ≤ sizeLine ∧ Q (.str (i ++ j)) H) := by
  intro pins s σ H x y v u Q I rx ry h
  obtain ⟨i, j, rfl, rfl, hz, q⟩ := h
  obtain ⟨t, rfl⟩ := rx
  obtain ⟨t', rfl⟩ := ry
  exact add_str (fun t' tk => ⟨.str (i ++ j), H, I.tok _, ⟨_, rfl⟩, q⟩) hz
theorem iop_add_str : OpR X (inplaceOp .Add) (fun x y H Q => ∃ i j, x = .str i ∧ y = .str j ∧ i.length + j.length ≤ sizeLine ∧ Q (.str (i ++ j)) H) := by
  intro pins s σ H x y v u Q I rx ry h
  obtain ⟨i, j, rfl, rfl, hz, q⟩ := h
  obtain ⟨t, rfl⟩ := rx
  obtain ⟨t', rfl⟩ := ry
  exact iadd_str (fun t' tk => ⟨.str (i ++ j), H, I.tok _, ⟨_, rfl⟩, q⟩) hz
theorem op_add_byt : OpR X (binaryOp .Add) (fun x y H Q => ∃ i j, x = .byt i ∧ y = .byt j ∧ i.size + j.size ≤ 16777216 ∧ Q (.byt (i ++ j)) H) := by
  intro pins s σ H x y v u Q I rx ry h
  obtain ⟨i, j, rfl, rfl, hz, q⟩ := h
  obtain ⟨t, rfl⟩ := rx
  obtain ⟨t', rfl⟩ := ry
  exact PySem.W.KBy.add_bytes hz (fun t' tk => ⟨.byt (i ++ j), H, I.tok _, ⟨_, rfl⟩, q⟩)

def PlainIxT (b : Expr) : Prop := ∀ o i, subscripted b false o i = operate [o, i] (getItem o i)
/-- s[i], 0 ≤ i < len -/
theorem pe_item_str (ha : PE X a ta) (hb : PE X b tb) (hs : PlainIxT b) :
    PE X (.Subscript a b pos) (tOp (fun x y H Q => ∃ z i c, x = .str z ∧ y = .int i ∧ 0 ≤ i ∧ i < 2 ^ 63 ∧ i < z.length ∧ z.cps[i.toNat]? = some c ∧ Q (.str ⟨#[c]⟩) H) ta tb) := by
  intro pins s σ H Q I h
  refine Subscript_ (binT ha hb I h fun v u s2 x y H2 I2 rx ry q => ?_)
  obtain ⟨z, i, c, rfl, rfl, h0, h63, h1, hc, q⟩ := q
  obtain ⟨t, rfl⟩ := rx
  obtain ⟨t', rfl⟩ := ry
  have e : seqIndex? i z.length = some i.toNat := PySem.StrLaws.seqIndex_nonneg h0 h1
  exact tail_any (typeIs_str s2 z t) slot_str_getitem.lookup (getItem_str (c := c) (by
    have e1 : decide (i < -(2 ^ 63 : Int)) = false := decide_eq_false (by omega)
    have e2 : decide (i ≥ 2 ^ 63) = false := decide_eq_false (by omega)
    rw [e1, e2] <;> rfl) (by rw [e]; exact hc) ⟨.str ⟨#[c]⟩, H2, I2.tok _, ⟨_, rfl⟩, q⟩) (hs _ _)
/-- b[i], 0 ≤ i < len -/
theorem pe_item_byt (ha : PE X a ta) (hb : PE X b tb) (hs : PlainIxT b) :
    PE X (.Subscript a b pos) (tOp (fun x y H Q => ∃ (z : List UInt8) (i : Int), x = .byt z.toArray ∧ y = .int i ∧ z.length ≤ sizeLine ∧ 0 ≤ i ∧ i < z.length ∧ Q (.int ((z.getD i.toNat 0).toNat : Nat)) H) ta tb) := by
  intro pins s σ H Q I h
  refine Subscript_ (binT ha hb I h fun v u s2 x y H2 I2 rx ry q => ?_)
  obtain ⟨z, i, rfl, rfl, hz, h0, h1, q⟩ := q
  obtain ⟨t, rfl⟩ := rx
  obtain ⟨t', rfl⟩ := ry
  have hl : sizeLine = 16777216 := sizeLine_eq
  exact tail_any (PySem.W.typeIs_bytes s2 z.toArray t) PySem.W.FB.slot_bytes_getitem.lookup (PySem.W.getItem_bytes (by omega) h0 h1 ⟨.int ((z.getD i.toNat 0).toNat : Nat), H2, I2.tok _, ⟨_, rfl⟩, q⟩) (hs _ _)

/-! ### scalar builtins, by CallR -/
theorem vals1 {x : V} {us : List Value} (r : Vals [x] us) : ∃ u, us = [u] ∧ RelV x u := by
  cases r with
  | cons r1 r2 => cases r2; exact ⟨_, rfl, r1⟩
theorem vals2 {x y : V} {us : List Value} (r : Vals [x, y] us) : ∃ u w', us = [u, w'] ∧ RelV x u ∧ RelV y w' := by
  cases r with
  | cons r1 r2 =>
    cases r2 with
    | cons r3 r4 => cases r4; exact ⟨_, _, rfl, r1, r3⟩
theorem call_abs : CallR X (.builtin "abs") (fun xs H Q => ∃ i, xs = [.int i] ∧ Q (.int (if i < 0 then -i else i)) H) := by
  intro pins s σ H xs us Q I r h
  obtain ⟨i, rfl, q⟩ := h
  obtain ⟨u, rfl, t, rfl⟩ := vals1 r
  exact call_abs_int fun u tk => ⟨.int (if i < 0 then -i else i), H, I.tok _, ⟨_, rfl⟩, q⟩
theorem call_max2 (hc : X.calm = true) : CallR X (.builtin "max") (fun xs H Q => ∃ i j, xs = [.int i, .int j] ∧ Q (.int (if j > i then j else i)) H) := by
  intro pins s σ H xs us Q I r h
  obtain ⟨i, j, rfl, q⟩ := h
  obtain ⟨u, w', rfl, ⟨t, rfl⟩, ⟨t', rfl⟩⟩ := vals2 r
  refine max_two_ints (I.ok.hd hc) fun h' tk k => ⟨_, H, I.kept k, ?_, q⟩
  by_cases hj : j > i
  · rw [if_pos hj, if_pos hj]; exact ⟨_, rfl⟩
  · rw [if_neg hj, if_neg hj]; exact ⟨_, rfl⟩
theorem call_min2 (hc : X.calm = true) : CallR X (.builtin "min") (fun xs H Q => ∃ i j, xs = [.int i, .int j] ∧ Q (.int (if j < i then j else i)) H) := by
  intro pins s σ H xs us Q I r h
  obtain ⟨i, j, rfl, q⟩ := h
  obtain ⟨u, w', rfl, ⟨t, rfl⟩, ⟨t', rfl⟩⟩ := vals2 r
  refine min_two_ints (I.ok.hd hc) fun h' tk k => ⟨_, H, I.kept k, ?_, q⟩
  by_cases hj : j < i
  · rw [if_pos hj, if_pos hj]; exact ⟨_, rfl⟩
  · rw [if_neg hj, if_neg hj]; exact ⟨_, rfl⟩
theorem call_int1 : CallR X (.type "int") (fun xs H Q => (∃ i, xs = [.int i] ∧ Q (.int i) H) ∨ ∃ k, xs = [.bl k] ∧ Q (.int (if k then 1 else 0)) H) := by
  intro pins s σ H xs us Q I r h
  rcases h with ⟨i, rfl, q⟩ | ⟨k, rfl, q⟩
  · obtain ⟨u, rfl, t, rfl⟩ := vals1 r
    exact call_int_int ⟨.int i, H, I, ⟨_, rfl⟩, q⟩
  · obtain ⟨u, rfl, r1⟩ := vals1 r
    cases r1
    exact call_int_bool ⟨.int (if k then 1 else 0), H, I.tok _, ⟨_, rfl⟩, q⟩
theorem call_bool1 : CallR X (.type "bool") (fun xs H Q => (∃ i, xs = [.int i] ∧ Q (.bl (i != 0)) H) ∨ ∃ k, xs = [.bl k] ∧ Q (.bl k) H) := by
  intro pins s σ H xs us Q I r h
  rcases h with ⟨i, rfl, q⟩ | ⟨k, rfl, q⟩
  · obtain ⟨u, rfl, t, rfl⟩ := vals1 r
    exact call_bool_int ⟨.bl (i != 0), H, I, rfl, q⟩
  · obtain ⟨u, rfl, r1⟩ := vals1 r
    cases r1
    exact call_bool_bool ⟨.bl k, H, I, rfl, q⟩
theorem call_str_int : CallR X (.type "str") (fun xs H Q => ∃ i, xs = [.int i] ∧ i.natAbs.log2 < 1920 ∧ Q (.str (toString i)) H) := by
  intro pins s σ H xs us Q I r h
  obtain ⟨i, rfl, hz, q⟩ := h
  obtain ⟨u, rfl, t, rfl⟩ := vals1 r
  exact PySem.P.str_of_int hz ⟨.str _, H, I.tok _, ⟨_, rfl⟩, q⟩
theorem call_ord : CallR X (.builtin "ord") (fun xs H Q => ∃ x, xs = [.str x] ∧ x.length = 1 ∧ Q (.int (x.cps.getD 0 0 : Nat)) H) := by
  intro pins s σ H xs us Q I r h
  obtain ⟨x, rfl, hz, q⟩ := h
  obtain ⟨u, rfl, t, rfl⟩ := vals1 r
  exact ord_of_one hz ⟨.int _, H, I.tok _, ⟨_, rfl⟩, q⟩
theorem call_chr : CallR X (.builtin "chr") (fun xs H Q => ∃ i, xs = [.int i] ∧ 0 ≤ i ∧ i ≤ 1114111 ∧ Q (.str ⟨#[i.toNat]⟩) H) := by
  intro pins s σ H xs us Q I r h
  obtain ⟨i, rfl, h0, h1, q⟩ := h
  obtain ⟨u, rfl, t, rfl⟩ := vals1 r
  exact chr_of_range h0 h1 ⟨.str _, H, I.tok _, ⟨_, rfl⟩, q⟩
/-- len of a str, a bytes, a list, a tuple -/
def LenV (K : PySem.W.Frag) (x : V) (H : Hp) (n : Nat) : Prop :=
  match x with
  | .str y => y.length ≤ sizeLine ∧ n = y.length
  | .byt y => y.size ≤ sizeLine ∧ n = y.size
  | .ref p => (∃ xs, SqL K H p xs ∧ n = xs.length) ∨ ∃ xs, SqT K H p xs ∧ n = xs.length
  | _ => False
theorem call_len : CallR X (.builtin "len") (fun xs H Q => ∃ x n, xs = [x] ∧ LenV X.K x H n ∧ Q (.int n) H) := by
  intro pins s σ H xs us Q I r h
  obtain ⟨x, n, rfl, e, q⟩ := h
  obtain ⟨u, rfl, rx⟩ := vals1 r
  have hl := line63
  have hs : sizeLine = 16777216 := sizeLine_eq
  cases x with
  | str y =>
    obtain ⟨t, rfl⟩ := rx
    obtain ⟨hy, e'⟩ : y.length ≤ sizeLine ∧ n = y.length := e
    subst e'
    exact len_str (by omega) ⟨.int _, H, I.tok _, ⟨_, rfl⟩, q⟩
  | byt y =>
    obtain ⟨t, rfl⟩ := rx
    obtain ⟨hy, e'⟩ : y.size ≤ sizeLine ∧ n = y.size := e
    subst e'
    exact PySem.W.len_bytes (by omega) ⟨.int _, H, I.tok _, ⟨_, rfl⟩, q⟩
  | ref p =>
    cases rx
    have e' : (∃ xs, SqL X.K H p xs ∧ n = xs.length) ∨ ∃ xs, SqT X.K H p xs ∧ n = xs.length := e
    rcases e' with ⟨xs, hx, e'⟩ | ⟨xs, hx, e'⟩
    · subst e'
      obtain ⟨its, r', pl, hz⟩ := I.list hx
      have hlen := r'.length
      exact Calls.call_len_list pl.isList (by simp only [List.size_toArray]; omega) ⟨.int xs.length, H, I.tok _, ⟨_, by simp only [List.size_toArray]; rw [hlen]⟩, q⟩
    · subst e'
      obtain ⟨its, r', pl, hz⟩ := I.tuple hx
      have hlen := r'.length
      exact len_tuple pl (by simp only [List.size_toArray]; omega) ⟨.int xs.length, H, I.tok _, ⟨_, by simp only [List.size_toArray]; rw [hlen]⟩, q⟩
  | _ => exact (show False from e).elim
/-- divmod: a new tuple -/
theorem call_divmod : CallR X (.builtin "divmod") (fun xs H Q => ∃ i j, xs = [.int i, .int j] ∧ CDiv i j ∧ ∀ p, H p = none → Q (.ref p) (upd H p (.tup [.int (i / j), .int (i % j)]))) := by
  intro pins s σ H xs us Q I r h
  obtain ⟨i, j, rfl, ⟨h1, h2⟩, q⟩ := h
  obtain ⟨u, w', rfl, ⟨t, rfl⟩, ⟨t', rfl⟩⟩ := vals2 r
  refine divmod_int (by omega) ?_ (.inl (PyProof.noPylong_small (by omega)))
  rw [Int.fdiv_eq_ediv_of_nonneg i (by omega), Int.fmod_eq_emod_of_nonneg i (by omega)]
  have hn : H s.heap.objs.size = none := I.hok.fresh (Nat.le_refl _)
  refine ⟨.ref s.heap.objs.size, _, ?_, rfl, q _ hn⟩
  refine I.laid (fun b o e => Heap.get?_push_of_some _ e) (Nat.le_refl _) ⟨by simp only [List.length_cons, List.length_nil]; rw [sizeLine_eq]; decide, [.int (i / j) s.toks, .int (i % j) (s.toks + 1)], .cons ⟨_, rfl⟩ (.cons ⟨_, rfl⟩ .nil), ?_⟩
  exact ⟨_, Heap.get?_push_size s.heap rfl, rfl, 0, rfl⟩
end
end L2

namespace L2
open PySem PySem.Spec PyProof.Rows

/-! ### an instance, its attributes a map -/
structure ObjM (h : Heap) (x dx C : Addr) (mA : Str → Option Value) : Prop where
  obj : h.get? x = some (PySem.W.instObj C dx)
  ns : h.Ns1 dx mA
  ne : dx ≠ x

theorem lookIn_ns {h : Heap} {dx : Addr} {mA : Str → Option Value} (n : h.Ns1 dx mA) : ∃ od, h.get? dx = some od ∧ ∀ name, PySem.W.lookIn name od = some (mA name) := by
  obtain ⟨o, es, ep, ho, hd, hk, _, hm⟩ := n
  refine ⟨o, ho, fun name => ?_⟩
  have e := hm name
  unfold nsFind findBy at e
  rw [← Array.find?_toList] at e
  unfold PySem.W.lookIn
  rw [hd]
  dsimp only
  split
  · rename_i y q
    rw [q] at e
    exact congrArg some e
  · rename_i q
    rw [q] at e
    have a : es.toList.any (·.refKey) = false := by
      rw [List.any_eq_false]
      intro y hy
      obtain ⟨z, t, hkey⟩ := hk y (Array.mem_toList_iff.mp hy)
      simp [DictEntry.refKey, hkey]
    have a' : ¬ es.toList.any (·.refKey) = true := by rw [a]; exact Bool.false_ne_true
    rw [if_neg a']
    exact congrArg some e

theorem ObjM.look {h : Heap} {x dx C : Addr} {mA : Str → Option Value} (I : ObjM h x dx C mA) : ∃ od, PySem.W.InstAt h x (PySem.W.instObj C dx) C (some od) ∧ ∀ name, PySem.W.lookIn name od = some (mA name) :=
  let ⟨od, ho, hl⟩ := lookIn_ns I.ns
  ⟨od, ⟨I.obj, rfl, rfl, ho⟩, hl⟩

section
variable {prog : Program} {w : World} {A : Around} {E : Value → Shared → Prop} {s : Shared} {K : PySem.W.Frag} {x dx C f : Addr} {mA : Str → Option Value} {name : Str} {v : Value}

theorem get_map {expr : Bool} {Q : Value → Shared → Prop} (X : K.In s.heap) (I : ObjM s.heap x dx C mA) (hg : PySem.W.plainGet K C name = true) (hh : PySem.W.hasDictIn K C = true)
    (ha : PySem.W.findIn K (.ref C) name = some none) (hv : mA name = some v) (hv' : PySem.W.handedIn v = true) (h : Q v { s with toks := s.toks + 1 }) :
    wpAny (model prog w) A (getAttr (.ref x) name expr) Q E s := by
  obtain ⟨od, J, hl⟩ := I.look
  exact PySem.W.get_value X J (PySem.W.plainGet_of hg).1 (PySem.W.findObj_own hh ha rfl (by rw [hl, hv])) hv' h

theorem get_const {expr : Bool} {a : Value} {Q : Value → Shared → Prop} (X : K.In s.heap) (I : ObjM s.heap x dx C mA) (hg : PySem.W.plainGet K C name = true) (hh : PySem.W.hasDictIn K C = true)
    (ha : PySem.W.findIn K (.ref C) name = some (some a)) (hn : PySem.W.specialIn K a "__get__" = some none) (hc : PySem.W.copiedNames.contains name = false) (hv : mA name = none) (hv' : PySem.W.handedIn a = true)
    (h : Q a { s with toks := s.toks + 1 }) : wpAny (model prog w) A (getAttr (.ref x) name expr) Q E s := by
  obtain ⟨od, J, hl⟩ := I.look
  exact PySem.W.get_value X J (PySem.W.plainGet_of hg).1 (PySem.W.findObj_cls hh ha hn hv' hc (by rw [hl, hv])) hv' h

theorem get_meth {pl : Sem Bool} {Q : Value × List Value → Shared → Prop} (X : K.In s.heap) (I : ObjM s.heap x dx C mA) (hg : PySem.W.plainGet K C name = true)
    (hf : PySem.W.findIn K (.ref C) name = some (some (.ref f))) (ht : PySem.W.isFn K (.ref f) = true) (hv : mA name = none) (h : Q (.ref f, [.ref x]) s) :
    wpAny (model prog w) A (getMethod (.ref x) name pl) Q E s := by
  obtain ⟨od, J, hl⟩ := I.look
  exact PySem.W.method_fn X J (PySem.W.plainGet_of hg).1 (PySem.W.plainGet_of hg).2 hf (beq_iff_eq.mp ht) (by show (PySem.W.lookIn name od).map (·.isSome) = some false; rw [hl, hv]; rfl) h

theorem set_map {ns : List Str} {Q : Unit → Shared → Prop} (X : K.In s.heap) (I : ObjM s.heap x dx C mA)
    (hs : PySem.W.findIn K (.ref C) "__setattr__" = some (some (.builtin "object.__setattr__"))) (hp : PySem.W.plainOver K C = true) (ht : PySem.W.takerIn K C name = some none) (hh : PySem.W.hasDictIn K C = true)
    (hw : PySem.Within mA ns) (hsz : ns.length ≤ sizeLine)
    (h : ∀ h', ObjM h' x dx C (fun y => if y = name then some v else mA y) → Heap.SameBut dx s.heap h' → Q () { s with heap := h', toks := s.toks + 2 }) :
    wpAny (model prog w) A (setAttr (.ref x) name v) Q E s := by
  obtain ⟨od, J, hl⟩ := I.look
  refine PySem.W.set_plain X J hs (PySem.W.osa_open (s := { s with toks := s.toks + 1 }) (r := none) X J hp ht fun b => ?_)
  obtain ⟨cd, hc, hd'⟩ := PySem.W.any_some hh
  have hx : s.heap.get? x = some ⟨.ref C, some dx, .plain, #[]⟩ := I.obj
  refine wpAny_bind (wpAny_pure (wpAny_bind (wpAny_bind (wpAny_loadPart hx (wpAny_bind (PySem.W.Looks.here (s := { s with toks := s.toks + 1 }) (PySem.W.looks_clsIn X hc) ?_))))))
  rw [hd']
  refine wpAny_pure (a := some dx) (wpAny_bind (wpAny_pure (wpAny_bind ?_)))
  refine wpAny_nsSet1 (s := { s with toks := s.toks + 1 }) I.ns fun h' hn2 hs2 => ?_
  obtain ⟨oD, esD, epD, hoD, hdD, hcD⟩ := hn2.count (PySem.Within.cons name v hw)
  refine wpAny_bind (wpAny_lookBehind hoD (by rw [hdD]; exact pastItsLine_dict (Nat.le_trans hcD (by rw [List.length_cons]; omega))) ?_)
  exact wpAny_pure (h _ ⟨(hs2.2 _ (Ne.symm I.ne)).trans I.obj, hn2, I.ne⟩ hs2)

/-- C(..): the dict at the heap's end, the instance behind it; then its __init__ -/
theorem make_map {R : Result → Shared → Prop} {vs : List Value} {kw : List (Str × Value)} (X : K.In s.heap) (hm : PySem.W.makesIn K C = true)
    (hi : PySem.W.findIn K (.ref C) "__init__" = some (some (.ref f))) (hf : PySem.W.typeIn K (.ref f) = some (.type "function"))
    (h : codeAny (model prog w) (A.under (.builtin "type.__call__" ⟨.ref C :: vs, kw⟩)) (.call (.ref f) ⟨.ref (s.heap.objs.size + 1) :: vs, kw⟩) (PySem.W.InitBack (s.heap.objs.size + 1) R)
      { s with heap := (s.heap.push PySem.W.emptyDict).push (PySem.W.instObj C s.heap.objs.size) }) :
    codeAny (model prog w) A (.call (.ref C) ⟨vs, kw⟩) R s := by
  obtain ⟨hh, g, d, t, os⟩ := s
  exact PySem.W.make_core (PySem.W.makes_of X hm) (PySem.W.looks_findIn X hi) (fun self => PySem.W.bind_fn X self hf) (.inl rfl) h
/-- C() where there is no __init__ but object's -/
theorem make_map0 {R : Result → Shared → Prop} (X : K.In s.heap) (hm : PySem.W.makesIn K C = true)
    (hi : PySem.W.findIn K (.ref C) "__init__" = some (some (.builtin "object.__init__")))
    (hb : ∀ self, PySem.W.Looks (model prog w) s.heap (bindSpecial (.builtin "object.__init__") self) (.builtin "object.__init__", [self]))
    (h : codeAny (model prog w) (A.under (.builtin "type.__call__" ⟨[.ref C], []⟩)) (.call (.builtin "object.__init__") ⟨[.ref (s.heap.objs.size + 1)], []⟩) (PySem.W.InitBack (s.heap.objs.size + 1) R)
      { s with heap := (s.heap.push PySem.W.emptyDict).push (PySem.W.instObj C s.heap.objs.size) }) :
    codeAny (model prog w) A (.call (.ref C) ⟨[], []⟩) R s := by
  obtain ⟨hh, g, d, t, os⟩ := s
  exact PySem.W.make_core (PySem.W.makes_of X hm) (PySem.W.looks_findIn X hi) hb (.inr ⟨rfl, rfl⟩) h
end

/-! ### the attributes as a list of pairs -/
def putF (f : Str) (v : V) : List (Str × V) → List (Str × V)
  | [] => [(f, v)]
  | (g, x) :: r => if g = f then (g, v) :: r else (g, x) :: putF f v r
theorem lookup_putF (f g : Str) (v : V) : ∀ fs : List (Str × V), (putF f v fs).lookup g = if g = f then some v else fs.lookup g
  | [] => by
    show List.lookup g [(f, v)] = _
    by_cases h : g = f
    · have hb : (g == f) = true := beq_iff_eq.mpr h
      simp only [List.lookup, hb, if_pos h]
    · have hb : (g == f) = false := beq_eq_false_iff_ne.mpr h
      simp only [List.lookup, hb, if_neg h]
  | (k, x) :: r => by
    have ih := lookup_putF f g v r
    rw [show putF f v ((k, x) :: r) = (if k = f then (k, v) :: r else (k, x) :: putF f v r) from rfl]
    by_cases hk : k = f
    · rw [if_pos hk]
      by_cases h : g = k
      · have hb : (g == k) = true := beq_iff_eq.mpr h
        simp only [List.lookup, hb, if_pos (h.trans hk)]
      · have hb : (g == k) = false := beq_eq_false_iff_ne.mpr h
        simp only [List.lookup, hb, if_neg (fun e : g = f => h (e.trans hk.symm))]
    · rw [if_neg hk]
      by_cases h : g = k
      · have hb : (g == k) = true := beq_iff_eq.mpr h
        simp only [List.lookup, hb, if_neg (fun e : g = f => hk (h.symm.trans e))]
      · have hb : (g == k) = false := beq_eq_false_iff_ne.mpr h
        simp only [List.lookup, hb]
        exact ih
theorem keys_putF (f : Str) (v : V) : ∀ fs : List (Str × V), f ∈ (putF f v fs).map (·.1) ∧ ∀ g, g ∈ fs.map (·.1) → g ∈ (putF f v fs).map (·.1)
  | [] => ⟨by simp [putF], fun g h => by simp at h⟩
  | (k, x) :: r => by
    obtain ⟨i1, i2⟩ := keys_putF f v r
    rw [show putF f v ((k, x) :: r) = (if k = f then (k, v) :: r else (k, x) :: putF f v r) from rfl]
    by_cases hk : k = f
    · rw [if_pos hk]
      subst hk
      exact ⟨by simp, fun g h => by simpa using h⟩
    · rw [if_neg hk]
      refine ⟨?_, fun g h => ?_⟩
      · rw [List.map_cons]
        exact List.mem_cons_of_mem _ i1
      · rw [List.map_cons] at h ⊢
        rcases List.mem_cons.mp h with e | e
        · exact List.mem_cons.mpr (.inl e)
        · exact List.mem_cons_of_mem _ (i2 g e)
theorem length_putF (f : Str) (v : V) : ∀ fs : List (Str × V), (putF f v fs).length ≤ fs.length + 1
  | [] => by simp [putF]
  | (k, x) :: r => by
    have ih := length_putF f v r
    rw [show putF f v ((k, x) :: r) = (if k = f then (k, v) :: r else (k, x) :: putF f v r) from rfl]
    by_cases hk : k = f
    · rw [if_pos hk, List.length_cons, List.length_cons]; omega
    · rw [if_neg hk, List.length_cons, List.length_cons]; omega

theorem RelO.some_of {v : V} {o : Option Value} (r : RelO (some v) o) : ∃ u, o = some u ∧ RelV v u := by
  cases o with
  | none => exact (show False from r).elim
  | some u => exact ⟨u, rfl, r⟩
theorem RelO.none_of {o : Option Value} (r : RelO none o) : o = none := by
  cases o with
  | none => rfl
  | some u => exact (show False from r).elim
theorem handed_of {v : V} {u : Value} (r : RelV v u) : PySem.W.handedIn u = true := by
  cases v with
  | non => cases (show u = Value.none from r); rfl
  | bl b => cases (show u = Value.bool b from r); rfl
  | int i => obtain ⟨t, e⟩ := (show ∃ t, u = Value.int i t from r); cases e; rfl
  | str x => obtain ⟨t, e⟩ := (show ∃ t, u = Value.str x t from r); cases e; rfl
  | byt b => obtain ⟨t, e⟩ := (show ∃ t, u = Value.bytes b t from r); cases e; rfl
  | flt b => obtain ⟨t, e⟩ := (show ∃ t, u = Value.float b t from r); cases e; rfl
  | ref a => cases (show u = Value.ref a from r); rfl
  | ty n => cases (show u = Value.type n from r); rfl

section
variable {P : Program} {w : World} {H H' : Hp} {h h' : Heap} {a C dx : Addr} {fs fs' : List (Str × V)}
theorem ins_get (hok : HOk P w H h) (e : H a = some (.ins C dx fs)) : ∃ mA, ObjM h a dx C mA ∧ (∀ f, RelO (fs.lookup f) (mA f)) ∧ PySem.Within mA (fs.map (·.1)) ∧ fs.length ≤ 1000 ∧ H dx = some (.own a) := by
  obtain ⟨d, z, ne, ob, mA, n, r, q⟩ := (show ObjOk P w H h a (.ins C dx fs) from hok a _ e)
  exact ⟨mA, ⟨ob, n, ne⟩, r, q, z, d⟩
end

/-! ### what of the text a class must have -/
structure Cls (K : PySem.W.Frag) (C : Addr) : Prop where
  pg : PySem.W.plainGet K C Str.empty = true
  hd : PySem.W.hasDictIn K C = true
  po : PySem.W.plainOver K C = true
  sa : PySem.W.findIn K (.ref C) "__setattr__" = some (some (.builtin "object.__setattr__"))
theorem Cls.get {K : PySem.W.Frag} {C : Addr} (c : Cls K C) (f : Str) : PySem.W.plainGet K C f = true := c.pg
/-- no class of it has the name -/
def NoAttr (K : PySem.W.Frag) (C : Addr) (f : Str) : Prop := PySem.W.findIn K (.ref C) f = some none
theorem NoAttr.taker {K : PySem.W.Frag} {C : Addr} {f : Str} (n : NoAttr K C f) : PySem.W.takerIn K C f = some none := by
  unfold PySem.W.takerIn
  rw [show PySem.W.findIn K (.ref C) f = some none from n]
  rfl
/-- a constant of the class -/
structure Con (K : PySem.W.Frag) (C : Addr) (f : Str) (v : V) (u : Value) : Prop where
  at_ : PySem.W.findIn K (.ref C) f = some (some u)
  rel : RelV v u
  get : PySem.W.specialIn K u "__get__" = some none
  cp : PySem.W.copiedNames.contains f = false
/-- a method: a plain def of the class or of one above it -/
structure Meth (K : PySem.W.Frag) (C : Addr) (m : Str) (f : Addr) : Prop where
  at_ : PySem.W.findIn K (.ref C) m = some (some (.ref f))
  fn : PySem.W.isFn K (.ref f) = true
  kp : PySem.W.keepIn K (.ref f) = true

section
variable {X : Cx} {pins : List (Addr × Obj)} {σ : St} {H : Hp} {s : Shared} {a C dx : Addr} {fs : List (Str × V)} {f : Str} {v : V} {A : Around} {E : Value → Shared → Prop}

theorem getattr_ok {b : Bool} {Q : Value → Shared → Prop} (I : Inv X pins σ H s) (e : H a = some (.ins C dx fs)) (c : Cls X.K C) (n : NoAttr X.K C f) (l : fs.lookup f = some v)
    (h : ∀ u s', Inv X pins σ H s' → RelV v u → Q u s') : wpAny (model X.prog X.w) A (getAttr (.ref a) f b) Q E s := by
  obtain ⟨mA, O, r, _, _, _⟩ := ins_get I.hok e
  obtain ⟨u, hu, ru⟩ := RelO.some_of (v := v) (o := mA f) (by rw [← l]; exact r f)
  exact get_map I.kIn O (c.get f) c.hd n hu (handed_of ru) (h u _ (I.tok _) ru)

theorem getcon_ok {b : Bool} {u : Value} {Q : Value → Shared → Prop} (I : Inv X pins σ H s) (e : H a = some (.ins C dx fs)) (c : Cls X.K C) (k : Con X.K C f v u) (l : fs.lookup f = none)
    (h : ∀ s', Inv X pins σ H s' → Q u s') : wpAny (model X.prog X.w) A (getAttr (.ref a) f b) Q E s := by
  obtain ⟨mA, O, r, _, _, _⟩ := ins_get I.hok e
  have hn : mA f = none := RelO.none_of (by rw [← l]; exact r f)
  exact get_const I.kIn O (c.get f) c.hd k.at_ k.get k.cp hn (handed_of k.rel) (h _ (I.tok _))

theorem getmeth_ok {m : Str} {g : Addr} {pl : Sem Bool} {Q : Value × List Value → Shared → Prop} (I : Inv X pins σ H s) (e : H a = some (.ins C dx fs)) (c : Cls X.K C) (k : Meth X.K C m g) (l : fs.lookup m = none)
    (h : Q (.ref g, [.ref a]) s) : wpAny (model X.prog X.w) A (getMethod (.ref a) m pl) Q E s := by
  obtain ⟨mA, O, r, _, _, _⟩ := ins_get I.hok e
  have hn : mA m = none := RelO.none_of (by rw [← l]; exact r m)
  exact get_meth I.kIn O (c.get m) k.at_ k.fn hn h

theorem setattr_ok {y : V} {u : Value} {Q : Unit → Shared → Prop} (I : Inv X pins σ H s) (e : H a = some (.ins C dx fs)) (c : Cls X.K C) (n : NoAttr X.K C f) (hl : fs.length < 1000) (ry : RelV y u)
    (h : ∀ s', Inv X pins σ (upd H a (.ins C dx (putF f y fs))) s' → Q () s') : wpAny (model X.prog X.w) A (setAttr (.ref a) f u) Q E s := by
  obtain ⟨mA, O, r, wi, _, ho⟩ := ins_get I.hok e
  have hz : (fs.map (·.1)).length ≤ sizeLine := by rw [List.length_map, sizeLine_eq]; omega
  refine set_map I.kIn O c.sa c.po n.taker c.hd wi hz fun h' O' sb => h _ ?_
  have hd : ∃ o, h'.get? dx = some o := let ⟨o, _, _, e', _⟩ := O'.ns; ⟨o, e'⟩
  refine I.write (x := a) (e := dx) (by rw [e]; exact True.intro) (.inr ho) (fun b q hb z => (sb.2 b hb).trans z) hd ?_
  refine ⟨by rw [upd_ne O.ne]; exact ho, ?_, O.ne, O'.obj, _, O'.ns, fun g => ?_, fun g hg => ?_⟩
  · have := length_putF f y fs; omega
  · show RelO ((putF f y fs).lookup g) (if g = f then some u else mA g)
    rw [lookup_putF]
    by_cases q : g = f
    · rw [if_pos q, if_pos q]; exact ry
    · rw [if_neg q, if_neg q]; exact r g
  · by_cases q : g = f
    · rw [q]; exact (keys_putF f y fs).1
    · refine (keys_putF f y fs).2 g (wi g fun z => hg ?_)
      show (if g = f then some u else mA g) = none
      rw [if_neg q]; exact z

/-- a new instance, tracked, without attributes -/
theorem Inv.made (I : Inv X pins σ H s) : Inv X pins σ (upd (upd H s.heap.objs.size (.own (s.heap.objs.size + 1))) (s.heap.objs.size + 1) (.ins C s.heap.objs.size []))
    { s with heap := (s.heap.push PySem.W.emptyDict).push (PySem.W.instObj C s.heap.objs.size) } := by
  have e1 : (s.heap.push PySem.W.emptyDict).get? s.heap.objs.size = some PySem.W.emptyDict := Heap.get?_push_size s.heap rfl
  have e2 : ((s.heap.push PySem.W.emptyDict).push (PySem.W.instObj C s.heap.objs.size)).get? (s.heap.objs.size + 1) = some (PySem.W.instObj C s.heap.objs.size) := by
    have := Heap.get?_push_size (s.heap.push PySem.W.emptyDict) (o := PySem.W.instObj C s.heap.objs.size) rfl
    rwa [Heap.size_push] at this
  have e3 : (s.heap.push PySem.W.emptyDict).Ns s.heap.objs.size (fun _ => none) := ⟨PySem.W.emptyDict, #[], _, e1, rfl, (fun e he => absurd he (by simp)), fun _ => rfl⟩
  have I1 := I.laid (a := s.heap.objs.size) (o := .own (s.heap.objs.size + 1)) (h' := s.heap.push PySem.W.emptyDict) (t' := s.toks) (fun b u q => Heap.get?_push_of_some _ q) (Nat.le_refl _) ⟨_, e1⟩
  refine I1.laid (a := s.heap.objs.size + 1) (o := .ins C s.heap.objs.size []) (t' := s.toks) (fun b u q => Heap.get?_push_of_some _ q) (Nat.le_of_eq (Heap.size_push _ _)) ?_
  have ne : s.heap.objs.size ≠ s.heap.objs.size + 1 := Nat.ne_of_lt (Nat.lt_succ_self _)
  refine ⟨by rw [upd_ne ne, upd_same], Nat.zero_le _, ne, e2, fun _ => none, (Heap.Ns1.of_empty e3).at fun o q => Heap.get?_push_of_some _ q, fun _ => True.intro, fun y hy => absurd rfl hy⟩

/-- e.f where nothing but the object is asked: through attributeBase (super) and the last hold -/
theorem attr_of {prog : Program} {w : World} {env : Env} {e : Expr} {f : Str} {pos : Pos} {s : Shared} {Q : Value → Shared → Prop} (hb : attributeBase e f env (eval e env) = eval e env)
    (h : wpAny (model prog w) A (eval e env) (fun o s₁ => wpAny (model prog w) A (getAttr o f true) Q E s₁) E s) : wpAny (model prog w) A (eval (.Attribute e f pos) env) Q E s :=
  Attribute_any_ h (by rw [arm_eval_Attribute, hb])
end

/-! ### readings and rules -/
/-- e.f, an attribute of the instance -/
def tFld (K : PySem.W.Frag) (ta : TE) (f : Str) : TE := fun σ H Q => ta σ H fun x H1 => ∃ a C dx fs v, x = .ref a ∧ H1 a = some (.ins C dx fs) ∧ Cls K C ∧ NoAttr K C f ∧ fs.lookup f = some v ∧ Q v H1
/-- e.f, a constant of the class -/
def tCon (K : PySem.W.Frag) (ta : TE) (f : Str) : TE := fun σ H Q => ta σ H fun x H1 => ∃ a C dx fs v u, x = .ref a ∧ H1 a = some (.ins C dx fs) ∧ Cls K C ∧ Con K C f v u ∧ fs.lookup f = none ∧ Q v H1
/-- e.f = value -/
def sFld (K : PySem.W.Frag) (ta tv : TE) (f : Str) : TS := fun D σ H => tv σ H fun y H1 => ta σ H1 fun x H2 => ∃ a C dx fs, x = .ref a ∧ H2 a = some (.ins C dx fs) ∧ Cls K C ∧ NoAttr K C f ∧ fs.length < 1000 ∧
  D.nx σ (upd H2 a (.ins C dx (putF f y fs)))
/-- an augmented operator on two values -/
def InOp (X : Cx) (op : Operator) (rd : V → V → Hp → VK → Prop) : Prop :=
  ∀ (pins : List (Addr × Obj)) (s : Shared) (σ : St) (H : Hp) (x y : V) (u v : Value) (Q : VK), Inv X pins σ H s → RelV x u → RelV y v → rd x y H Q → wpAny (model X.prog X.w) X.A (inplaceOp op u v) (EP X pins σ Q) X.xe s
/-- e.f op= value -/
def sFldAug (K : PySem.W.Frag) (ta tv : TE) (rd : V → V → Hp → VK → Prop) (f : Str) : TS := fun D σ H => ta σ H fun x H1 => ∃ a C dx fs v, x = .ref a ∧ H1 a = some (.ins C dx fs) ∧ Cls K C ∧ NoAttr K C f ∧ fs.lookup f = some v ∧
  tv σ H1 fun y H2 => rd v y H2 fun z H3 => ∃ dx' fs', H3 a = some (.ins C dx' fs') ∧ fs'.length < 1000 ∧ D.nx σ (upd H3 a (.ins C dx' (putF f z fs')))

section
variable {X : Cx} {o e value : Expr} {f : Str} {pos pos' tpos : Pos} {ta tv : TE}
theorem pe_fld (he : PE X e ta) (hb : attributeBase e f X.env (eval e X.env) = eval e X.env) : PE X (.Attribute e f pos) (tFld X.K ta f) := by
  intro pins s σ H Q I h
  refine attr_of hb (thn (he pins s σ H _ I h) fun u s1 ⟨x, H1, I1, rx, a, C, dx, fs, v, ex, ea, c, n, l, q⟩ => ?_)
  subst ex
  obtain rfl : u = Value.ref a := rx
  exact getattr_ok I1 ea c n l fun u' s2 I2 ru => ⟨v, H1, I2, ru, q⟩
theorem pe_con (he : PE X e ta) (hb : attributeBase e f X.env (eval e X.env) = eval e X.env) : PE X (.Attribute e f pos) (tCon X.K ta f) := by
  intro pins s σ H Q I h
  refine attr_of hb (thn (he pins s σ H _ I h) fun u s1 ⟨x, H1, I1, rx, a, C, dx, fs, v, u0, ex, ea, c, k, l, q⟩ => ?_)
  subst ex
  obtain rfl : u = Value.ref a := rx
  exact getcon_ok I1 ea c k l fun s2 I2 => ⟨v, H1, I2, k.rel, q⟩
theorem ps_fld (ha : PE X o ta) (hv : PE X value tv) (hs : swapsWith value (some (.Attribute o f pos')) pos.line X.env = pure false) : PS X (.Assign [.Attribute o f pos'] value pos) (sFld X.K ta tv f) := by
  intro pins s σ H D I h
  refine plainObj_wpAny_Assign_Attribute (thn (hv pins s σ H _ I h) fun u s1 ⟨y, H1, I1, ry, q⟩ => thn (ha pins s1 σ H1 _ I1 q) fun ov s2 ⟨x, H2, I2, rx, a, C, dx, fs, ex, ea, c, n, l, q2⟩ => ?_) hs
  subst ex
  obtain rfl : ov = Value.ref a := rx
  exact setattr_ok I2 ea c n l ry fun s3 I3 => ⟨σ, _, I3, q2⟩
theorem ps_fldaug {op : Operator} {rd : V → V → Hp → VK → Prop} (ha : PE X o ta) (hv : PE X value tv) (hop : InOp X op rd) : PS X (.AugAssign (.Attribute o f tpos) op value pos) (sFldAug X.K ta tv rd f) := by
  intro pins s σ H D I h
  refine wpAny_AugAssign_AttributeAny (thn (ha pins s σ H _ I h) fun ov s1 ⟨x, H1, I1, rx, a, C, dx, fs, v, ex, ea, c, n, l, q⟩ => ?_)
  subst ex
  obtain rfl : ov = Value.ref a := rx
  refine getattr_ok I1 ea c n l fun u s2 I2 ru => thn (hv pins s2 σ H1 _ I2 q) fun w3 s3 ⟨y, H2, I3, ry, q3⟩ => thn (hop pins s3 σ H2 v y u w3 _ I3 ru ry q3) fun w4 s4 ⟨z, H3, I4, rz, dx', fs', ea', l', q4⟩ => ?_
  exact setattr_ok I4 ea' c n l' rz fun s5 I5 => ⟨σ, _, I5, q4⟩
def rAdd : V → V → Hp → VK → Prop := fun x y H Q => ∃ i j, x = .int i ∧ y = .int j ∧ Q (.int (i + j)) H
def rSub : V → V → Hp → VK → Prop := fun x y H Q => ∃ i j, x = .int i ∧ y = .int j ∧ Q (.int (i - j)) H
theorem in_add : InOp X .Add rAdd := by
  rintro pins s σ H x y u v Q I rx ry ⟨i, j, rfl, rfl, q⟩
  obtain ⟨t, rfl⟩ := (show ∃ t, u = Value.int i t from rx)
  obtain ⟨t', rfl⟩ := (show ∃ t', v = Value.int j t' from ry)
  exact PyProof.Rows.iadd_int ⟨.int (i + j), H, I.tok _, ⟨_, rfl⟩, q⟩
theorem in_sub : InOp X .Sub rSub := by
  rintro pins s σ H x y u v Q I rx ry ⟨i, j, rfl, rfl, q⟩
  obtain ⟨t, rfl⟩ := (show ∃ t, u = Value.int i t from rx)
  obtain ⟨t', rfl⟩ := (show ∃ t', v = Value.int j t' from ry)
  exact PyProof.Rows.isub_int ⟨.int (i - j), H, I.tok _, ⟨_, rfl⟩, q⟩

/-- what is between an instance and its method: the tree of a method call -/
theorem methcall_of {pl : Sem Bool} {m : Str} {apos : Pos} {args : List Expr} {pins : List (Addr × Obj)} {s : Shared} {σ : St} {H : Hp} {Q : Value → Shared → Prop} {te : TE} (he : PE X e te) (I : Inv X pins σ H s)
    (h : te σ H fun x H1 => ∃ a C dx fs g, x = .ref a ∧ H1 a = some (.ins C dx fs) ∧ Cls X.K C ∧ Meth X.K C m g ∧ fs.lookup m = none ∧
      ∀ s1, Inv X pins σ H1 s1 → wpAny (model X.prog X.w) X.A (callWith pos (.ref g) [.ref a] (backTo pos (starEach args X.env)) (backToKw pos (keywordEach [] X.env))) Q X.xe s1)
    (ht : eval (.Call (.Attribute e m apos) args [] pos) X.env = (do
      let ov ← eval e X.env
      standAt apos.atName
      let (f, first) ← holding [ov] (getMethod ov m pl)
      callWith pos f first (backTo pos (starEach args X.env)) (backToKw pos (keywordEach [] X.env)))) :
    wpAny (model X.prog X.w) X.A (eval (.Call (.Attribute e m apos) args [] pos) X.env) Q X.xe s := by
  refine PySem.W.methodCall_KW (pl := pl) (thn (he pins s σ H _ I h) fun u s1 ⟨x, H1, I1, rx, a, C, dx, fs, g, ex, ea, c, k, l, q⟩ => ?_) ht
  subst ex
  obtain rfl : u = Value.ref a := rx
  exact getmeth_ok I1 ea c k l (q s1 I1)
end

/-! ### isinstance -/
section
variable {X : Cx} {pins : List (Addr × Obj)} {σ : St} {H : Hp} {s : Shared} {A : Around} {E : Value → Shared → Prop} {Q : Value → Shared → Prop} {c : Value} {b : Bool}
/-- the type of a value, as the fragment's deciders take it; for an instance its class -/
inductive TyOf (K : PySem.W.Frag) (H : Hp) : V → Value → Prop where
  | non : TyOf K H .non (.type "NoneType")
  | bl (x : Bool) : TyOf K H (.bl x) (.type "bool")
  | int (i : Int) : TyOf K H (.int i) (.type "int")
  | str (x : Str) : TyOf K H (.str x) (.type "str")
  | flt (x : UInt64) : TyOf K H (.flt x) (.type "float")
  | lst {a : Addr} {xs : List V} (e : H a = some (.lst xs)) : TyOf K H (.ref a) (.type "list")
  | frz {a : Addr} {o : Obj} {xs : List V} (e : H a = some (.frz o (.lst xs))) : TyOf K H (.ref a) (.type "list")
  | tup {a : Addr} {xs : List V} (e : H a = some (.tup xs)) : TyOf K H (.ref a) (.type "tuple")
  | dK {a : Addr} {kvs : List (Key × V)} (e : H a = some (.dK kvs)) : TyOf K H (.ref a) (.type "dict")
  | dT {a : Addr} {kvs : List (List Key × V)} (e : H a = some (.dT kvs)) : TyOf K H (.ref a) (.type "dict")
  | ins {a C dx : Addr} {fs : List (Str × V)} (e : H a = some (.ins C dx fs)) (cl : Cls K C) (ha : PySem.W.findIn K (.ref C) "__class__" = some (some (.builtin "object.__class__")))
      (hn : PySem.W.specialIn K (.builtin "object.__class__") "__get__" = some (some (.builtin "getset_descriptor.__get__"))) (htk : PySem.W.takesIn K (.builtin "object.__class__") = some true)
      (hm : PySem.W.mroIn K C (.type "object") = some true) : TyOf K H (.ref a) (.ref C)
/-- isinstance(x, c) for one class c, a built-in or an own one: kitOne's answer -/
theorem isinst_ok {x : V} {u t : Value} (I : Inv X pins σ H s) (rx : RelV x u) (ty : TyOf X.K H x t) (e : PySem.W.kitOne X.K t c = some b) (h : ∀ tk, Q (.bool b) { s with toks := tk }) :
    wpAny (model X.prog X.w) A (call (.builtin "isinstance") [u, c]) Q E s := by
  cases ty with
  | non => cases (show u = Value.none from rx); exact PySem.W.kia_one PySem.W.kitx_none I.kIn True.intro e (fun z => nomatch z) h
  | bl y => cases (show u = Value.bool y from rx); exact PySem.W.kia_one PySem.W.kitx_bool I.kIn True.intro e (fun z => nomatch z) h
  | int i => obtain ⟨t, q⟩ := (show ∃ t, u = Value.int i t from rx); cases q; exact PySem.W.kia_one PySem.W.kitx_int I.kIn True.intro e (fun z => nomatch z) h
  | str y => obtain ⟨t, q⟩ := (show ∃ t, u = Value.str y t from rx); cases q; exact PySem.W.kia_one PySem.W.kitx_str I.kIn True.intro e (fun z => nomatch z) h
  | flt y => obtain ⟨t, q⟩ := (show ∃ t, u = Value.float y t from rx); cases q; exact PySem.W.kia_one PySem.W.kitx_float I.kIn True.intro e (fun z => nomatch z) h
  | @lst a xs ea =>
    cases (show u = Value.ref a from rx)
    obtain ⟨_, _, n, _, h1⟩ := (show ObjOk X.prog X.w H s.heap a (.lst xs) from I.hok a _ ea)
    exact PySem.W.kia_one PySem.W.kitx_list I.kIn ⟨_, h1, rfl⟩ e (fun z => nomatch z) h
  | @frz a ob xs ea =>
    cases (show u = Value.ref a from rx)
    obtain ⟨_, _, _, n, _, h1⟩ := (show ObjOk X.prog X.w H s.heap a (.frz ob (.lst xs)) from I.hok a _ ea)
    exact PySem.W.kia_one PySem.W.kitx_list I.kIn ⟨_, h1, rfl⟩ e (fun z => nomatch z) h
  | @tup a xs ea =>
    cases (show u = Value.ref a from rx)
    obtain ⟨_, _, _, p⟩ := (show ObjOk X.prog X.w H s.heap a (.tup xs) from I.hok a _ ea)
    obtain ⟨o, h1, h2, _⟩ := p
    exact PySem.W.kia_one PySem.W.kitx_tuple I.kIn ⟨o, h1, h2⟩ e (fun z => nomatch z) h
  | @dK a kvs ea =>
    cases (show u = Value.ref a from rx)
    obtain ⟨_, _, vs, _, p⟩ := (show ObjOk X.prog X.w H s.heap a (.dK kvs) from I.hok a _ ea)
    obtain ⟨o, es, ep, h1, h2, _⟩ := p
    exact PySem.W.kia_one PySem.W.kitx_dict I.kIn ⟨o, h1, h2.1⟩ e (fun z => nomatch z) h
  | @dT a kvs ea =>
    cases (show u = Value.ref a from rx)
    obtain ⟨_, _, xs, _, o, es, ep, h1, h2, _⟩ := (show ObjOk X.prog X.w H s.heap a (.dT kvs) from I.hok a _ ea)
    exact PySem.W.kia_one PySem.W.kitx_dict I.kIn ⟨o, h1, h2.1⟩ e (fun z => nomatch z) h
  | @ins a C dx fs ea cl ha hn htk hm =>
    cases (show u = Value.ref a from rx)
    obtain ⟨mA, O, _⟩ := ins_get I.hok ea
    obtain ⟨od, J, _⟩ := O.look
    exact PySem.W.kia_one (PySem.W.kitx_own (cl.get _) cl.hd ha hn htk hm) I.kIn J e (fun z => nomatch z) h
end
end L2

namespace L2
open PySem PySem.Spec PyProof.Rows

/-! ### room -/
structure Room (k : Nat) (A : Around) : Prop where
  hd : A.handled = none
  dp : A.depth + 3 * k + 5 < recursionLimit
  un : A.units + 16 * k + 200 < cLine
  gd : A.guards = some []
theorem Room.mono {j k : Nat} {A : Around} (r : Room k A) (h : j ≤ k) : Room j A := ⟨r.hd, by have := r.dp; omega, by have := r.un; omega, r.gd⟩
theorem Room.deeper {k : Nat} {A : Around} (r : Room (k + 1) A) (env : Env) : Room k (A.deeper env) :=
  ⟨r.hd, by have := r.dp; show A.depth + 1 + 3 * k + 5 < _; omega, by have := r.un; show A.units + 3 + 16 * k + 200 < _; omega, r.gd⟩
theorem Room.in1 {k : Nat} {A : Around} (r : Room (k + 1) A) : Room k A.in1 :=
  ⟨r.hd, by have := r.dp; show A.depth + 3 * k + 5 < _; omega, by have := r.un; show A.units + 1 + 16 * k + 200 < _; omega, r.gd⟩
theorem make_depth {A : Around} {C : Addr} {us : List Value} {kw : List (Str × Value)} : (A.under (.builtin "type.__call__" ⟨.ref C :: us, kw⟩)).depth = A.depth + 1 := by
  first | rfl | simp [Around.under, Code.weight, Code.isCreation, Code.isGuard, Code.isCaller, Code.frames, Code.isFrame, guardIds]
theorem make_units {A : Around} {C : Addr} {us : List Value} {kw : List (Str × Value)} : (A.under (.builtin "type.__call__" ⟨.ref C :: us, kw⟩)).units = A.units + 1 := by
  first | rfl | simp [Around.under, Code.cUnits, Code.frames, Code.isFrame]
theorem Room.make {k : Nat} {A : Around} (r : Room (k + 1) A) (C : Addr) (us : List Value) (kw : List (Str × Value)) : Room k (A.under (.builtin "type.__call__" ⟨.ref C :: us, kw⟩)) :=
  ⟨r.hd, by have := r.dp; rw [make_depth]; omega, by have := r.un; rw [make_units]; omega, by first | exact r.gd | (have := r.gd; simp [Around.under, Code.guards, Code.isGuard, guardIds, pushGuards, this])⟩
theorem Room.depth {k : Nat} {A : Around} (r : Room k A) : A.depth < recursionLimit := by have := r.dp; omega
theorem Room.units {k : Nat} {A : Around} (r : Room k A) : A.units + 64 < cLine := by have := r.un; omega
theorem Room.units0 {k : Nat} {A : Around} (r : Room k A) : A.units < cLine := by have := r.un; omega

/-! ### argument lists and displays -/
def tNil : TA := fun _ H Q => Q [] H
def tCons (ta : TE) (tr : TA) : TA := fun σ H Q => ta σ H fun x H1 => tr σ H1 fun xs H2 => Q (x :: xs) H2
section
variable {X : Cx} {e : Expr} {es : List Expr} {te : TE} {t : TA} {pos : Pos}
theorem pa_nil : PA X [] tNil := fun _ _ _ _ H Q I h => Calls.spliced_nil ⟨[], H, I, .nil, h⟩
theorem pa_cons (ha : PE X e te) (hr : PA X es t) (hs : starEach (e :: es) X.env = (false, eval e X.env) :: starEach es X.env := by rfl) : PA X (e :: es) (tCons te t) := by
  intro pos pins s σ H Q I h
  rw [hs]
  show wpAny _ _ (spliced ((false, eval e X.env) :: backTo pos (starEach es X.env))) _ _ s
  refine Calls.spliced_cons (thn (ha pins s σ H _ I h) fun u s1 ⟨x, H1, I1, r1, q1⟩ => ?_)
  exact thn (hr pos pins s1 σ H1 _ I1 q1) fun us s2 ⟨xs, H2, I2, r2, q2⟩ => ⟨x :: xs, H2, I2, .cons r1 r2, q2⟩

/-- a tuple, a list of written items -/
def tTup (t : TA) : TE := fun σ H Q => t σ H fun xs H1 => xs.length ≤ sizeLine ∧ ∀ p, H1 p = none → Q (.ref p) (upd H1 p (.tup xs))
def tLst (t : TA) : TE := fun σ H Q => t σ H fun xs H1 => xs.length ≤ sizeLine ∧ ∀ p, H1 p = none → Q (.ref p) (upd H1 p (.lst xs))
theorem pe_tup {x1} (h : PA X es t) : PE X (.Tuple es x1 pos) (tTup t) := by
  intro pins s σ H Q I hq
  refine wpAny_Tuple_spliced (thn (h pos pins s σ H _ I hq) fun us s1 ⟨xs, H1, I1, r, z, q⟩ => ⟨by rw [← r.length]; exact z, ?_⟩)
  have hf : H1 s1.heap.objs.size = none := I1.hok.fresh (Nat.le_refl _)
  refine ⟨.ref s1.heap.objs.size, upd H1 s1.heap.objs.size (.tup xs), I1.laid (t' := s1.toks) (fun b u e => Heap.get?_push_of_some _ e) (Nat.le_refl _) ?_, rfl, q _ hf⟩
  exact ⟨z, us, r, ⟨_, Heap.get?_push_size _ rfl, rfl, _, rfl⟩⟩
theorem pe_lst (h : PA X es t) : PE X (.List es pos) (tLst t) := by
  intro pins s σ H Q I hq
  refine wpAny_List_spliced (thn (h pos pins s σ H _ I hq) fun us s1 ⟨xs, H1, I1, r, z, q⟩ => ⟨by rw [← r.length]; exact z, ?_⟩)
  have hf : H1 s1.heap.objs.size = none := I1.hok.fresh (Nat.le_refl _)
  refine ⟨.ref s1.heap.objs.size, upd H1 s1.heap.objs.size (.lst xs), I1.laid (t' := s1.toks) (fun b u e => Heap.get?_push_of_some _ e) (Nat.le_refl _) ?_, rfl, q _ hf⟩
  exact ⟨z, us, 0, r, Heap.get?_push_size _ rfl⟩
end

/-! ### what a def promises -/
/-- a def's promise: the bound arguments in the parameters' order, the heap, the wanted end, the wanted exception -/
abbrev Sp := List V → Hp → VK → XK → Prop
/-- how an exception lies behind a call (file 08 gives it): the callers' frames, abstract heap and state ahead of the call, the wish, the exception, the state -/
abbrev CXT := List Env → Hp → Shared → XK → Value → Shared → Prop

/-- the state at a call -/
structure Env0 (P : Program) (w : World) (K : PySem.W.Frag) (mg : Str → Option Value) (base : Heap) (A : Around) (outer : List Env) (s : Shared) (H : Hp) : Prop where
  frames : A.frames = some outer
  mod : Mod K mg base
  bs : ∀ b o, base.get? b = some o → s.heap.get? b = some o ∧ H b = none
  bsz : base.objs.size ≤ s.heap.objs.size
  funs : s.heap.FunFrames base outer
  frf : ∀ b ∈ frs outer, H b = none
  hok : HOk P w H s.heap
  bare : AllBare s.gens
/-- a call's end -/
def CE (outer : List Env) (P : Program) (w : World) (H : Hp) (s : Shared) (Q : VK) (u : Value) (s' : Shared) : Prop :=
  ∃ v H', s'.os = s.os ∧ AllBare s'.gens ∧ Un (frs outer) [] H H' s.heap s'.heap ∧ HOk P w H' s'.heap ∧ RelV v u ∧ Q v H'
def CR (CX : CXT) (outer : List Env) (P : Program) (w : World) (H : Hp) (s : Shared) (Q : VK) (E : XK) (r : Result) (s' : Shared) : Prop :=
  match r with
  | .ok (.ret u) => CE outer P w H s Q u s'
  | .ok _ => False
  | .error e => CX outer H s E e s'
structure FnOk (P : Program) (w : World) (K : PySem.W.Frag) (mg : Str → Option Value) (base : Heap) (CX : CXT) (k : Nat) (f : Addr) (fd : FuncData) (ps : List Str) (sp : Sp) : Prop where
  len : ∀ vs H Q E, sp vs H Q E → vs.length = ps.length
  run : ∀ (A : Around) (outer : List Env) (s : Shared) (H : Hp) (args : Args) (us : List Value) (vs : List V) (Q : VK) (E : XK), Room k A → Env0 P w K mg base A outer s H → BindsTo s fd args (ps.zip us) → Vals vs us → sp vs H Q E →
    codeAny (model P w) A (.call (.ref f) args) (CR CX outer P w H s Q E) s
theorem FnOk.mono {P : Program} {w : World} {K : PySem.W.Frag} {mg : Str → Option Value} {base : Heap} {CX : CXT} {j k : Nat} {f : Addr} {fd : FuncData} {ps : List Str} {sp : Sp} (F : FnOk P w K mg base CX j f fd ps sp) (h : j ≤ k) :
    FnOk P w K mg base CX k f fd ps sp := ⟨F.len, fun A outer s H args us vs Q E hr => F.run A outer s H args us vs Q E (hr.mono h)⟩
/-- a weaker promise -/
theorem FnOk.imp {P : Program} {w : World} {K : PySem.W.Frag} {mg : Str → Option Value} {base : Heap} {CX : CXT} {k : Nat} {f : Addr} {fd : FuncData} {ps : List Str} {sp sp' : Sp} (F : FnOk P w K mg base CX k f fd ps sp)
    (h : ∀ vs H Q E, sp' vs H Q E → sp vs H Q E) : FnOk P w K mg base CX k f fd ps sp' :=
  ⟨fun vs H Q E q => F.len vs H Q E (h _ _ _ _ q), fun A outer s H args us vs Q E hr he hb hv hs => F.run A outer s H args us vs Q E hr he hb hv (h _ _ _ _ hs)⟩

theorem Env0.make {P : Program} {w : World} {K : PySem.W.Frag} {mg : Str → Option Value} {base : Heap} {A : Around} {outer : List Env} {s : Shared} {H : Hp} (e : Env0 P w K mg base A outer s H) (C : Addr) (us : List Value) (kw : List (Str × Value)) :
    Env0 P w K mg base (A.under (.builtin "type.__call__" ⟨.ref C :: us, kw⟩)) outer s H := ⟨by first | exact e.frames | (simpa [Around.under, Code.envs, Code.isFrame, pushEnvs] using e.frames), e.mod, e.bs, e.bsz, e.funs, e.frf, e.hok, e.bare⟩
theorem Env0.in1 {P : Program} {w : World} {K : PySem.W.Frag} {mg : Str → Option Value} {base : Heap} {A : Around} {outer : List Env} {s : Shared} {H : Hp} (e : Env0 P w K mg base A outer s H) :
    Env0 P w K mg base A.in1 outer s H := ⟨e.frames, e.mod, e.bs, e.bsz, e.funs, e.frf, e.hok, e.bare⟩

section
variable {X : Cx} {pins : List (Addr × Obj)} {σ : St} {H : Hp} {s s' : Shared}
/-- from a body: what a callee wants -/
theorem Inv.env0 (I : Inv X pins σ H s) : Env0 X.prog X.w X.K X.mg X.base X.A X.stack s H :=
  ⟨I.ok.frames, I.ok.mod, I.bs, Nat.le_trans I.ok.bsz I.sz, I.stack, I.stkFree, I.hok, I.bare⟩
/-- behind a call -/
theorem Inv.after {Q : VK} {u : Value} (I : Inv X pins σ H s) (h : CE X.stack X.prog X.w H s Q u s') : EP X pins σ Q u s' := by
  obtain ⟨v, H', os, bare, un, hok, r, q⟩ := h
  obtain ⟨hh, g, d, t, os'⟩ := s'
  obtain rfl : os' = s.os := os
  exact ⟨v, H', I.call (h' := hh) (g' := g) (d' := d) (t' := t) (ch := []) un hok bare (fun b z => absurd z (by simp)), r, q⟩
end

/-! ### calls -/
/-- f(..): the written arguments, then the defaults dvs; E: what is wanted of an exception -/
def tCall (sp : Sp) (dvs : List V) (E : XK) (t : TA) : TE := fun σ H Q => t σ H fun vs H1 => sp (vs ++ dvs) H1 Q E
/-- o.m(..) of an instance of the class at C -/
def tMeth (C : Addr) (m : Str) (sp : Sp) (dvs : List V) (E : XK) (ta : TE) (t : TA) : TE := fun σ H Q => ta σ H fun x H1 => ∃ a dx fs, x = .ref a ∧ H1 a = some (.ins C dx fs) ∧ fs.lookup m = none ∧
  t σ H1 fun vs H2 => sp (x :: (vs ++ dvs)) H2 Q E
/-- C(..): a new instance and its dict, then __init__ -/
def tMake (C : Addr) (sp : Sp) (dvs : List V) (E : XK) (t : TA) : TE := fun σ H Q => t σ H fun vs H1 => ∀ x dx, H1 x = none → H1 dx = none → dx ≠ x →
  sp (.ref x :: (vs ++ dvs)) (upd (upd H1 dx (.own x)) x (.ins C dx [])) (fun v H2 => v = .non ∧ Q (.ref x) H2) E

/-- how the parameters are bound: us the positional arguments, kw the keywords' values by name, ds the defaults that fill up -/
def Binds (K : PySem.W.Frag) (fd : FuncData) (ps : List Str) (ds : List Value) : Prop :=
  ∀ (s : Shared) (us : List Value), K.In s.heap → (us ++ ds).length = ps.length → BindsTo s fd ⟨us, []⟩ (ps.zip (us ++ ds))
/-- every parameter is given -/
theorem Binds.all {K : PySem.W.Frag} {fd : FuncData} {ps : List Str} (h : ∀ us : List Value, us.length = ps.length → bindArgs fd ⟨us, []⟩ = pure (ps.zip us)) : Binds K fd ps [] := fun s us _ hl => by
  rw [List.append_nil] at hl ⊢
  exact .of_eq (h us hl)

/-- an exception of a callee reaches what this body wants of exceptions -/
def Passes (CX : CXT) (X : Cx) (E : XK) : Prop := ∀ (pins : List (Addr × Obj)) (σ : St) (H : Hp) (s : Shared) (e : Value) (s' : Shared), Inv X pins σ H s → CX X.stack H s E e s' → X.xe e s'

section
variable {X : Cx} {CX : CXT} {k : Nat} {f C : Addr} {fd : FuncData} {ps : List Str} {sp : Sp} {dvs : List V} {ds : List Value} {E : XK} {x m : Str} {p pos apos : Pos} {e o : Expr} {es : List Expr} {ta : TE} {t : TA}

/-- the callee runs -/
theorem run_fn {pins : List (Addr × Obj)} {σ : St} {H : Hp} {s : Shared} {Q : VK} {us : List Value} {vs : List V} (F : FnOk X.prog X.w X.K X.mg X.base CX k f fd ps sp) (hr : Room k X.A) (hb : Binds X.K fd ps ds) (hd : Vals dvs ds) (hx : Passes CX X E)
    (I : Inv X pins σ H s) (r : Vals vs us) (h : sp (vs ++ dvs) H Q E) : wpAny (model X.prog X.w) X.A (call (.ref f) us) (EP X pins σ Q) X.xe s := by
  have r2 : Vals (vs ++ dvs) (us ++ ds) := r.append hd
  have hl : (us ++ ds).length = ps.length := by rw [← r2.length]; exact F.len _ _ _ _ h
  refine wpAny_call (codeAny_mono (F.run X.A X.stack s H ⟨us, []⟩ (us ++ ds) (vs ++ dvs) Q E hr I.env0 (hb s us I.kIn hl) r2 h) fun r s' hq => ?_)
  cases r with
  | error e => exact hx pins σ H s e s' I hq
  | ok fl =>
    cases fl with
    | ret u => exact I.after hq
    | next => exact False.elim hq
    | brk => exact False.elim hq
    | cont => exact False.elim hq

theorem pe_call (F : FnOk X.prog X.w X.K X.mg X.base CX k f fd ps sp) (hr : Room k X.A) (hg : Gl X x) (hm : X.mg x = some (.ref f)) (hk : PySem.W.keepIn X.K (.ref f) = true) (hb : Binds X.K fd ps ds) (hd : Vals dvs ds) (hx : Passes CX X E)
    (ha : PA X (e :: es) t) (hdb : (x == ("__debug__" : Str)) = false := by decide) (he : starEach (e :: es) X.env = (false, eval e X.env) :: starEach es X.env := by rfl) (hpl : (backTo pos (starEach es X.env)).any (·.1) = false := by rfl) :
    PE X (.Call (.Name x p) (e :: es) [] pos) (tCall sp dvs E t) := by
  intro pins s σ H Q I h
  refine wpAny_Call_Name_kw (ld_glob I hg hm ?_ hdb)
  refine PySem.W.callWith_K (h₀ := X.base) I.ok.mod.kin hk (thn (ha pos pins s σ H _ I h) fun us s1 ⟨vs, H1, I1, r, q⟩ => ⟨I1.kIn, ?_⟩) he hpl
  exact run_fn F hr hb hd hx I1 r q
theorem pe_call0 (F : FnOk X.prog X.w X.K X.mg X.base CX k f fd ps sp) (hr : Room k X.A) (hg : Gl X x) (hm : X.mg x = some (.ref f)) (hk : PySem.W.keepIn X.K (.ref f) = true) (hb : Binds X.K fd ps ds) (hd : Vals dvs ds) (hx : Passes CX X E)
    (hdb : (x == ("__debug__" : Str)) = false := by decide) : PE X (.Call (.Name x p) [] [] pos) (tCall sp dvs E tNil) := by
  intro pins s σ H Q I h
  refine wpAny_Call_Name_kw (ld_glob I hg hm ?_ hdb)
  exact PySem.W.callWith_K0 I.kIn hk (run_fn (us := []) F hr hb hd hx I .nil h)

/-- o.m(e, ..) -/
theorem pe_meth {pl : Sem Bool} (he : PE X o ta) (c : Cls X.K C) (hm : Meth X.K C m f) (F : FnOk X.prog X.w X.K X.mg X.base CX k f fd ps sp) (hr : Room k X.A) (hb : Binds X.K fd ps ds) (hd : Vals dvs ds) (hx : Passes CX X E) (ha : PA X (e :: es) t)
    (hst : starEach (e :: es) X.env = (false, eval e X.env) :: starEach es X.env := by rfl) (hpl : (backTo pos (starEach es X.env)).any (·.1) = false := by rfl)
    (ht : eval (.Call (.Attribute o m apos) (e :: es) [] pos) X.env = (do
      let ov ← eval o X.env
      standAt apos.atName
      let (f, first) ← holding [ov] (getMethod ov m pl)
      callWith pos f first (backTo pos (starEach (e :: es) X.env)) (backToKw pos (keywordEach [] X.env))) := by rfl) :
    PE X (.Call (.Attribute o m apos) (e :: es) [] pos) (tMeth C m sp dvs E ta t) := by
  intro pins s σ H Q I h
  refine PySem.W.methodCall_KW (pl := pl) (thn (he pins s σ H _ I h) fun u s1 ⟨x, H1, I1, rx, a, dx, fs, ex, ea, l, q⟩ => ?_) ht
  subst ex
  obtain rfl : u = Value.ref a := rx
  refine getmeth_ok I1 ea c hm l ?_
  refine PySem.W.callWith_K (first := [.ref a]) (h₀ := X.base) I.ok.mod.kin hm.kp (thn (ha pos pins s1 σ H1 _ I1 q) fun us s2 ⟨vs, H2, I2, r, q2⟩ => ⟨I2.kIn, ?_⟩) hst hpl
  exact run_fn (us := .ref a :: us) (vs := .ref a :: vs) F hr hb hd hx I2 (.cons rfl r) q2
/-- o.m() -/
theorem pe_meth0 {pl : Sem Bool} (he : PE X o ta) (c : Cls X.K C) (hm : Meth X.K C m f) (F : FnOk X.prog X.w X.K X.mg X.base CX k f fd ps sp) (hr : Room k X.A) (hb : Binds X.K fd ps ds) (hd : Vals dvs ds) (hx : Passes CX X E)
    (ht : eval (.Call (.Attribute o m apos) [] [] pos) X.env = (do
      let ov ← eval o X.env
      standAt apos.atName
      let (f, first) ← holding [ov] (getMethod ov m pl)
      callWith pos f first (backTo pos (starEach [] X.env)) (backToKw pos (keywordEach [] X.env))) := by rfl) :
    PE X (.Call (.Attribute o m apos) [] [] pos) (tMeth C m sp dvs E ta tNil) := by
  intro pins s σ H Q I h
  refine PySem.W.methodCall_KW (pl := pl) (thn (he pins s σ H _ I h) fun u s1 ⟨x, H1, I1, rx, a, dx, fs, ex, ea, l, q⟩ => ?_) ht
  subst ex
  obtain rfl : u = Value.ref a := rx
  refine getmeth_ok I1 ea c hm l ?_
  exact PySem.W.callWith_K0 (first := [.ref a]) I1.kIn hm.kp (run_fn (us := [.ref a]) (vs := [.ref a]) F hr hb hd hx I1 (.cons rfl .nil) q)

/-- what a class must have to be made -/
structure Mk (K : PySem.W.Frag) (C f : Addr) : Prop where
  makes : PySem.W.makesIn K C = true
  init : PySem.W.findIn K (.ref C) "__init__" = some (some (.ref f))
  fn : PySem.W.isFn K (.ref f) = true
  kp : PySem.W.keepIn K (.ref C) = true

theorem run_make {pins : List (Addr × Obj)} {σ : St} {H : Hp} {s : Shared} {Q : VK} {us : List Value} {vs : List V} (M : Mk X.K C f) (F : FnOk X.prog X.w X.K X.mg X.base CX k f fd ps sp) (hr : Room (k + 1) X.A) (hb : Binds X.K fd ps ds) (hd : Vals dvs ds)
    (hx : Passes CX X E) (I : Inv X pins σ H s) (r : Vals vs us)
    (h : ∀ x dx, H x = none → H dx = none → dx ≠ x → sp (.ref x :: (vs ++ dvs)) (upd (upd H dx (.own x)) x (.ins C dx [])) (fun v H2 => v = .non ∧ Q (.ref x) H2) E) :
    wpAny (model X.prog X.w) X.A (call (.ref C) us) (EP X pins σ Q) X.xe s := by
  have hq := h (s.heap.objs.size + 1) s.heap.objs.size (I.hok.fresh (Nat.le_succ _)) (I.hok.fresh (Nat.le_refl _)) (Nat.ne_of_lt (Nat.lt_succ_self _))
  have I2 := Inv.made (C := C) I
  have r2 : Vals (V.ref (s.heap.objs.size + 1) :: (vs ++ dvs)) (Value.ref (s.heap.objs.size + 1) :: (us ++ ds)) := .cons rfl (r.append hd)
  have hl : (Value.ref (s.heap.objs.size + 1) :: us ++ ds).length = ps.length := by
    have e := r2.length
    rw [F.len _ _ _ _ hq] at e
    exact e.symm
  refine wpAny_call (make_map (f := f) I.kIn M.makes M.init (beq_iff_eq.mp M.fn) (codeAny_mono (F.run _ X.stack _ _ ⟨Value.ref (s.heap.objs.size + 1) :: us, []⟩ (Value.ref (s.heap.objs.size + 1) :: (us ++ ds)) _ _ E (hr.make C us [])
    (I2.env0.make C us []) (hb _ (Value.ref (s.heap.objs.size + 1) :: us) I2.kIn hl) r2 hq) fun r s' hq' => ?_))
  cases r with
  | error e => exact hx pins σ _ _ e s' I2 hq'
  | ok fl =>
    cases fl with
    | ret u =>
      obtain ⟨v, H', I3, rv, ev, q3⟩ := I2.after hq'
      subst ev
      exact ⟨rv, ⟨V.ref (s.heap.objs.size + 1), H', I3, rfl, q3⟩⟩
    | next => exact False.elim hq'
    | brk => exact False.elim hq'
    | cont => exact False.elim hq'
theorem pe_make (M : Mk X.K C f) (F : FnOk X.prog X.w X.K X.mg X.base CX k f fd ps sp) (hr : Room (k + 1) X.A) (hg : Gl X x) (hm : X.mg x = some (.ref C)) (hb : Binds X.K fd ps ds) (hd : Vals dvs ds) (hx : Passes CX X E)
    (ha : PA X (e :: es) t) (hdb : (x == ("__debug__" : Str)) = false := by decide) (he : starEach (e :: es) X.env = (false, eval e X.env) :: starEach es X.env := by rfl) (hpl : (backTo pos (starEach es X.env)).any (·.1) = false := by rfl) :
    PE X (.Call (.Name x p) (e :: es) [] pos) (tMake C sp dvs E t) := by
  intro pins s σ H Q I h
  refine wpAny_Call_Name_kw (ld_glob I hg hm ?_ hdb)
  refine PySem.W.callWith_K (h₀ := X.base) I.ok.mod.kin M.kp (thn (ha pos pins s σ H _ I h) fun us s1 ⟨vs, H1, I1, r, q⟩ => ⟨I1.kIn, ?_⟩) he hpl
  exact run_make M F hr hb hd hx I1 r q
theorem pe_make0 (M : Mk X.K C f) (F : FnOk X.prog X.w X.K X.mg X.base CX k f fd ps sp) (hr : Room (k + 1) X.A) (hg : Gl X x) (hm : X.mg x = some (.ref C)) (hb : Binds X.K fd ps ds) (hd : Vals dvs ds) (hx : Passes CX X E)
    (hdb : (x == ("__debug__" : Str)) = false := by decide) : PE X (.Call (.Name x p) [] [] pos) (tMake C sp dvs E tNil) := by
  intro pins s σ H Q I h
  refine wpAny_Call_Name_kw (ld_glob I hg hm ?_ hdb)
  exact PySem.W.callWith_K0 I.kIn M.kp (run_make (us := []) M F hr hb hd hx I .nil h)
end

/-! ### keywords -/
/-- the values of the keywords, from the left -/
def PK (X : Cx) (kws : List Keyword) (t : TA) : Prop :=
  ∀ (pos : Pos) (pins : List (Addr × Obj)) (s : Shared) (σ : St) (H : Hp) (Q : List V → Hp → Prop), Inv X pins σ H s → t σ H Q → wpAny (model X.prog X.w) X.A (evalAll ((backToKw pos (keywordEach kws X.env)).map (·.2))) (AP X pins σ Q) X.xe s
section
variable {X : Cx} {CX : CXT} {k : Nat} {f C : Addr} {fd : FuncData} {ps ks : List Str} {sp : Sp} {E : XK} {x m : Str} {p pos apos kpos : Pos} {e o : Expr} {es : List Expr} {kws : List Keyword} {te ta : TE} {t tk : TA} {nm : Option Str}
theorem pk_nil : PK X [] tNil := fun _ _ _ _ H Q I h => wpAny_evalAll_nil ⟨[], H, I, .nil, h⟩
theorem pk_cons (ha : PE X e te) (hr : PK X kws t) : PK X (⟨nm, e, kpos⟩ :: kws) (tCons te t) := by
  intro pos pins s σ H Q I h
  show wpAny _ _ (evalAll ((do let v ← eval e X.env; standAt pos; pure v) :: (backToKw pos (keywordEach kws X.env)).map (·.2))) _ _ s
  refine wpAny_evalAll_cons (wpAny_bind (thn (ha pins s σ H _ I h) fun u s1 ⟨x, H1, I1, r1, q1⟩ => wpAny_bind (wpAny_standAt (wpAny_pure ?_))))
  exact thn (hr pos pins s1 σ H1 _ I1 q1) fun us s2 ⟨xs, H2, I2, r2, q2⟩ => ⟨x :: xs, H2, I2, .cons r1 r2, q2⟩

/-- how a call with keywords binds: g puts the positional values us and the keywords' values ws (names ks) in the parameters' order, defaults among them -/
structure KBinds (K : PySem.W.Frag) (fd : FuncData) (ps ks : List Str) (g : List Value → List Value → List Value) (gV : List V → List V → List V) : Prop where
  to : ∀ (s : Shared) (us ws : List Value), K.In s.heap → (g us ws).length = ps.length → BindsTo s fd ⟨us, ks.zip ws⟩ (ps.zip (g us ws))
  rel : ∀ {vs : List V} {us : List Value} {zs : List V} {ws : List Value}, Vals vs us → Vals zs ws → Vals (gV vs zs) (g us ws)
def tCallK (sp : Sp) (gV : List V → List V → List V) (E : XK) (t tk : TA) : TE := fun σ H Q => t σ H fun vs H1 => tk σ H1 fun zs H2 => sp (gV vs zs) H2 Q E
variable {g : List Value → List Value → List Value} {gV : List V → List V → List V}
theorem run_fnk {pins : List (Addr × Obj)} {σ : St} {H : Hp} {s : Shared} {Q : VK} {us ws : List Value} {vs zs : List V} (F : FnOk X.prog X.w X.K X.mg X.base CX k f fd ps sp) (hr : Room k X.A) (hb : KBinds X.K fd ps ks g gV) (hx : Passes CX X E)
    (I : Inv X pins σ H s) (r : Vals vs us) (rz : Vals zs ws) (h : sp (gV vs zs) H Q E) : wpAny (model X.prog X.w) X.A (call (.ref f) us (ks.zip ws)) (EP X pins σ Q) X.xe s := by
  have r2 := hb.rel r rz
  have hl : (g us ws).length = ps.length := by rw [← r2.length]; exact F.len _ _ _ _ h
  refine wpAny_call (codeAny_mono (F.run X.A X.stack s H ⟨us, ks.zip ws⟩ (g us ws) (gV vs zs) Q E hr I.env0 (hb.to s us ws I.kIn hl) r2 h) fun r s' hq => ?_)
  cases r with
  | error e => exact hx pins σ H s e s' I hq
  | ok fl =>
    cases fl with
    | ret u => exact I.after hq
    | next => exact False.elim hq
    | brk => exact False.elim hq
    | cont => exact False.elim hq
/-- f(e, .., k = v, ..) -/
theorem pe_callK (F : FnOk X.prog X.w X.K X.mg X.base CX k f fd ps sp) (hr : Room k X.A) (hg : Gl X x) (hm : X.mg x = some (.ref f)) (hk : PySem.W.keepIn X.K (.ref f) = true) (hb : KBinds X.K fd ps ks g gV) (hx : Passes CX X E)
    (ha : PA X (e :: es) t) (hkw : PK X kws tk) (hall : (backToKw pos (keywordEach kws X.env)).all (·.1.isSome) = true := by rfl) (hks : (backToKw pos (keywordEach kws X.env)).filterMap (·.1) = ks := by rfl)
    (hdb : (x == ("__debug__" : Str)) = false := by decide) (he : starEach (e :: es) X.env = (false, eval e X.env) :: starEach es X.env := by rfl)
    (hpl : ((backTo pos (starEach (e :: es) X.env)).any (·.1) || (backToKw pos (keywordEach kws X.env)).any (·.1.isNone)) = false := by rfl) :
    PE X (.Call (.Name x p) (e :: es) kws pos) (tCallK sp gV E t tk) := by
  intro pins s σ H Q I h
  refine wpAny_Call_Name_kw (ld_glob I hg hm ?_ hdb)
  refine PySem.W.callWith_KW (h₀ := X.base) I.ok.mod.kin hk hall (thn (ha pos pins s σ H _ I h) fun us s1 ⟨vs, H1, I1, r, q⟩ => ?_) hpl he
  refine thn (hkw pos pins s1 σ H1 _ I1 q) fun ws s2 ⟨zs, H2, I2, rz, q2⟩ => ⟨I2.kIn, ?_⟩
  rw [hks]
  exact run_fnk F hr hb hx I2 r rz q2
end

/-! ### a def's body keeps its promise -/
/-- names: the parameters first -/
structure FnScope (N P : List Str) (sc : Scope) : Prop where
  kind : sc.kind = .function
  co : sc.isCoroutine = false
  gen : sc.isGenerator = false
  nd : N.Nodup
  pre : N.take P.length = P
  par : ∀ x ∈ P, sc.names.lookup x = some .local ∨ sc.names.lookup x = some .cell
  nofree : ∀ y ∈ sc.names, y.2 ≠ .free

theorem bindL_out {kindOf : Str → Option NameKind} {x : Str} : ∀ {binds : List (Str × Value)} {m : Str → Option Value}, (∀ v, (x, v) ∉ binds) → bindL kindOf binds m x = m x
  | [], _, _ => rfl
  | (n, v) :: r, m, h => by
    unfold bindL
    rw [bindL_out fun w hw => h w (List.mem_cons_of_mem _ hw)]
    split
    · have : x ≠ n := by rintro rfl; exact h v List.mem_cons_self
      simp [this]
    · rfl
theorem bindC_out {kindOf : Str → Option NameKind} {x : Str} : ∀ {binds : List (Str × Value)} {m : Str → Option Value}, (∀ v, (x, v) ∉ binds) → bindC kindOf binds m x = m x
  | [], _, _ => rfl
  | (n, v) :: r, m, h => by
    unfold bindC
    rw [bindC_out fun w hw => h w (List.mem_cons_of_mem _ hw)]
    split
    · rfl
    · have : x ≠ n := by rintro rfl; exact h v List.mem_cons_self
      simp [this]
theorem bindL_get {kindOf : Str → Option NameKind} {x : Str} {v : Value} : ∀ {P : List Str} {vs : List Value} {i : Nat} {m : Str → Option Value}, P.Nodup → P[i]? = some x → vs[i]? = some v → kindOf x = some .local →
    bindL kindOf (P.zip vs) m x = some v
  | [], _, _, _, _, h, _, _ => by simp at h
  | _ :: _, [], _, _, _, _, h, _ => by simp at h
  | p :: P, w :: vs, 0, m, nd, h1, h2, hk => by
    simp at h1 h2; subst h1; subst h2
    show bindL kindOf ((p, w) :: P.zip vs) m p = _
    unfold bindL
    rw [bindL_out fun v hv => (List.nodup_cons.mp nd).1 (List.of_mem_zip hv).1, if_pos hk]
    simp
  | p :: P, w :: vs, i + 1, m, nd, h1, h2, hk => by
    show bindL kindOf ((p, w) :: P.zip vs) m x = _
    unfold bindL
    exact bindL_get (i := i) (List.nodup_cons.mp nd).2 (by simpa using h1) (by simpa using h2) hk
theorem bindC_get {kindOf : Str → Option NameKind} {x : Str} {v : Value} : ∀ {P : List Str} {vs : List Value} {i : Nat} {m : Str → Option Value}, P.Nodup → P[i]? = some x → vs[i]? = some v → kindOf x ≠ some .local →
    bindC kindOf (P.zip vs) m x = some v
  | [], _, _, _, _, h, _, _ => by simp at h
  | _ :: _, [], _, _, _, _, h, _ => by simp at h
  | p :: P, w :: vs, 0, m, nd, h1, h2, hk => by
    simp at h1 h2; subst h1; subst h2
    show bindC kindOf ((p, w) :: P.zip vs) m p = _
    unfold bindC
    rw [bindC_out fun v hv => (List.nodup_cons.mp nd).1 (List.of_mem_zip hv).1, if_neg hk]
    simp
  | p :: P, w :: vs, i + 1, m, nd, h1, h2, hk => by
    show bindC kindOf ((p, w) :: P.zip vs) m x = _
    unfold bindC
    exact bindC_get (i := i) (List.nodup_cons.mp nd).2 (by simpa using h1) (by simpa using h2) hk

/-- the names' values at the entry -/
def start (N : List Str) (vs : List V) : St := vs.map some ++ List.replicate (N.length - vs.length) none

/-- the context of a def's body, at its entry; an exception leaves the frame, then lies as CX says -/
def cxOf (CX : CXT) (P : Program) (w : World) (K : PySem.W.Frag) (mg : Str → Option Value) (base : Heap) (N : List Str) (qual : Str) (scope : Scope) (f : Addr) (cd : Value) (A : Around) (outer : List Env) (s : Shared) (H : Hp) (E : XK) : Cx where
  prog := P
  w := w
  K := K
  mg := mg
  base := base
  A := A.deeper (envOfC qual scope s.heap.objs.size f cd)
  N := N
  s₀ := s
  H₀ := H
  env := envOfC qual scope s.heap.objs.size f cd
  outer := outer
  stack := envOfC qual scope s.heap.objs.size f cd :: outer
  ex := []
  calm := true
  fn := fun _ => true
  pn := []
  xe := fun e s' => wpAny (model P w) (A.deeper (envOfC qual scope s.heap.objs.size f cd)) (leaving (envOfC qual scope s.heap.objs.size f cd) e) (fun _ s'' => CX outer H s E e s'') (fun e' s'' => CX outer H s E e' s'') s'

theorem cell_has {sc : Scope} {n : Nat} {x : Str} (h : sc.names.lookup x = some .cell) : ∃ c, (cellsFrom n sc.names []).lookup x = some c := by
  have q := PySem.W.cellsFrom_some sc.names n [] (.inl h)
  exact Option.isSome_iff_exists.mp q

theorem inv_start {CX : CXT} {P : Program} {w : World} {K : PySem.W.Frag} {mg : Str → Option Value} {base : Heap} {N ps : List Str} {qual : Str} {scope : Scope} {f : Addr} {cd : Value} {A : Around} {outer : List Env} {s s1 : Shared} {H : Hp} {E : XK} {us : List Value} {vs : List V}
    (S : FnScope N ps scope) (hd : A.handled = none) (e0 : Env0 P w K mg base A outer s H) (hl : vs.length = ps.length) (r : Vals vs us)
    (x : InCallC s s.heap.objs.size (bindL (envOfC qual scope s.heap.objs.size f cd).kindOf (ps.zip us) fun _ => none) (cellsFrom (s.heap.objs.size + 1) scope.names []) (bindC (envOfC qual scope s.heap.objs.size f cd).kindOf (ps.zip us) fun _ => none) s1) :
    Inv (cxOf CX P w K mg base N qual scope f cd A outer s H E) [] (start N vs) H s1 := by
  have hpl : ps.length ≤ N.length := by have := congrArg List.length S.pre; rw [List.length_take] at this; omega
  obtain ⟨h1, tk, rfl, hk⟩ := x.done
  have noA : ∀ b : Addr, b ∉ (cxOf CX P w K mg base N qual scope f cd A outer s H E).ex := fun b z => absurd (show b ∈ ([] : List Addr) from z) (by simp)
  refine ⟨⟨e0.mod, S.kind, rfl, rfl, Nat.le_refl _, fun y z c h1 h2 => ?_, fun y hy => ?_, fun y c _ h => ?_, fun _ => hd, Around.frames_deeper e0.frames, .inr ⟨rfl, rfl⟩, fun b z => absurd z (noA b), e0.bs, e0.bsz, fun b _ _ => noA b, fun b z => absurd z (noA b), e0.funs, e0.frf⟩,
    rfl, e0.bare, Un.kept hk, ⟨_, x.toInCall.ns, fun i y v h1 h2 h3 => ?_⟩, fun y c h => ⟨_, x.cell y c h⟩, e0.hok.fresh (Nat.le_refl _), fun y c h => ?_, fun p hp => absurd (show p ∈ ([] : List (Addr × Obj)) from hp) (by simp), e0.hok.kept hk, ?_⟩
  · exact name_of_addr x.apart (PySem.mem_of_lookup h1) (PySem.mem_of_lookup h2)
  · have hy : scope.names.lookup y = some .cell ∨ scope.names.lookup y = some .free := hy
    rcases hy with hy | hy
    · exact cell_has hy
    · exact absurd rfl (S.nofree _ (PySem.mem_of_lookup hy))
  · exact Nat.le_of_lt (x.above y c (PySem.mem_of_lookup h))
  · have hi : i < vs.length := by
      unfold start at h2
      by_cases hi : i < vs.length
      · exact hi
      · rw [List.getElem?_append_right (by simpa using hi)] at h2
        rw [List.getElem?_replicate] at h2
        split at h2 <;> cases h2
    have ha : vs[i]? = some v := by
      unfold start at h2
      rw [List.getElem?_append_left (by simpa using hi), List.getElem?_map] at h2
      cases e : vs[i]? with
      | none => rw [e] at h2; cases h2
      | some a => rw [e] at h2; cases h2; rfl
    obtain ⟨u, hu, rv⟩ := r.get ha
    have hp : ps[i]? = some y := by
      rw [← S.pre, List.getElem?_take_of_lt (by omega)]; exact h1
    have ndP : ps.Nodup := by rw [← S.pre]; exact S.nd.sublist (List.take_sublist _ _)
    refine ⟨u, rv, ?_⟩
    rcases S.par y (List.mem_of_getElem? hp) with k | k
    · exact .inl ⟨k, bindL_get ndP hp hu k⟩
    · obtain ⟨c, e⟩ := cell_has (n := s.heap.objs.size + 1) k
      refine .inr ⟨.inl k, c, e, ?_⟩
      have q := x.cell y c e
      rw [bindC_get ndP hp hu (by show scope.names.lookup y ≠ _; rw [k]; decide)] at q
      exact q
  · exact e0.hok.fresh (Nat.le_of_lt (x.above y c (PySem.mem_of_lookup h)))
  · unfold start
    show _ = N.length
    rw [List.length_append, List.length_map, List.length_replicate]
    omega

/-- THE RULE: a def (or a method) of the text, by its body. The body's reading t is chosen for each entry; it is run at the parameters' values -/
theorem fn_of {CX : CXT} {P : Program} {w : World} {K : PySem.W.Frag} {mg : Str → Option Value} {base : Heap} {k : Nat} {f : Addr} {name qual : Str} {params : Arguments} {body : List Stmt} {scope : Scope} {dV kV doc pm cdv ct oc : Value} {an od : Option Addr}
    {osl : Array (Option Value)} {N ps : List Str} {sp : Sp} (lk : K.lookup f = some ⟨oc, od, .func (PySem.W.fnOf name qual params body scope dV kV doc pm an cdv ct), osl⟩) (hcd : PySem.W.codeIn K cdv qual = true) (S : FnScope N ps scope)
    (len : ∀ vs H Q E, sp vs H Q E → vs.length = ps.length)
    (hbody : ∀ (A : Around) (outer : List Env) (s : Shared) (H : Hp) (vs : List V) (Q : VK) (E : XK), Room k (A.deeper (envOfC qual scope s.heap.objs.size f cdv)) → sp vs H Q E →
      ∃ t, PSs (cxOf CX P w K mg base N qual scope f cdv A outer s H E) body t ∧ t { nx := fun _ H' => Q .non H', rt := Q } (start N vs) H) :
    FnOk P w K mg base CX (k + 1) f (PySem.W.fnOf name qual params body scope dV kV doc pm an cdv ct) ps sp := by
  refine ⟨len, fun A outer s H args us vs Q E hr e0 hb r hsp => ?_⟩
  have hl := len _ _ _ _ hsp
  have KX : K.In s.heap := e0.mod.kin.keeps fun b o e => (e0.bs b o e).1
  have lim : s.heap.NoLimit := e0.mod.nolimit.keeps fun b o e => (e0.bs b o e).1
  have hkind : ∀ y ∈ ps.zip us, scope.names.lookup y.1 = some .local ∨ (scope.names.lookup y.1 = some .cell ∧ ((cellsFrom (s.heap.objs.size + 1) scope.names []).lookup y.1).isSome = true) := fun ⟨n, v⟩ hy => by
    rcases S.par n (List.of_mem_zip hy).1 with q | q
    · exact .inl q
    · exact .inr ⟨q, PySem.W.cellsFrom_some _ _ _ (.inl q)⟩
  refine codeAny_call_function hr.depth (KX _ _ lk) rfl S.co S.gen rfl (PySem.W.codeRec_of KX hcd) (hb _ _ _ _ ?_)
  refine wpAny_newFunctionEnv_cells S.kind hkind fun env he s1 x => ?_
  subst he
  refine ⟨lim.keeps x.toInCall.keep, codeAny_func ?_⟩
  obtain ⟨t, ht, hq⟩ := hbody A outer s H vs Q E (hr.deeper _) hsp
  have I : Inv (cxOf CX P w K mg base N qual scope f cdv A outer s H E) [] (start N vs) H s1 := inv_start S hr.hd e0 hl r x
  refine wpAny_mono (ht [] s1 (start N vs) H _ I hq) (fun fl s' hs => ?_) fun e s' hs => hs
  have fin : ∀ {σ' : St} {H' : Hp} {v : V} {u : Value}, Inv (cxOf CX P w K mg base N qual scope f cdv A outer s H E) [] σ' H' s' → RelV v u → Q v H' → CE outer P w H s Q u s' :=
    fun {σ' H' v u} J rv q => ⟨v, H', J.os, J.bare, J.base, J.hok, rv, q⟩
  cases fl with
  | ret u =>
    obtain ⟨v, σ', H', J, rv, q⟩ := hs
    exact fin J rv q
  | next =>
    obtain ⟨σ', H', J, q⟩ := hs
    exact fin (v := V.non) (u := Value.none) J rfl q
  | brk =>
    obtain ⟨_, _, _, q⟩ := hs
    exact False.elim q
  | cont =>
    obtain ⟨_, _, _, q⟩ := hs
    exact False.elim q
end L2

namespace L2
open PySem PySem.Spec PyProof.Rows
section
variable {X : Cx} {x : Str} {p pos : Pos} {e : Expr} {es : List Expr} {t : TA} {id T : String} {r : List V → Hp → VK → Prop}

def tCB (r : List V → Hp → VK → Prop) (t : TA) : TE := fun σ H Q => t σ H fun vs H1 => r vs H1 Q
/-- f(e, ..), f a built-in function -/
theorem pe_callB (hc : CallR X (.builtin id) r) (hg : Gl X x) (hm : X.mg x = none) (hv : bootBuiltins x = some (.builtin id)) (ha : PA X (e :: es) t) (hn : x ≠ "__name__" := by decide) (hdb : (x == ("__debug__" : Str)) = false := by decide)
    (he : starEach (e :: es) X.env = (false, eval e X.env) :: starEach es X.env := by rfl) (hpl : (backTo pos (starEach es X.env)).any (·.1) = false := by rfl) : PE X (.Call (.Name x p) (e :: es) [] pos) (tCB r t) := by
  intro pins s σ H Q I h
  refine wpAny_Call_Name_kw (ld_blt I hg hm hv ?_ hn hdb)
  exact PyProof.Rows.callWith_builtin1 (thn (ha pos pins s σ H _ I h) fun us s1 ⟨vs, H1, I1, r1, q1⟩ => hc pins s1 σ H1 vs us Q I1 r1 q1) he hpl
/-- T(e, ..), T a built-in type -/
theorem pe_callTy (hc : CallR X (.type T) r) (hg : Gl X x) (hm : X.mg x = none) (hv : bootBuiltins x = some (.type T)) (ha : PA X (e :: es) t) (hn : x ≠ "__name__" := by decide) (hdb : (x == ("__debug__" : Str)) = false := by decide)
    (he : starEach (e :: es) X.env = (false, eval e X.env) :: starEach es X.env := by rfl) (hpl : (backTo pos (starEach es X.env)).any (·.1) = false := by rfl) : PE X (.Call (.Name x p) (e :: es) [] pos) (tCB r t) := by
  intro pins s σ H Q I h
  refine wpAny_Call_Name_kw (ld_blt I hg hm hv ?_ hn hdb)
  exact PyProof.Rows.callWith_type1 (thn (ha pos pins s σ H _ I h) fun us s1 ⟨vs, H1, I1, r1, q1⟩ => hc pins s1 σ H1 vs us Q I1 r1 q1) he hpl
/-- T() -/
theorem pe_callTy0 (hc : CallR X (.type T) r) (hg : Gl X x) (hm : X.mg x = none) (hv : bootBuiltins x = some (.type T)) (hn : x ≠ "__name__" := by decide) (hdb : (x == ("__debug__" : Str)) = false := by decide) :
    PE X (.Call (.Name x p) [] [] pos) (tCB r tNil) := by
  intro pins s σ H Q I h
  refine wpAny_Call_Name_kw (ld_blt I hg hm hv ?_ hn hdb)
  exact PyProof.Rows.callWith_type0 (hc pins s σ H [] [] Q I .nil h)
end
end L2

namespace HT
open PySem PyProof.Rows

/-- t < u of tuples of ints -/
def lexLt : List Int → List Int → Bool
  | [], [] => false
  | [], _ :: _ => true
  | _ :: _, [] => false
  | x :: xs, y :: ys => if x = y then lexLt xs ys else decide (x < y)
theorem lexLt_cons (x y : Int) (xs ys : List Int) : lexLt (x :: xs) (y :: ys) = if x = y then lexLt xs ys else decide (x < y) := rfl
theorem lexLt_nil_nil : lexLt [] [] = false := rfl
theorem lexLt_nil_cons (y : Int) (ys : List Int) : lexLt [] (y :: ys) = true := rfl
theorem lexLt_cons_nil (x : Int) (xs : List Int) : lexLt (x :: xs) [] = false := rfl

theorem eqAt_int (A : Around) (s : Shared) (a : Int) (t : Tok) (c : Int) (u : Tok) : ∃ e, SeqAt.EqAt A s (.int a t) (.int c u) e ∧ (e = true ↔ a = c) :=
  ⟨(a == c), SeqAt.EqAt.int_int a t c u, by simp⟩
theorem rcLt_int (A : Around) (s : Shared) (a : Int) (t : Tok) (c : Int) (u : Tok) (prog : Program) (w : World) (E : Value → Shared → Prop) (Q : Value → Shared → Prop) (h : Q (.bool (decide (a < c))) s) :
    wpAny (model prog w) A (richCompare .Lt (.int a t) (.int c u)) Q E s :=
  (PyProof.Rows.lt_int h : wpAny (model prog w) A (compareOp .Lt (.int a t) (.int c u)) Q E s)

section
open PySem.SeqAt
open PySem.AutoSeq1 (wpAny_loadPart')
open PySem.MeetsSeq PySem.MeetsSeq2 PySem.MeetsSeq3

theorem tuple_lt_ints (l b : Addr) (items items2 : Array Value) (n n2 : Nat) (dd dd2 : Option Addr) (sl sl2 : Array (Option Value)) (ns ms : List Int) (hi : IntsAre items.toList ns) (hj : IntsAre items2.toList ms) :
    Meets (Builtin.«tuple.__lt__» ⟨[.ref l, .ref b], []⟩)
      (fun _ R s => s.heap.get? l = some { cls := .type "tuple", dict := dd, data := .seq items n, slots := sl } ∧ s.heap.get? b = some { cls := .type "tuple", dict := dd2, data := .seq items2 n2, slots := sl2 } ∧
        R (.ok (.ret (.bool (lexLt ns ms)))) s) :=
  .of_wp fun prog w A R s h => by
    obtain ⟨hp, g, d, tk, os⟩ := s; obtain ⟨hl, hb, h⟩ := h
    have f2 := AutoSeq1.sub_tuple_tuple
    have z1 : items.size = ns.length := by rw [← hi.length]; simp
    have z2 : items2.size = ms.length := by rw [← hj.length]; simp
    wp_walk using wpAny_loadPart' hl, wpAny_loadPart' hb, wpAny_forIn_list _ (fun rest b s' => b.1 = none ∧ s' = ⟨hp, g, d, tk, os⟩ ∧ ∃ (vs ws : List Value) (ns' ms' : List Int), rest = vs.zip ws ∧
      IntsAre vs ns' ∧ IntsAre ws ms' ∧ ns'.length + items2.size = ms'.length + items.size ∧ R (.ok (.ret (.bool (lexLt ns' ms')))) ⟨hp, g, d, tk, os⟩) _
    case turn =>
      rintro ⟨y, x⟩ rest b s' ⟨hb', rfl, vs, ws, ns', ms', hz, hvi, hwi, hlen, hR⟩
      cases hvi with
      | nil => rw [List.zip_nil_left] at hz; cases hz
      | cons a t hvi' =>
        cases hwi with
        | nil => rw [List.zip_nil_right] at hz; cases hz
        | cons c u hwi' =>
          rw [List.zip_cons_cons] at hz
          injection hz with hyx hrest
          injection hyx with hy hx
          subst hy hx
          rw [lexLt_cons] at hR
          simp only [List.length_cons] at hlen
          obtain ⟨e, he, hiff⟩ := eqAt_int A.in1 ⟨hp, g, d, tk, os⟩ a t c u
          refine wpAny_bind (he prog w _ _ ?_)
          cases e with
          | true =>
            rw [if_pos (hiff.mp rfl)] at hR
            wp_walk
            exact ⟨rfl, rfl, _, _, _, _, hrest, hvi', hwi', by omega, hR⟩
          | false =>
            rw [if_neg (fun q => absurd (hiff.mpr q) Bool.false_ne_true)] at hR
            have hri := rcLt_int A.in1 ⟨hp, g, d, tk, os⟩ a t c u prog w
            wp_walk using hri
            exact ⟨_, rfl, by simpa using hR⟩
    case fin =>
      rintro ⟨b1, b2⟩ s' ⟨hb', rfl, vs, ws, ns', ms', hz, hvi, hwi, hlen, hR⟩
      simp only at hb'
      subst hb'
      have hv : lexLt ns' ms' = decide (items.size < items2.size) := by
        cases hvi with
        | nil =>
          cases hwi with
          | nil =>
            simp only [List.length_nil] at hlen
            rw [lexLt_nil_nil]
            exact (decide_eq_false (by omega)).symm
          | cons c u hw =>
            simp only [List.length_nil, List.length_cons] at hlen
            rw [lexLt_nil_cons]
            exact (decide_eq_true (by omega)).symm
        | cons a t hv =>
          cases hwi with
          | nil =>
            simp only [List.length_nil, List.length_cons] at hlen
            rw [lexLt_cons_nil]
            exact (decide_eq_false (by omega)).symm
          | cons c u hw =>
            rw [List.zip_cons_cons] at hz
            cases hz
      rw [hv] at hR
      wp_walk
      exact ⟨_, rfl, by simpa [Builtin.Tuple.tupleCompareSizes] using hR⟩
    case h =>
      exact ⟨rfl, rfl, items.toList, items2.toList, ns, ms, rfl, hi, hj, by omega, h⟩
end

section
variable {prog : Program} {w : World} {A : Around} {E : Value → Shared → Prop} {s : Shared}

theorem lt_tupInts {l b : Addr} {items items2 : Array Value} {ns ms : List Int} {Q : Value → Shared → Prop} (hl : IsTup s.heap l items) (hb : IsTup s.heap b items2) (hi : IntsAre items.toList ns) (hj : IntsAre items2.toList ms)
    (hu : A.units < cLine) (h : Q (.bool (lexLt ns ms)) s) : wpAny (model prog w) A (compareOp .Lt (.ref l) (.ref b)) Q E s := by
  obtain ⟨⟨cls, dd, data, sl⟩, ho, hc, n, hd⟩ := id hl
  obtain ⟨⟨cls2, dd2, data2, sl2⟩, ho2, hc2, n2, hd2⟩ := id hb
  simp only at hc hd hc2 hd2
  subst hc hd hc2 hd2
  exact richCompare_meets_room (op := .Lt) ⟨_, ho, rfl⟩ ⟨_, ho2, rfl⟩ PySem.F.slot_tuple_lt PySem.F.entry_tuple_lt (PySem.F.args_tuple_lt_2 _ _) (tuple_lt_ints l b items items2 n n2 dd dd2 sl sl2 ns ms hi hj)
    ⟨ho, ho2, show Value.bool (lexLt ns ms) ≠ Value.notImplemented ∧ Q (.bool (lexLt ns ms)) s from ⟨(fun x => nomatch x), h⟩⟩ hu

/-- t + u, t not empty -/
theorem cat_tup {t b : Addr} {vs ws : List Value} {Q : Value → Shared → Prop} (ht : IsTup s.heap t vs.toArray) (hb : IsTup s.heap b ws.toArray) (hv : vs ≠ [])
    (h1 : ws = [] → Q (.ref t) s) (h2 : ws ≠ [] → Q (.ref s.heap.objs.size) { s with heap := s.heap.push { cls := .type "tuple", data := .seq (vs ++ ws).toArray } })
    (hsz : vs.length + ws.length ≤ sizeLine) : wpAny (model prog w) A (binaryOp .Add (.ref t) (.ref b)) Q E s := by
  obtain ⟨⟨cls, dd, data, sl⟩, ho, hc, n, hd⟩ := id ht
  obtain ⟨⟨cls2, dd2, data2, sl2⟩, ho2, hc2, n2, hd2⟩ := id hb
  simp only at hc hd hc2 hd2
  subst hc hd hc2 hd2
  have e : vs.toArray ++ ws.toArray = (vs ++ ws).toArray := by simp
  by_cases hw : ws = []
  · exact concat_meets ⟨_, ho, rfl⟩ ⟨_, ho2, rfl⟩ noFill_tuple_add seq_tuple_add PySem.F.slot_tuple_add PySem.F.entry_tuple_add (PySem.F.args_tuple_add_2 _ _)
      (tuple_addW1 t b vs.toArray ws.toArray n n2 dd dd2 sl sl2 (by simpa using hv) (by simp [hw])) ⟨ho, ho2, h1 hw⟩
  · refine concat_meets ⟨_, ho, rfl⟩ ⟨_, ho2, rfl⟩ noFill_tuple_add seq_tuple_add PySem.F.slot_tuple_add PySem.F.entry_tuple_add (PySem.F.args_tuple_add_2 _ _)
      (tuple_addW2 t b vs.toArray ws.toArray n n2 dd dd2 sl sl2 (by simpa using hv) (by simpa using hw) (by rw [List.size_toArray, List.size_toArray]; exact hsz)) ⟨ho, ho2, ?_⟩
    rw [e]
    exact h2 hw

/-! ### t[a:b], not the whole -/
/-- a slice's bound as a place among n (d where it is left out) -/
def sIx (n d : Nat) : Option Int → Nat
  | none => d
  | some v => if v < 0 then (v + (n : Int)).toNat else min v.toNat n
theorem sIx_none (n d : Nat) : sIx n d none = d := rfl
theorem sIx_nat (n d k : Nat) : sIx n d (some (k : Int)) = min k n := by
  show (if (k : Int) < 0 then ((k : Int) + (n : Int)).toNat else min (k : Int).toNat n) = min k n
  rw [if_neg (by omega), Int.toNat_natCast]
theorem sIx_le (n d : Nat) (hd : d ≤ n) (o : Option Int) : sIx n d o ≤ n := by
  cases o with
  | none => exact hd
  | some v =>
    show (if v < 0 then (v + (n : Int)).toNat else min v.toNat n) ≤ n
    by_cases hv : v < 0
    · rw [if_pos hv]; omega
    · rw [if_neg hv]; exact Nat.min_le_right _ _
theorem clip_eq (v : Int) (n d : Nat) : (if v < 0 then max (v + (n : Int)) 0 else min v (n : Int)) = ((sIx n d (some v) : Nat) : Int) := by
  show (if v < 0 then max (v + (n : Int)) 0 else min v (n : Int)) = (((if v < 0 then (v + (n : Int)).toNat else min v.toNat n) : Nat) : Int)
  by_cases hv : v < 0
  · simp only [if_pos hv]; omega
  · simp only [if_neg hv]; omega
theorem adjust_gen (lo hi : Option Int) (n : Nat) : Builtin.Slice.sliceAdjust lo hi 1 (n : Int) = (((sIx n 0 lo : Nat) : Int), ((sIx n n hi : Nat) : Int)) := by
  have h1 : ¬ ((1 : Int) < 0) := by omega
  unfold Builtin.Slice.sliceAdjust
  simp only [h1, if_false]
  refine Prod.ext ?_ ?_
  · cases lo with
    | none => rfl
    | some v => exact clip_eq v n 0
  · cases hi with
    | none => rfl
    | some v => exact clip_eq v n n
theorem places_gen (i j : Nat) : Builtin.Slice.slicePlaces (i : Int) (j : Int) 1 = j - i := by
  unfold Builtin.Slice.slicePlaces
  have h1 : (1 : Int) > 0 := by omega
  simp only [h1, if_true, Int.ediv_one]
  split <;> omega
theorem slicePart_ {v : Value} {o : Option Int} {Q : Option Int → Shared → Prop} (p : IsPart v o) (h : Q o s) : wpAny (model prog w) A (Builtin.Slice.slicePartIndex v) Q E s := by
  cases p with
  | none => exact slicePart_none h
  | int i t => exact slicePart_int h
theorem sliceApplied_gen {sl : Addr} {vl vu : Value} {lo hi : Option Int} {n : Nat} {Q : Int × Int × Nat → Shared → Prop} (hs : s.heap.IsSliceOf sl vl vu .none) (pl : IsPart vl lo) (pu : IsPart vu hi)
    (h : Q (((sIx n 0 lo : Nat) : Int), 1, sIx n n hi - sIx n 0 lo) s) : wpAny (model prog w) A (Builtin.Slice.sliceApplied (.ref sl) (pure (n : Int))) Q E s := by
  obtain ⟨os, hos, hcs, hds⟩ := id hs
  unfold Builtin.Slice.sliceApplied Builtin.Slice.sliceFields
  refine wpAny_bind (wpAny_bind (wpAny_field hos hds (x := vl) rfl (wpAny_bind (wpAny_field hos hds (x := vu) rfl (wpAny_bind (wpAny_field hos hds (x := .none) rfl (wpAny_pure ?_)))))))
  refine wpAny_bind (slicePart_none ?_)
  show wpAny _ _ (if ((1 : Int) == 0) = true then _ else _) _ _ s
  rw [if_neg (by decide)]
  refine wpAny_bind (slicePart_ pl (wpAny_bind (slicePart_ pu (wpAny_bind (wpAny_pure ?_)))))
  show wpAny _ _ (match Builtin.Slice.sliceAdjust lo hi 1 (n : Int) with | (lo, hi) => pure (lo, (1 : Int), Builtin.Slice.slicePlaces lo hi 1)) _ _ s
  rw [adjust_gen lo hi n]
  show wpAny _ _ (pure (((sIx n 0 lo : Nat) : Int), (1 : Int), Builtin.Slice.slicePlaces ((sIx n 0 lo : Nat) : Int) ((sIx n n hi : Nat) : Int) 1)) _ _ s
  rw [places_gen]
  exact wpAny_pure h
theorem pick_gen (xs : Array Value) (i k : Nat) : ((List.range k).filterMap fun (m : Nat) => xs[((i : Int) + (m : Int) * 1).toNat]?).toArray = ((xs.toList.drop i).take k).toArray := by
  have e : (fun (m : Nat) => xs[((i : Int) + (m : Int) * 1).toNat]?) = fun m => xs[i + m]? := by
    funext m
    have : ((i : Int) + (m : Int) * 1).toNat = i + m := by omega
    rw [this]
  rw [e]
  have := pick_run xs i k
  rw [List.filterMap_map] at this
  have e2 : ((fun x => xs[x]?) ∘ fun x => i + x) = fun m => xs[i + m]? := rfl
  rw [e2] at this
  rw [this]

theorem getItem_tuple_cut {t sl : Addr} {items : Array Value} {vl vu : Value} {lo hi : Option Int} {Q : Value → Shared → Prop} (ht : IsTup s.heap t items) (hs : s.heap.IsSliceOf sl vl vu .none) (pl : IsPart vl lo) (pu : IsPart vu hi)
    (hw : ¬ (sIx items.size 0 lo = 0 ∧ sIx items.size items.size hi = items.size))
    (h : Q (.ref s.heap.objs.size) { s with heap := s.heap.push { cls := .type "tuple", data := .seq ((items.toList.drop (sIx items.size 0 lo)).take (sIx items.size items.size hi - sIx items.size 0 lo)).toArray } })
    (hsz : items.size ≤ sizeLine) : wpAny (model prog w) A (getItem (.ref t) (.ref sl)) Q E s := by
  have htake : sizeOk (.seq ((items.toList.drop (sIx items.size 0 lo)).take (sIx items.size items.size hi - sIx items.size 0 lo)).toArray) := by
    show ((items.toList.drop (sIx items.size 0 lo)).take (sIx items.size items.size hi - sIx items.size 0 lo)).toArray.size ≤ sizeLine
    rw [List.size_toArray, List.length_take, List.length_drop, Array.length_toList]
    omega
  have hj : sIx items.size items.size hi ≤ items.size := sIx_le _ _ (Nat.le_refl _) hi
  obtain ⟨os, hos, hcs, hds⟩ := id hs
  have hTs : s.TypeIs (.ref sl) "slice" := ⟨os, hos, hcs⟩
  unfold getItem
  try with_reducible refine wpAny_holding ?_
  first | refine wpAny_bind (wpAny_pure ?_) | skip
  refine wpAny_bind (wpAny_sequenceKey ht.typeIs (by decide) ?_)
  refine wpAny_bind (wpAny_callSpecial?_slot (name := Str.ofString "__getitem__") ht.typeIs PyProof.Rows.slot_tuple_getitem
    (wpAny_call_entry PyProof.Rows.slot_tuple_getitem ht.typeIs entry_tuple_getitem ?_ (args_tuple_getitem _ _)))
  show wpAny _ _ (Builtin.Tuple.tupleItemsOf (.ref t) >>= _) _ _ s
  refine wpAny_bind (tupleItemsOf_ ht ?_)
  refine wpAny_bind (wpAny_typeOf hTs ?_)
  rw [if_pos (by decide)]
  refine wpAny_bind (sliceApplied_gen hs pl pu ?_)
  have hno : ¬ ((((sIx items.size 0 lo : Nat) : Int) == 0 && (1 : Int) == 1 && (sIx items.size items.size hi - sIx items.size 0 lo) == items.size) = true) := by
    intro q
    rw [Bool.and_eq_true, Bool.and_eq_true] at q
    have q1 : ((sIx items.size 0 lo : Nat) : Int) = 0 := eq_of_beq q.1.1
    have q2 : sIx items.size items.size hi - sIx items.size 0 lo = items.size := eq_of_beq q.2
    exact hw ⟨by omega, by omega⟩
  show wpAny _ _ (if (((sIx items.size 0 lo : Nat) : Int) == 0 && (1 : Int) == 1 && (sIx items.size items.size hi - sIx items.size 0 lo) == items.size) = true then _ else _) _ _ s
  rw [if_neg hno, pick_gen]
  first
    | exact wpAny_bind (m := Builtin.Tuple.tupleExact _) (wpAny_newObj_type (wpAny_pure ⟨_, rfl, wpAny_pure h⟩) htake)
    | exact wpAny_bind (m := Builtin.Tuple.tupleExact _) (wpAny_newObj_type (wpAny_bind (wpAny_pure (wpAny_pure ⟨_, rfl, wpAny_pure h⟩))) htake)
    | exact wpAny_bind (wpAny_bind (m := Builtin.Tuple.tupleExact _) (wpAny_newObj_type (wpAny_pure (wpAny_pure ⟨_, rfl, wpAny_pure h⟩)) htake))
    | exact wpAny_bind (wpAny_bind (m := Builtin.Tuple.tupleExact _) (wpAny_newObj_type (wpAny_pure ⟨_, rfl, wpAny_pure h⟩) htake))
end
end HT

namespace L2
open PySem PySem.Spec PyProof.Rows

/-! ### the parts of a slice -/
abbrev TO := St → Hp → (Option Int → Hp → Prop) → Prop
/-- a slice's part (left out, or an int) -/
def PO (X : Cx) (e : Option Expr) (t : TO) : Prop :=
  ∀ (pins : List (Addr × Obj)) (s : Shared) (σ : St) (H : Hp) (Q : Option Int → Hp → Prop), Inv X pins σ H s → t σ H Q →
    wpAny (model X.prog X.w) X.A (evalPart e X.env) (fun u s' => ∃ o H', Inv X pins σ H' s' ∧ IsPart u o ∧ Q o H') X.xe s
def tNoPart : TO := fun _ H Q => Q none H
def tPart (t : TE) : TO := fun σ H Q => t σ H fun x H1 => ∃ i, x = .int i ∧ Q (some i) H1

theorem intsAre_of {ns : List Int} : ∀ {us : List Value}, Vals (ns.map V.int) us → IntsAre us ns := by
  induction ns with
  | nil => intro us r; rw [List.map_nil] at r; cases r; exact .nil
  | cons n ns ih =>
    intro us r
    rw [List.map_cons] at r
    cases r with
    | cons r1 r2 =>
      obtain ⟨t, e⟩ := r1
      subst e
      exact .cons n t (ih r2)

section
variable {X : Cx} {e : Expr} {te : TE} {lo hi : Option Expr} {tl th : TO} {pos p2 : Pos}

theorem po_none : PO X none tNoPart := by
  intro pins s σ H Q I h
  rw [evalPart_none]
  exact wpAny_pure ⟨none, H, I, .none, h⟩
theorem po_some (h : PE X e te) : PO X (some e) (tPart te) := by
  intro pins s σ H Q I hw
  rw [evalPart_some]
  refine thn (h pins s σ H _ I hw) fun u s1 ⟨x, H1, I1, r1, q1⟩ => ?_
  obtain ⟨i, rfl, q⟩ := q1
  obtain ⟨t, rfl⟩ := r1
  exact ⟨some i, H1, I1, .int i t, q⟩

/-- what a slice of a value is, by values: the slice object stands at sl -/
def SlR (X : Cx) (r : V → Option Int → Option Int → Hp → VK → Prop) : Prop :=
  ∀ (pins : List (Addr × Obj)) (s : Shared) (σ : St) (H : Hp) (x : V) (v vl vu : Value) (lo hi : Option Int) (sl : Addr) (Q : VK), Inv X pins σ H s → RelV x v → s.heap.IsSliceOf sl vl vu .none → IsPart vl lo → IsPart vu hi → r x lo hi H Q →
    ∃ T id, typeLookup (.type T) "__getitem__" = pure (some (.builtin id)) ∧ s.TypeIs v T ∧ wpAny (model X.prog X.w) X.A (getItem v (.ref sl)) (EP X pins σ Q) X.xe s
theorem SlR.or {r r' : V → Option Int → Option Int → Hp → VK → Prop} (h : SlR X r) (h' : SlR X r') : SlR X (fun x lo hi H Q => r x lo hi H Q ∨ r' x lo hi H Q) := by
  intro pins s σ H x v vl vu lo hi sl Q I rx hs pl pu q
  rcases q with q | q
  · exact h pins s σ H x v vl vu lo hi sl Q I rx hs pl pu q
  · exact h' pins s σ H x v vl vu lo hi sl Q I rx hs pl pu q
def tSl (r : V → Option Int → Option Int → Hp → VK → Prop) (te : TE) (tl th : TO) : TE := fun σ H Q => te σ H fun x H1 => tl σ H1 fun l H2 => th σ H2 fun u H3 => r x l u H3 Q
/-- a[lo:hi], any a -/
theorem pe_slice {r : V → Option Int → Option Int → Hp → VK → Prop} (hr : SlR X r) (he : PE X e te) (hl : PO X lo tl) (hu : PO X hi th) : PE X (.Subscript e (.Slice lo hi none p2) pos) (tSl r te tl th) := by
  intro pins s σ H Q I h
  refine Subscript_ (thn (he pins s σ H _ I h) fun v s1 ⟨x, H1, I1, r1, q1⟩ => ?_)
  refine wpAny_Slice (thn (hl pins s1 σ H1 _ I1 q1) fun vl s2 ⟨l, H2, I2, pl, q2⟩ => thn (hu pins s2 σ H2 _ I2 q2) fun vu s3 ⟨u, H3, I3, pu, q3⟩ => ?_)
  rw [evalPart_none]
  refine wpAny_pure ?_
  have I4 : Inv X pins σ H3 { s3 with heap := s3.heap.push { cls := .type "slice", data := .fields #[vl, vu, .none] } } := I3.kept (t' := s3.toks) fun b ob q => Heap.get?_push_of_some _ q
  obtain ⟨T, id, hT, ht, hg⟩ := hr pins { s3 with heap := s3.heap.push { cls := .type "slice", data := .fields #[vl, vu, .none] } } σ H3 x v vl vu l u s3.heap.objs.size Q I4 r1 (Heap.IsSliceOf.new ..) pl pu q3
  show wpAny (model X.prog X.w) X.A (subscriptTail e (.Slice lo hi none p2) v (.ref s3.heap.objs.size)) (EP X pins σ Q) X.xe { s3 with heap := s3.heap.push { cls := .type "slice", data := .fields #[vl, vu, .none] } }
  exact tail_any (ops := [.ref s3.heap.objs.size, v]) ht hT hg (by with_unfolding_all rfl)

/-- the items of xs[lo:hi] -/
def cutV (xs : List V) (lo hi : Option Int) : List V := (xs.drop (HT.sIx xs.length 0 lo)).take (HT.sIx xs.length xs.length hi - HT.sIx xs.length 0 lo)
theorem cutV_length (xs : List V) (lo hi : Option Int) : (cutV xs lo hi).length ≤ xs.length := by
  unfold cutV
  rw [List.length_take, List.length_drop]
  omega
/-- t[lo:hi], not the whole of it (the whole would be t itself) -/
def rSlT (K : PySem.W.Frag) : V → Option Int → Option Int → Hp → VK → Prop := fun x lo hi H Q => ∃ a xs, x = .ref a ∧ SqT K H a xs ∧
  ¬ (HT.sIx xs.length 0 lo = 0 ∧ HT.sIx xs.length xs.length hi = xs.length) ∧ ∀ p, H p = none → Q (.ref p) (upd H p (.tup (cutV xs lo hi)))
theorem sl_tup : SlR X (rSlT X.K) := by
  intro pins s σ H x v vl vu lo hi sl Q I rx hs pl pu h
  obtain ⟨a, xs, rfl, hx, hw, q⟩ := h
  cases rx
  obtain ⟨its, r, ht, hz⟩ := I.tuple hx
  have hlen : its.toArray.size = xs.length := by rw [List.size_toArray]; exact r.length.symm
  refine ⟨"tuple", _, PyProof.Rows.slot_tuple_getitem.lookup, ht.typeIs, ?_⟩
  refine HT.getItem_tuple_cut ht hs pl pu (by rw [hlen]; exact hw) ?_ (by rw [hlen]; exact hz)
  rw [hlen]
  refine ⟨.ref s.heap.objs.size, _, I.laid (t' := s.toks) (o := .tup (cutV xs lo hi)) (fun b ob q => Heap.get?_push_of_some _ q) (Nat.le_refl _) ?_, rfl, q _ (I.hok.fresh (Nat.le_refl _))⟩
  exact ⟨Nat.le_trans (cutV_length xs lo hi) hz, _, (r.drop (HT.sIx xs.length 0 lo)).take (HT.sIx xs.length xs.length hi - HT.sIx xs.length 0 lo), IsTup.new _ _⟩

/-! ### t < u, t + u -/
def rLtT (K : PySem.W.Frag) : R2 := fun x y H Q => ∃ a b ns ms, x = .ref a ∧ y = .ref b ∧ SqT K H a (ns.map V.int) ∧ SqT K H b (ms.map V.int) ∧ Q (.bl (HT.lexLt ns ms)) H
theorem op_ltT (hu : X.A.units < cLine) : OpR X (compareOp .Lt) (rLtT X.K) := by
  intro pins s σ H x y v u Q I rx ry h
  obtain ⟨a, b, ns, ms, rfl, rfl, ha, hb, q⟩ := h
  cases rx
  cases ry
  obtain ⟨its, r1, p1, _⟩ := I.tuple ha
  obtain ⟨its2, r2, p2, _⟩ := I.tuple hb
  have i1 : IntsAre its.toArray.toList ns := intsAre_of r1
  have i2 : IntsAre its2.toArray.toList ms := intsAre_of r2
  exact HT.lt_tupInts p1 p2 i1 i2 hu ⟨.bl (HT.lexLt ns ms), H, I, rfl, q⟩
/-- t + u, t not empty: u empty gives t itself -/
def rCatT (K : PySem.W.Frag) : R2 := fun x y H Q => ∃ a b xs ys, x = .ref a ∧ y = .ref b ∧ SqT K H a xs ∧ SqT K H b ys ∧ xs ≠ [] ∧ xs.length + ys.length ≤ sizeLine ∧
  (ys = [] → Q (.ref a) H) ∧ (ys ≠ [] → ∀ p, H p = none → Q (.ref p) (upd H p (.tup (xs ++ ys))))
theorem Vals.nil_iff {xs : List V} {us : List Value} (r : Vals xs us) : us = [] ↔ xs = [] := by
  cases r with
  | nil => simp
  | cons _ _ => simp
theorem op_catT : OpR X (binaryOp .Add) (rCatT X.K) := by
  intro pins s σ H x y v u Q I rx ry h
  obtain ⟨a, b, xs, ys, rfl, rfl, ha, hb, hx, hz, q1, q2⟩ := h
  cases rx
  cases ry
  obtain ⟨its, r1, p1, _⟩ := I.tuple ha
  obtain ⟨its2, r2, p2, _⟩ := I.tuple hb
  refine HT.cat_tup p1 p2 (fun z => hx (r1.nil_iff.mp z)) (fun z => ⟨.ref a, H, I, rfl, q1 (r2.nil_iff.mp z)⟩) (fun z => ?_) (by rw [← r1.length, ← r2.length]; exact hz)
  refine ⟨.ref s.heap.objs.size, _, I.laid (t' := s.toks) (o := .tup (xs ++ ys)) (fun b ob q => Heap.get?_push_of_some _ q) (Nat.le_refl _) ?_, rfl, q2 (fun w => z (r2.nil_iff.mpr w)) _ (I.hok.fresh (Nat.le_refl _))⟩
  exact ⟨by rw [List.length_append]; exact hz, _, r1.append r2, IsTup.new _ _⟩
/-- tuple(t) -/
theorem call_tupleT : CallR X (.type "tuple") (fun xs H Q => ∃ a ys, xs = [.ref a] ∧ SqT X.K H a ys ∧ Q (.ref a) H) := by
  intro pins s σ H xs us Q I r h
  obtain ⟨a, ys, rfl, ha, q⟩ := h
  obtain ⟨u, rfl, ru⟩ := vals1 r
  cases ru
  obtain ⟨its, _, p1, _⟩ := I.tuple ha
  exact call_tuple_same (items := its.toArray) p1 ⟨.ref a, H, I, rfl, q⟩
end
end L2

namespace L2
open PySem PySem.Spec PyProof.Rows

/-! ### places -/
/-- the place that an index of any sign means -/
def ixN (n : Nat) (i : Int) : Option Nat := if 0 ≤ i then (if i < n then some i.toNat else none) else if -(n : Int) ≤ i then some (i + n).toNat else none
def atI {α : Type} (xs : List α) (i : Int) : Option α := (ixN xs.length i).bind fun j => xs[j]?
theorem ixN_seq {n : Nat} {i : Int} {j : Nat} (h : ixN n i = some j) : seqIndex? i n = some j ∧ j < n ∧ -(n : Int) ≤ i ∧ i < n := by
  unfold ixN at h
  by_cases h0 : 0 ≤ i
  · rw [if_pos h0] at h
    by_cases h1 : i < n
    · rw [if_pos h1] at h
      have e : i.toNat = j := Option.some.inj h
      exact ⟨by rw [seqIndex_of h0 h1, e], by omega, by omega, h1⟩
    · rw [if_neg h1] at h; cases h
  · rw [if_neg h0] at h
    by_cases h1 : -(n : Int) ≤ i
    · rw [if_pos h1] at h
      have e : (i + n).toNat = j := Option.some.inj h
      exact ⟨by rw [seqIndex_neg (by omega) h1, e], by omega, h1, by omega⟩
    · rw [if_neg h1] at h; cases h
theorem atI_get {α : Type} {xs : List α} {i : Int} {v : α} (h : atI xs i = some v) : ∃ j, seqIndex? i xs.length = some j ∧ xs[j]? = some v ∧ j < xs.length ∧ -(xs.length : Int) ≤ i ∧ i < xs.length := by
  unfold atI at h
  cases e : ixN xs.length i with
  | none => rw [e] at h; cases h
  | some j =>
    rw [e] at h
    obtain ⟨h1, h2, h3, h4⟩ := ixN_seq e
    exact ⟨j, h1, h, h2, h3, h4⟩
theorem atI_nat {α : Type} {xs : List α} {j : Nat} {v : α} (h : xs[j]? = some v) : atI xs (j : Int) = some v := by
  have hj : j < xs.length := (List.getElem?_eq_some_iff.mp h).1
  have e : ixN xs.length (j : Int) = some j := by
    unfold ixN
    rw [if_pos (by omega), if_pos (by omega)]; simp
  unfold atI; rw [e]; exact h
theorem atI_last {α : Type} (xs : List α) (v : α) : atI (xs ++ [v]) (-1) = some v := by
  have hl : (xs ++ [v]).length = xs.length + 1 := by simp
  have e : ixN (xs ++ [v]).length (-1) = some xs.length := by
    unfold ixN
    rw [hl, if_neg (by decide), if_pos (by omega)]
    congr 1
    omega
  unfold atI
  rw [e]
  show (xs ++ [v])[xs.length]? = some v
  simp

/-! ### what may be subscripted -/
/-- what stands as an index of a plain subscript -/
def PlainIx (b : Expr) : Prop := ∀ o i, subscripted b false o i = operate [o, i] (getItem o i)
/-- a subscript by values -/
def IxR (X : Cx) (r : R2) : Prop :=
  ∀ (value slice : Expr) (pins : List (Addr × Obj)) (s : Shared) (σ : St) (H : Hp) (x y : V) (v u : Value) (Q : VK), Inv X pins σ H s → RelV x v → RelV y u → r x y H Q →
    subscripted slice false v u = operate [v, u] (getItem v u) → wpAny (model X.prog X.w) X.A (subscriptTail value slice v u) (EP X pins σ Q) X.xe s
/-- a call of a builtin's method by values: the receiver, the arguments -/
def MtR (X : Cx) (id : String) (r : V → List V → Hp → VK → Prop) : Prop :=
  ∀ (pins : List (Addr × Obj)) (s : Shared) (σ : St) (H : Hp) (x : V) (xs : List V) (v : Value) (us : List Value) (Q : VK), Inv X pins σ H s → RelV x v → Vals xs us → r x xs H Q →
    wpAny (model X.prog X.w) X.A (call (.builtin id) (v :: us)) (EP X pins σ Q) X.xe s
section
variable {X : Cx} {a b : Expr} {ta tb : TE} {pos : Pos}
theorem IxR.or {r r' : R2} (h : IxR X r) (h' : IxR X r') : IxR X (fun x y H Q => r x y H Q ∨ r' x y H Q) := by
  intro value slice pins s σ H x y v u Q I rx ry q hs
  rcases q with q | q
  · exact h value slice pins s σ H x y v u Q I rx ry q hs
  · exact h' value slice pins s σ H x y v u Q I rx ry q hs
theorem MtR.or {id : String} {r r' : V → List V → Hp → VK → Prop} (h : MtR X id r) (h' : MtR X id r') : MtR X id (fun x xs H Q => r x xs H Q ∨ r' x xs H Q) := by
  intro pins s σ H x xs v us Q I rx rs q
  rcases q with q | q
  · exact h pins s σ H x xs v us Q I rx rs q
  · exact h' pins s σ H x xs v us Q I rx rs q
/-- a[b] -/
theorem pe_ix {r : R2} (hr : IxR X r) (ha : PE X a ta) (hb : PE X b tb) (hs : PlainIx b) : PE X (.Subscript a b pos) (tOp r ta tb) := by
  intro pins s σ H Q I h
  exact Subscript_ (binT ha hb I h fun v u s2 x y H2 I2 rx ry q => hr a b pins s2 σ H2 x y v u Q I2 rx ry q (hs _ _))

def rIxL (K : PySem.W.Frag) : R2 := fun x y H Q => ∃ p xs i v, x = .ref p ∧ y = .int i ∧ SqL K H p xs ∧ atI xs i = some v ∧ Q v H
def rIxT (K : PySem.W.Frag) : R2 := fun x y H Q => ∃ p xs i v, x = .ref p ∧ y = .int i ∧ SqT K H p xs ∧ atI xs i = some v ∧ Q v H
def rIxS : R2 := fun x y H Q => ∃ z i c, x = .str z ∧ y = .int i ∧ z.length ≤ sizeLine ∧ atI z.cps.toList i = some c ∧ Q (.str ⟨#[c]⟩) H
theorem ix_list : IxR X (rIxL X.K) := by
  intro value slice pins s σ H x y v u Q I rx ry h hs
  obtain ⟨p, xs, i, z, rfl, rfl, hq, he, q⟩ := h
  cases rx
  obtain ⟨t, rfl⟩ := ry
  obtain ⟨its, r, pl, hz⟩ := I.list hq
  obtain ⟨j, h1, h2, h3, h4, h5⟩ := atI_get he
  obtain ⟨w, ew, rw'⟩ := r.get h2
  have hl := r.length
  have hn := line63
  have fin : EP X pins σ Q w s := ⟨z, H, I, rw', q⟩
  by_cases h0 : 0 ≤ i
  · have hj : i.toNat = j := by
      rw [seqIndex_of h0 h5] at h1
      exact Option.some.inj h1
    exact item_listR pl.isList h0 (by omega) (by rw [hj]; simpa using ew) fin hs
  · have hj : (i + (its.toArray.size : Int)).toNat = j := by
      rw [seqIndex_neg (by omega) h4] at h1
      rw [List.size_toArray, ← hl]
      exact Option.some.inj h1
    exact subscriptTail_builtinR (x := w) pl.isList.typeIs slot_list_getitem.lookup
      (wpAny_getItem_list_neg (Q := fun r s' => r = w ∧ EP X pins σ Q r s') pl.isList (by omega) (by rw [List.size_toArray] <;> omega) (by omega) (by rw [hj]; simpa using ew) ⟨rfl, fin⟩) hs
theorem ix_tup : IxR X (rIxT X.K) := by
  intro value slice pins s σ H x y v u Q I rx ry h hs
  obtain ⟨p, xs, i, z, rfl, rfl, hq, he, q⟩ := h
  cases rx
  obtain ⟨t, rfl⟩ := ry
  obtain ⟨its, r, pl, hz⟩ := I.tuple hq
  obtain ⟨j, h1, h2, h3, h4, h5⟩ := atI_get he
  obtain ⟨w, ew, rw'⟩ := r.get h2
  have hl := r.length
  have hn := line63
  have fin : EP X pins σ Q w s := ⟨z, H, I, rw', q⟩
  exact subscriptTail_builtinR (x := w) pl.typeIs slot_tuple_getitem.lookup
    (getItem_tuple (j := j) (Q := fun r s' => r = w ∧ EP X pins σ Q r s') pl (by omega) (by omega) (by rw [List.size_toArray, ← hl]; exact h1) (by simpa using ew) ⟨rfl, fin⟩) hs
theorem ix_str : IxR X rIxS := by
  intro value slice pins s σ H x y v u Q I rx ry h hs
  obtain ⟨z, i, c, rfl, rfl, hz, he, q⟩ := h
  obtain ⟨t, rfl⟩ := rx
  obtain ⟨t', rfl⟩ := ry
  obtain ⟨j, h1, h2, h3, h4, h5⟩ := atI_get he
  have hl : z.cps.toList.length = z.length := by simp [Str.length]
  rw [hl] at h1 h4 h5
  have hn := line63
  exact tail_any (typeIs_str s z t) slot_str_getitem.lookup (getItem_str (c := c) (by
    have e1 : decide (i < -(2 ^ 63 : Int)) = false := decide_eq_false (by omega)
    have e2 : decide (i ≥ 2 ^ 63) = false := decide_eq_false (by omega)
    rw [e1, e2, Bool.or_false]) (by rw [h1]; simpa using h2) ⟨.str ⟨#[c]⟩, H, I.tok _, ⟨_, rfl⟩, q⟩) hs
/-- list, tuple or str -/
def rIx (K : PySem.W.Frag) : R2 := fun x y H Q => rIxL K x y H Q ∨ rIxT K x y H Q ∨ rIxS x y H Q
theorem ix_seq : IxR X (rIx X.K) := ix_list.or (ix_tup.or ix_str)

/-! ### xs[i] = v, any sign -/
/-- the list's object behind a store -/
theorem mapSeq_set (its : List Value) (n j : Nat) (u : Value) : Obj.mapSeq (·.setIfInBounds j u) { cls := .type "list", data := .seq its.toArray n } = { cls := .type "list", data := .seq (its.set j u).toArray n } := by
  simp [Obj.mapSeq]
theorem Inv.lst {pins : List (Addr × Obj)} {σ : St} {H : Hp} {s : Shared} {p : Addr} {xs : List V} (I : Inv X pins σ H s) (h : H p = some (.lst xs)) :
    ∃ (its : List Value) (n : Nat), Vals xs its ∧ s.heap.get? p = some { cls := .type "list", data := .seq its.toArray n } ∧ xs.length ≤ sizeLine := by
  obtain ⟨z, its, n, r, e⟩ := I.hok p _ h
  exact ⟨its, n, r, e, z⟩
/-- the list at p is written by an update of its object -/
theorem Inv.lstUpd {pins : List (Addr × Obj)} {σ : St} {H : Hp} {s : Shared} {p : Addr} {xs ys : List V} {its its' : List Value} {n n' : Nat} {f : Obj → Obj} (I : Inv X pins σ H s) (h : H p = some (.lst xs))
    (ho : s.heap.get? p = some { cls := .type "list", data := .seq its.toArray n }) (hf : f { cls := .type "list", data := .seq its.toArray n } = { cls := .type "list", data := .seq its'.toArray n' }) (r : Vals ys its') (hz : ys.length ≤ sizeLine) (t : Nat) :
    Inv X pins σ (upd H p (.lst ys)) { s with heap := s.heap.update p f, toks := t } := by
  have e : (s.heap.update p f).get? p = some { cls := .type "list", data := .seq its'.toArray n' } := by
    rw [Heap.get?_update_self f ho (by rw [hf] <;> rfl), hf]
  refine I.write (x := p) (e := p) (by rw [h]; trivial) (.inl rfl) (fun b u hb q => (Heap.get?_update_other _ _ (Ne.symm hb)).trans q) ⟨_, e⟩ ?_
  exact ⟨hz, its', n', r, e⟩
def rSetL : V → V → V → Hp → (Hp → Prop) → Prop := fun o i v H Q => ∃ p xs k j, o = .ref p ∧ i = .int k ∧ H p = some (.lst xs) ∧ ixN xs.length k = some j ∧ Q (upd H p (.lst (xs.set j v)))
theorem set_list : PSet X rSetL := by
  intro pins s σ H o i v ov iv u Q I ro ri rv h
  obtain ⟨p, xs, k, j, rfl, rfl, hp, hj, q⟩ := h
  cases ro
  obtain ⟨t, rfl⟩ := ri
  obtain ⟨its, n, r, ho, hz⟩ := I.lst hp
  obtain ⟨h1, h2, h3, h4⟩ := ixN_seq hj
  have hl := r.length
  have hn := line63
  have I' : Inv X pins σ (upd H p (.lst (xs.set j v))) { s with heap := s.heap.update p (Obj.mapSeq (·.setIfInBounds j u)) } :=
    I.lstUpd hp ho (mapSeq_set its n j u) (r.set rv j) (by rw [List.length_set]; exact hz) s.toks
  by_cases h0 : 0 ≤ k
  · have hk : k.toNat = j := by
      rw [seqIndex_of h0 h4] at h1
      exact Option.some.inj h1
    exact PySem.W.ki_setAt ho h0 (by omega) (by rw [List.size_toArray, ← hl]; exact h4) (by rw [hk]; exact ⟨_, I', q⟩)
  · have hk : (k + (its.toArray.size : Int)).toNat = j := by
      rw [seqIndex_neg (by omega) h3] at h1
      rw [List.size_toArray, ← hl]
      exact Option.some.inj h1
    exact PySem.W.ki_setBack ho (by omega) (by rw [List.size_toArray, ← hl]; exact h3) (by omega) (by rw [hk]; exact ⟨_, I', q⟩)

/-! ### slices -/
theorem slice_bounds (lo hi : Option Int) (n : Nat) : (sliceBounds lo hi none n).1 = ((HT.sIx n 0 lo : Nat) : Int) ∧ (sliceBounds lo hi none n).2.1 = ((HT.sIx n n hi : Nat) : Int) ∧ (sliceBounds lo hi none n).2.2 = 1 := by
  refine ⟨?_, ?_, rfl⟩
  · cases lo with
    | none => simp [sliceBounds, HT.sIx]
    | some i =>
      simp only [sliceBounds, HT.sIx, Option.getD_none, show (1 : Int) > 0 by decide, if_true]
      by_cases h : i < 0
      · simp only [h, if_true] <;> omega
      · simp only [h, if_false] <;> omega
  · cases hi with
    | none => simp [sliceBounds, HT.sIx]
    | some i =>
      simp only [sliceBounds, HT.sIx, Option.getD_none, show (1 : Int) > 0 by decide, if_true]
      by_cases h : i < 0
      · simp only [h, if_true] <;> omega
      · simp only [h, if_false] <;> omega
theorem slicePick_cut (its : List Value) (lo hi : Option Int) : slicePick its.toArray lo hi none = ((its.drop (HT.sIx its.length 0 lo)).take (HT.sIx its.length its.length hi - HT.sIx its.length 0 lo)).toArray := by
  obtain ⟨h1, h2, h3⟩ := slice_bounds lo hi its.toArray.size
  unfold slicePick
  rw [h1, h2, h3]
  simp only [sliceRange_one, pick_run, List.size_toArray] <;> rfl
/-- xs[lo:hi] of a list: a new list -/
def rSlL (K : PySem.W.Frag) : V → Option Int → Option Int → Hp → VK → Prop := fun x lo hi H Q => ∃ a xs, x = .ref a ∧ SqL K H a xs ∧ ∀ p, H p = none → Q (.ref p) (upd H p (.lst (cutV xs lo hi)))
theorem sl_list : SlR X (rSlL X.K) := by
  intro pins s σ H x v vl vu lo hi sl Q I rx hs pl pu h
  obtain ⟨a, xs, rfl, hx, q⟩ := h
  cases rx
  obtain ⟨its, r, ht, hz⟩ := I.list hx
  have hlen := r.length
  refine ⟨"list", _, slot_list_getitem.lookup, ht.isList.typeIs, ?_⟩
  refine wpAny_getItem_list_slice ht.isList hs pl pu .none (by simp) ?_ (by rw [List.size_toArray] <;> omega)
  rw [slicePick_cut, ← hlen]
  refine ⟨.ref s.heap.objs.size, _, I.laid (t' := s.toks) (o := .lst (cutV xs lo hi)) (fun b ob q => Heap.get?_push_of_some _ q) (Nat.le_refl _) ?_, rfl, q _ (I.hok.fresh (Nat.le_refl _))⟩
  exact ⟨Nat.le_trans (cutV_length xs lo hi) hz, _, 0, (r.drop (HT.sIx xs.length 0 lo)).take (HT.sIx xs.length xs.length hi - HT.sIx xs.length 0 lo), Heap.get?_push_size _ rfl⟩

/-! ### in, not in: flat items -/
def flatV : V → Bool
  | .non => true
  | .bl _ => true
  | .int _ => true
  | .str _ => true
  | _ => false
/-- == of flat values -/
def eqV : V → V → Bool
  | .non, .non => true
  | .bl a, .bl b => a == b
  | .bl a, .int b => (if a then 1 else 0) == b
  | .int a, .bl b => a == (if b then 1 else 0)
  | .int a, .int b => a == b
  | .str a, .str b => a == b
  | _, _ => false
theorem eqAt_V {A : Around} {s : Shared} {y x : V} {u v : Value} (ry : RelV y u) (rx : RelV x v) (fy : flatV y = true) (fx : flatV x = true) : SeqAt.EqAt A s u v (eqV y x) := by
  cases y with
  | non =>
    cases ry
    cases x with
    | non => cases rx; exact SeqAt.EqAt.same _
    | bl b => cases rx; exact SeqAt.EqAt.none_bool b
    | int b => obtain ⟨t, rfl⟩ := rx; exact SeqAt.EqAt.none_int b t
    | str b => obtain ⟨t, rfl⟩ := rx; exact SeqAt.EqAt.none_str b t
    | _ => exact absurd (show false = true from fx) Bool.false_ne_true
  | bl a =>
    cases ry
    cases x with
    | non => cases rx; exact SeqAt.EqAt.bool_none a
    | bl b => cases rx; exact SeqAt.EqAt.bool_bool a b
    | int b => obtain ⟨t, rfl⟩ := rx; exact SeqAt.EqAt.bool_int a b t
    | str b => obtain ⟨t, rfl⟩ := rx; exact SeqAt.EqAt.bool_str a b t
    | _ => exact absurd (show false = true from fx) Bool.false_ne_true
  | int a =>
    obtain ⟨t', rfl⟩ := ry
    cases x with
    | non => cases rx; exact SeqAt.EqAt.int_none a t'
    | bl b => cases rx; exact SeqAt.EqAt.int_bool a t' b
    | int b => obtain ⟨t, rfl⟩ := rx; exact SeqAt.EqAt.int_int a t' b t
    | str b => obtain ⟨t, rfl⟩ := rx; exact SeqAt.EqAt.int_str a t' b t
    | _ => exact absurd (show false = true from fx) Bool.false_ne_true
  | str a =>
    obtain ⟨t', rfl⟩ := ry
    cases x with
    | non => cases rx; exact SeqAt.EqAt.str_none a t'
    | bl b => cases rx; exact SeqAt.EqAt.str_bool a t' b
    | int b => obtain ⟨t, rfl⟩ := rx; exact SeqAt.EqAt.str_int a t' b t
    | str b => obtain ⟨t, rfl⟩ := rx; exact SeqAt.EqAt.str_str a t' b t
    | _ => exact absurd (show false = true from fx) Bool.false_ne_true
  | _ => exact absurd (show false = true from fy) Bool.false_ne_true
/-- the items' answers, read off the values (a value's own answer does not lean on its token) -/
def eqU (x : V) (u : Value) : Bool := match u with
  | .none => eqV .non x
  | .bool b => eqV (.bl b) x
  | .int i _ => eqV (.int i) x
  | .str z _ => eqV (.str z) x
  | _ => false
theorem eqU_of {x y : V} {u : Value} (r : RelV y u) (f : flatV y = true) : eqU x u = eqV y x := by
  cases y with
  | non => cases r; rfl
  | bl b => cases r; rfl
  | int i => obtain ⟨t, rfl⟩ := r; rfl
  | str z => obtain ⟨t, rfl⟩ := r; rfl
  | _ => exact absurd (show false = true from f) Bool.false_ne_true
theorem any_eqU {x : V} : ∀ {xs : List V} {us : List Value}, Vals xs us → xs.all flatV = true → us.any (eqU x) = xs.any fun y => eqV y x
  | _, _, .nil, _ => rfl
  | y :: xs, u :: us, .cons r t, f => by
    rw [List.all_cons, Bool.and_eq_true] at f
    rw [List.any_cons, List.any_cons, eqU_of r f.1, any_eqU t f.2]
theorem mem_eqAt {A : Around} {s : Shared} {x : V} {v : Value} (rx : RelV x v) (fx : flatV x = true) : ∀ {xs : List V} {us : List Value}, Vals xs us → xs.all flatV = true → ∀ u ∈ us, SeqAt.EqAt A s u v (eqU x u)
  | _, _, .nil, _ => fun u hu => by cases hu
  | y :: xs, u :: us, .cons r t, f => fun u' hu => by
    rw [List.all_cons, Bool.and_eq_true] at f
    rcases List.mem_cons.mp hu with rfl | hu
    · rw [eqU_of r f.1]; exact eqAt_V r rx f.1 fx
    · exact mem_eqAt rx fx t f.2 u' hu
def inV (x : V) (xs : List V) : Bool := xs.any fun y => eqV y x
/-- x in a list or tuple of flat items -/
def rIn (K : PySem.W.Frag) (neg : Bool) : R2 := fun x y H Q => ∃ p xs, y = .ref p ∧ (SqL K H p xs ∨ SqT K H p xs) ∧ flatV x = true ∧ xs.all flatV = true ∧ Q (.bl (if neg then !inV x xs else inV x xs)) H
theorem op_in_seq : OpR X (compareOp .In) (rIn X.K false) := by
  intro pins s σ H x y v u Q I rx ry h
  obtain ⟨p, xs, rfl, hq, fx, fs, q⟩ := h
  cases ry
  rcases hq with hq | hq
  · obtain ⟨its, r, pl, hz⟩ := I.list hq
    refine SeqAt.in_listAt (eqU x) pl.isList (fun w hw => mem_eqAt rx fx r fs w (by simpa using hw)) ⟨.bl _, H, I, rfl, ?_⟩
    rw [show its.toArray.any (eqU x) = its.any (eqU x) by simp, any_eqU r fs]
    exact q
  · obtain ⟨its, r, pl, hz⟩ := I.tuple hq
    refine SeqAt.in_tupleAt (eqU x) pl (fun w hw => mem_eqAt rx fx r fs w (by simpa using hw)) ⟨.bl _, H, I, rfl, ?_⟩
    rw [show its.toArray.any (eqU x) = its.any (eqU x) by simp, any_eqU r fs]
    exact q
theorem op_notIn_seq : OpR X (compareOp .NotIn) (rIn X.K true) := by
  intro pins s σ H x y v u Q I rx ry h
  obtain ⟨p, xs, rfl, hq, fx, fs, q⟩ := h
  cases ry
  rcases hq with hq | hq
  · obtain ⟨its, r, pl, hz⟩ := I.list hq
    refine SeqAt.notIn_listAt (eqU x) pl.isList (fun w hw => mem_eqAt rx fx r fs w (by simpa using hw)) ⟨.bl _, H, I, rfl, ?_⟩
    rw [show its.toArray.any (eqU x) = its.any (eqU x) by simp, any_eqU r fs]
    exact q
  · obtain ⟨its, r, pl, hz⟩ := I.tuple hq
    refine SeqAt.notIn_tupleAt (eqU x) pl (fun w hw => mem_eqAt rx fx r fs w (by simpa using hw)) ⟨.bl _, H, I, rfl, ?_⟩
    rw [show its.toArray.any (eqU x) = its.any (eqU x) by simp, any_eqU r fs]
    exact q
theorem op_notIn_str : OpR X (compareOp .NotIn) (fun x y H Q => ∃ i j, x = .str i ∧ y = .str j ∧ Q (.bl (!(!(Builtin.Str.occurrences j i 0 j.length 1).isEmpty))) H) := by
  intro pins s σ H x y v u Q I rx ry h
  obtain ⟨i, j, rfl, rfl, q⟩ := h
  obtain ⟨t, rfl⟩ := rx
  obtain ⟨t', rfl⟩ := ry
  exact notIn_str ⟨.bl _, H, I, rfl, q⟩

/-! ### len, list(x), tuple(x) of any list or tuple that is read -/
theorem call_len_seq : CallR X (.builtin "len") (fun xs H Q => ∃ p ys, xs = [.ref p] ∧ (SqL X.K H p ys ∨ SqT X.K H p ys) ∧ Q (.int ys.length) H) := by
  intro pins s σ H xs us Q I r h
  obtain ⟨p, ys, rfl, hq, q⟩ := h
  obtain ⟨u, rfl, rx⟩ := vals1 r
  cases rx
  have hn := line63
  rcases hq with hq | hq
  · obtain ⟨its, r', pl, hz⟩ := I.list hq
    have hlen := r'.length
    exact Calls.call_len_list pl.isList (by simp only [List.size_toArray] <;> omega) ⟨.int ys.length, H, I.tok _, ⟨s.toks + 1, by rw [List.size_toArray, hlen]⟩, q⟩
  · obtain ⟨its, r', pl, hz⟩ := I.tuple hq
    have hlen := r'.length
    exact len_tuple pl (by simp only [List.size_toArray] <;> omega) ⟨.int ys.length, H, I.tok _, ⟨s.toks + 1, by rw [List.size_toArray, hlen]⟩, q⟩
theorem call_len_str : CallR X (.builtin "len") (fun xs H Q => ∃ z, xs = [.str z] ∧ z.length ≤ sizeLine ∧ Q (.int z.length) H) := by
  intro pins s σ H xs us Q I r h
  obtain ⟨z, rfl, hz, q⟩ := h
  obtain ⟨u, rfl, t, rfl⟩ := vals1 r
  have hn := line63
  exact len_str (by omega) ⟨.int z.length, H, I.tok _, ⟨_, rfl⟩, q⟩
theorem CallR.or {f : Value} {r r' : List V → Hp → VK → Prop} (h : CallR X f r) (h' : CallR X f r') : CallR X f (fun xs H Q => r xs H Q ∨ r' xs H Q) := by
  intro pins s σ H xs us Q I rs q
  rcases q with q | q
  · exact h pins s σ H xs us Q I rs q
  · exact h' pins s σ H xs us Q I rs q
theorem call_list_of : CallR X (.type "list") (fun xs H Q => ∃ p ys, xs = [.ref p] ∧ (SqL X.K H p ys ∨ SqT X.K H p ys) ∧ ∀ l, H l = none → Q (.ref l) (upd H l (.lst ys))) := by
  intro pins s σ H xs us Q I r h
  obtain ⟨p, ys, rfl, hq, q⟩ := h
  obtain ⟨u, rfl, rx⟩ := vals1 r
  cases rx
  have fin : ∀ (its : List Value), Vals ys its → ys.length ≤ sizeLine → ∀ (h' : Heap) (c' : Nat), (∀ b o', s.heap.get? b = some o' → h'.get? b = some o') →
      h'.get? s.heap.objs.size = some { cls := .type "list", dict := none, data := .seq its.toArray c', slots := #[] } → EP X pins σ Q (.ref s.heap.objs.size) { s with heap := h' } := fun its r' hz h' c' kp e =>
    ⟨.ref s.heap.objs.size, _, I.laid (t' := s.toks) kp (Nat.le_refl _) (show ObjOk X.prog X.w _ h' _ (.lst ys) from ⟨hz, its, c', r', e⟩), rfl, q _ (I.hok.fresh (Nat.le_refl _))⟩
  rcases hq with hq | hq
  · obtain ⟨its, r', pl, hz⟩ := I.list hq
    have hlen := r'.length
    obtain ⟨o, ho, hc, n, hd⟩ := pl.isList
    exact call_list_seq p (.inl rfl) ho hc hd (fun h' c' kp e => fin its r' hz h' c' kp e) (by simp only [List.size_toArray] <;> omega)
  · obtain ⟨its, r', pl, hz⟩ := I.tuple hq
    have hlen := r'.length
    obtain ⟨o, ho, hc, n, hd⟩ := pl
    exact call_list_seq p (.inr rfl) ho hc hd (fun h' c' kp e => fin its r' hz h' c' kp e) (by simp only [List.size_toArray] <;> omega)
theorem call_tuple_of : CallR X (.type "tuple") (fun xs H Q => ∃ p ys, xs = [.ref p] ∧ ((SqL X.K H p ys ∧ ∀ l, H l = none → Q (.ref l) (upd H l (.tup ys))) ∨ (SqT X.K H p ys ∧ Q (.ref p) H))) := by
  intro pins s σ H xs us Q I r h
  obtain ⟨p, ys, rfl, h⟩ := h
  obtain ⟨u, rfl, rx⟩ := vals1 r
  cases rx
  rcases h with ⟨hq, q⟩ | ⟨hq, q⟩
  · obtain ⟨its, r', pl, hz⟩ := I.list hq
    have hlen := r'.length
    refine call_tuple_list pl.isList (fun h' kp => ?_) (by simp only [List.size_toArray] <;> omega)
    have I1 : Inv X pins σ H { s with heap := h' } := I.kept (t' := s.toks) kp
    have I2 : Inv X pins σ (upd H h'.objs.size (.tup ys)) { s with heap := h'.push { cls := .type "tuple", data := .seq its.toArray } } :=
      I1.laid (t' := s.toks) (fun b o e => Heap.get?_push_of_some _ e) (Nat.le_refl _) (show ObjOk X.prog X.w _ _ _ (.tup ys) from ⟨hz, its, r', IsTup.new _ _⟩)
    exact ⟨.ref h'.objs.size, _, I2, rfl, q _ (I1.hok.fresh (Nat.le_refl _))⟩
  · obtain ⟨its, r', pl, hz⟩ := I.tuple hq
    exact call_tuple_same pl ⟨.ref p, H, I, rfl, q⟩

/-! ### the call of a builtin's method: o.m(..) -/
/-- the value is of that builtin type -/
def tyV (K : PySem.W.Frag) (T : String) (x : V) (H : Hp) : Prop := match x with
  | .str _ => T = "str"
  | .int _ => T = "int"
  | .ref p => (T = "list" ∧ ∃ xs, SqL K H p xs) ∨ (T = "tuple" ∧ ∃ o, K.lookup p = some o ∧ o.cls = .type "tuple" ∧ o.dict = none) ∨
      (T = "dict" ∧ ((∃ kvs, H p = some (.dK kvs)) ∨ ∃ kvs, H p = some (.dT kvs))) ∨ (T = "set" ∧ ∃ S n, H p = some (.set S n))
  | _ => False
theorem tyV_is {pins : List (Addr × Obj)} {σ : St} {H : Hp} {s : Shared} {T : String} {x : V} {v : Value} (I : Inv X pins σ H s) (r : RelV x v) (ty : tyV X.K T x H) :
    s.TypeIs v T ∧ ∀ a, v = .ref a → ∃ ob, s.heap.get? a = some ob ∧ ob.dict = none := by
  cases x with
  | str z =>
    obtain ⟨t, rfl⟩ := r
    cases (show T = "str" from ty)
    exact ⟨typeIs_str s z t, fun _ e => nomatch e⟩
  | int i =>
    obtain ⟨t, rfl⟩ := r
    cases (show T = "int" from ty)
    exact ⟨typeIs_int s i t, fun _ e => nomatch e⟩
  | ref p =>
    cases r
    rcases ty with ⟨rfl, xs, hq⟩ | ⟨rfl, o, hk, hc, hd⟩ | ⟨rfl, hk⟩ | ⟨rfl, S, n, hk⟩
    · obtain ⟨its, _, pl, _⟩ := I.list hq
      refine ⟨pl.isList.typeIs, fun a e => ?_⟩
      cases e
      obtain ⟨o, n, e, c, hd, _⟩ := pl
      exact ⟨o, e, hd⟩
    · refine ⟨⟨o, I.kIn p o hk, hc⟩, fun a e => ?_⟩
      cases e
      exact ⟨o, I.kIn _ o hk, hd⟩
    · have z : ∃ o, s.heap.get? p = some o ∧ o.ExactDict := by
        rcases hk with ⟨kvs, hk⟩ | ⟨kvs, hk⟩
        · obtain ⟨_, _, _, _, o, _, _, e, ex, _⟩ := I.hok p _ hk
          exact ⟨o, e, ex⟩
        · obtain ⟨_, _, _, _, o, _, _, e, ex, _⟩ := I.hok p _ hk
          exact ⟨o, e, ex⟩
      obtain ⟨o, e, ex⟩ := z
      refine ⟨⟨o, e, ex.1⟩, fun a e2 => ?_⟩
      cases e2
      exact ⟨o, e, ex.2.1⟩
    · obtain ⟨o, _, _, _, e, ex, _⟩ := I.hok p _ hk
      refine ⟨⟨o, e, ex.1⟩, fun a e2 => ?_⟩
      cases e2
      exact ⟨o, e, ex.2.1⟩
  | _ => exact False.elim ty
def tBM0 (K : PySem.W.Frag) (T : String) (r : V → List V → Hp → VK → Prop) (to : TE) : TE := fun σ H Q => to σ H fun x H1 => tyV K T x H1 ∧ r x [] H1 Q
def tBM (K : PySem.W.Frag) (T : String) (r : V → List V → Hp → VK → Prop) (to : TE) (t : TA) : TE := fun σ H Q => to σ H fun x H1 => tyV K T x H1 ∧ t σ H1 fun xs H2 => r x xs H2 Q
variable {o e : Expr} {es : List Expr} {to : TE} {t : TA} {name : Str} {apos cpos : Pos} {T id : String} {r : V → List V → Hp → VK → Prop}
theorem pe_bm0 (pa : PlainAttrs T) (slot : Slot T name id) (hty : typeOf (.builtin id) = pure (.type "method_descriptor")) (hm : MtR X id r) (ho : PE X o to)
    (hbase : attributeBase o name X.env (eval o X.env) = eval o X.env := by rfl) (hline : (apos.endLine == cpos.line) = true := by rfl) : PE X (.Call (.Attribute o name apos) [] [] cpos) (tBM0 X.K T r to) := by
  intro pins s σ H Q I h
  refine wpAny_Call_method0_late hbase hline (thn (ho pins s σ H _ I h) fun v s1 ⟨x, H1, I1, r1, ty, q1⟩ => ?_)
  obtain ⟨h1, h2⟩ := tyV_is I1 r1 ty
  exact ⟨T, id, pa, slot, hty, h1, h2, Calls.callWith_builtin rfl (PySem.evalArgs_none (hm pins s1 σ H1 x [] v [] Q I1 r1 .nil q1))⟩
theorem pe_bm (pa : PlainAttrs T) (slot : Slot T name id) (hty : typeOf (.builtin id) = pure (.type "method_descriptor")) (hm : MtR X id r) (ho : PE X o to) (ha : PA X (e :: es) t)
    (hbase : attributeBase o name X.env (eval o X.env) = eval o X.env := by rfl)
    (hfew : ((backTo cpos (starEach (e :: es) X.env)).all (fun x => !x.1) && (backToKw cpos (keywordEach [] X.env)).all (fun x => x.1.isSome)
      && decide ((e :: es).length + ([] : List Keyword).length + (if ([] : List Keyword).isEmpty then 0 else 1) < 30)) = true := by rfl)
    (hline : (apos.endLine == cpos.line) = true := by rfl) (hs : starEach (e :: es) X.env = (false, eval e X.env) :: starEach es X.env := by rfl) (hplain : (backTo cpos (starEach es X.env)).any (·.1) = false := by rfl) :
    PE X (.Call (.Attribute o name apos) (e :: es) [] cpos) (tBM X.K T r to t) := by
  intro pins s σ H Q I h
  refine wpAny_Call_method_late hbase hfew hline rfl (thn (ho pins s σ H _ I h) fun v s1 ⟨x, H1, I1, r1, ty, q1⟩ => ?_)
  obtain ⟨h1, h2⟩ := tyV_is I1 r1 ty
  refine ⟨T, id, pa, slot, hty, h1, h2, ?_⟩
  have hA := ha cpos pins s1 σ H1 _ I1 q1
  rw [hs] at hA ⊢
  refine Calls.callWith_builtin (by show (false || (backTo cpos (starEach es X.env)).any (·.1)) = false; rw [hplain] <;> rfl) (Calls.evalArgs_plain ?_)
  exact thn hA fun us s2 ⟨vs, H2, I2, r2, q2⟩ => hm pins s2 σ H2 x vs v us Q I2 r1 r2 q2
/- xs.append(e), list.index on a module's tuple .. are MtR facts of 06m -/
end
end L2

namespace L2
open PySem PySem.Spec PyProof.Rows

def MtM (X : Cx) (id : String) (r : V → List V → Hp → VK → Prop) : Prop :=
  ∀ (pins : List (Addr × Obj)) (s : Shared) (σ : St) (H : Hp) (x : V) (xs : List V) (v : Value) (us : List Value) (Q : VK), Inv X pins σ H s → RelV x v → Vals xs us → r x xs H Q →
    wpAny (model X.prog X.w) X.A (call (.builtin id) (v :: us)) (EP X pins σ Q) X.xe s

/-! ### lists of values -/
theorem Vals.one : ∀ {x : V} {us : List Value}, Vals [x] us → ∃ u, us = [u] ∧ RelV x u
  | _, _, .cons r .nil => ⟨_, rfl, r⟩
theorem Vals.two : ∀ {x y : V} {us : List Value}, Vals [x, y] us → ∃ u v, us = [u, v] ∧ RelV x u ∧ RelV y v
  | _, _, _, .cons r (.cons q .nil) => ⟨_, _, rfl, r, q⟩
theorem Vals.zero : ∀ {us : List Value}, Vals [] us → us = []
  | _, .nil => rfl
theorem Vals.dropLast {xs : List V} {us : List Value} (h : Vals xs us) : Vals xs.dropLast us.dropLast := by
  induction h with
  | nil => exact .nil
  | cons r t ih =>
    cases t with
    | nil => exact .nil
    | cons q t' => exact .cons r ih
theorem Vals.eraseIdx : ∀ {xs : List V} {us : List Value} (i : Nat), Vals xs us → Vals (xs.eraseIdx i) (us.eraseIdx i)
  | _, _, _, .nil => .nil
  | _, _, 0, .cons _ t => t
  | _, _, i + 1, .cons r t => .cons r (Vals.eraseIdx i t)
theorem Vals.reverse {xs : List V} {us : List Value} (h : Vals xs us) : Vals xs.reverse us.reverse := by
  induction h with
  | nil => exact .nil
  | cons r t ih => rw [List.reverse_cons, List.reverse_cons]; exact Vals.append ih (.cons r .nil)
theorem Vals.rep {xs : List V} {us : List Value} (h : Vals xs us) : ∀ k : Nat, Vals (List.replicate k xs).flatten (List.replicate k us).flatten
  | 0 => .nil
  | k + 1 => by
    rw [List.replicate_succ, List.replicate_succ, List.flatten_cons, List.flatten_cons]
    exact Vals.append h (Vals.rep h k)
theorem erase_last {α : Type} (l : List α) : l.eraseIdx (l.length - 1) = l.dropLast := by
  induction l with
  | nil => rfl
  | cons a r ih =>
    cases r with
    | nil => rfl
    | cons b r =>
      have e : (a :: b :: r).length - 1 = ((b :: r).length - 1) + 1 := by
        have h1 : (a :: b :: r).length = r.length + 2 := rfl
        have h2 : (b :: r).length = r.length + 1 := rfl
        omega
      rw [e, List.eraseIdx_cons_succ, ih]
      all_goals rfl
theorem len_erase {α : Type} : ∀ (l : List α) (i : Nat), (l.eraseIdx i).length ≤ l.length
  | [], _ => Nat.le_refl _
  | _ :: _, 0 => Nat.le_succ _
  | _ :: r, i + 1 => Nat.succ_le_succ (len_erase r i)
theorem foldl_rep (its : List Value) : ∀ (k : Nat) (acc : List Value),
    List.foldl (fun x1 x2 => x1 ++ x2) acc.toArray (List.replicate k its.toArray) = (acc ++ (List.replicate k its).flatten).toArray
  | 0, acc => by simp
  | k + 1, acc => by
    have e : acc.toArray ++ its.toArray = (acc ++ its).toArray := by simp
    have e2 : (acc ++ its) ++ (List.replicate k its).flatten = acc ++ (List.replicate (k + 1) its).flatten := by
      rw [List.replicate_succ, List.flatten_cons, List.append_assoc]
    rw [← e2, ← foldl_rep its k (acc ++ its), ← e, List.replicate_succ, List.foldl_cons]

section
variable {X : Cx} {pins : List (Addr × Obj)} {σ : St} {H : Hp} {s : Shared} {l b : Addr} {xs ys zs : List V}

/-! ### the two steps: a tracked list is rewritten, a new list is laid -/
theorem Inv.lset {its its' : List Value} {n : Nat} {f : Array Value → Array Value} {t' : Nat} (I : Inv X pins σ H s) (hH : H l = some (.lst xs))
    (e : s.heap.get? l = some { cls := .type "list", data := .seq its.toArray n }) (hf : f its.toArray = its'.toArray) (hv : Vals ys its') (hz : ys.length ≤ sizeLine) :
    Inv X pins σ (upd H l (.lst ys)) { s with heap := s.heap.update l (Obj.mapSeq f), toks := t' } := by
  have q := PySem.IsL.update e f
  rw [hf] at q
  refine I.write (x := l) (e := l) (by rw [hH]; exact trivial) (.inl rfl) (fun b' u hb hu => (Heap.get?_update_other s.heap (Obj.mapSeq f) (Ne.symm hb)).trans hu) ⟨_, q⟩ ?_
  exact ⟨hz, its', _, hv, q⟩
theorem Inv.lnew {its : List Value} {t' : Nat} (I : Inv X pins σ H s) (hv : Vals ys its) (hz : ys.length ≤ sizeLine) :
    Inv X pins σ (upd H s.heap.objs.size (.lst ys)) { s with heap := s.heap.push { cls := .type "list", data := .seq its.toArray }, toks := t' } :=
  I.laid (fun _ _ q => Heap.get?_push_of_some _ q) (Nat.le_refl _) ⟨hz, its, 0, hv, Heap.get?_push_size _ rfl⟩
theorem Inv.fresh (I : Inv X pins σ H s) : H s.heap.objs.size = none := I.hok.fresh (Nat.le_refl _)
theorem Inv.lstM (I : Inv X pins σ H s) (hH : H l = some (.lst xs)) : xs.length ≤ sizeLine ∧ ∃ (its : List Value) (n : Nat), Vals xs its ∧ xs.length = its.length ∧ s.heap.get? l = some { cls := .type "list", data := .seq its.toArray n } := by
  obtain ⟨z, its, n, r, e⟩ := I.hok l _ hH
  exact ⟨z, its, n, r, r.length, e⟩

theorem notLongL {n : Nat} (h : n ≤ sizeLine) : Builtin.List.listTooLong n = false := by
  unfold Builtin.List.listTooLong
  exact decide_eq_false (by omega)
end

section
variable {X : Cx}

/-! ### methods -/
def rAppend : V → List V → Hp → VK → Prop := fun x vs H Q => ∃ l xs y, x = .ref l ∧ vs = [y] ∧ H l = some (.lst xs) ∧ xs.length < sizeLine ∧ Q .non (upd H l (.lst (xs ++ [y])))
theorem mt_append : MtM X "list.append" rAppend := by
  intro pins s σ H x vs v us Q I rx rv h
  obtain ⟨l, xs, y, rfl, rfl, hH, hz, q⟩ := h
  cases rx
  obtain ⟨u, rfl, ru⟩ := rv.one
  obtain ⟨z, its, n, r, hl, e⟩ := I.lstM hH
  refine call_meets F.slot_list_append ⟨_, e, rfl⟩ F.entry_list_append (F.args_list_append_2 _ _) (PySem.list_append l its.toArray n u (by rw [List.size_toArray]; omega)) ⟨e, ?_⟩
  refine ⟨.non, _, I.lset (its' := its ++ [u]) hH e (by simp) (r.append (.cons ru .nil)) ?_, rfl, q⟩
  rw [List.length_append, List.length_singleton]
  omega

def rExtend : V → List V → Hp → VK → Prop := fun x vs H Q => ∃ l b xs zs, x = .ref l ∧ vs = [.ref b] ∧ H l = some (.lst xs) ∧ H b = some (.lst zs) ∧ xs.length + zs.length ≤ sizeLine ∧ Q .non (upd H l (.lst (xs ++ zs)))
theorem mt_extend : MtM X "list.extend" rExtend := by
  intro pins s σ H x vs v us Q I rx rv h
  obtain ⟨l, b, xs, zs, rfl, rfl, hH, hB, hz, q⟩ := h
  cases rx
  obtain ⟨u, rfl, ru⟩ := rv.one
  cases ru
  obtain ⟨z, its, n, r, hl, e⟩ := I.lstM hH
  obtain ⟨z2, its2, n2, r2, hl2, e2⟩ := I.lstM hB
  have hsz : its.toArray.size + its2.toArray.size ≤ sizeLine := by rw [List.size_toArray, List.size_toArray]; omega
  have hlong : ¬ (!its.toArray.isEmpty && Builtin.List.listTooLong (its.toArray.size + its2.toArray.size)) = true := by
    rw [notLongL hsz, Bool.and_false]
    exact Bool.false_ne_true
  refine call_meets F.slot_list_extend ⟨_, e, rfl⟩ F.entry_list_extend (F.args_list_extend_2 _ _)
    (AutoSeq1.list_extend_list_list_0 l its.toArray n b its2.toArray n2 hlong (by rw [List.size_toArray]; omega) (by omega)) ⟨e, e2, ?_⟩
  refine ⟨.non, _, I.lset (its' := its ++ its2) hH e (by simp) (r.append r2) ?_, rfl, q⟩
  rw [List.length_append]
  omega

def rPop : V → List V → Hp → VK → Prop := fun x vs H Q => ∃ l xs y, x = .ref l ∧ vs = [] ∧ H l = some (.lst xs) ∧ xs[xs.length - 1]? = some y ∧ Q y (upd H l (.lst xs.dropLast))
theorem mt_pop : MtM X "list.pop" rPop := by
  intro pins s σ H x vs v us Q I rx rv h
  obtain ⟨l, xs, y, rfl, rfl, hH, hy, q⟩ := h
  cases rx
  have hus := rv.zero
  subst hus
  obtain ⟨z, its, n, r, hl, e⟩ := I.lstM hH
  obtain ⟨u, hu, ru⟩ := r.get hy
  have hy' : its.toArray[its.toArray.size - 1]? = some u := by
    show its.toArray[its.length - 1]? = some u
    rw [← Array.getElem?_toList, ← hl]
    exact hu
  refine call_meets F.slot_list_pop ⟨_, e, rfl⟩ F.entry_list_pop (F.args_list_pop_1 _) (MeetsSeq.list_pop_last l its.toArray n u hy' (by rw [List.size_toArray]; omega)) ⟨e, ?_⟩
  refine ⟨y, _, I.lset (its' := its.dropLast) hH e ?_ r.dropLast ?_, ru, q⟩
  · show its.toArray.eraseIdxIfInBounds (its.toArray.size - 1) = its.dropLast.toArray
    rw [List.size_toArray, List.eraseIdxIfInBounds_toArray, erase_last]
  · rw [List.length_dropLast]
    omega

def rPopAt : V → List V → Hp → VK → Prop := fun x vs H Q => ∃ l xs i k y, x = .ref l ∧ vs = [.int i] ∧ H l = some (.lst xs) ∧ -(2 ^ 63) ≤ i ∧ i < 2 ^ 63 ∧ seqIndex? i xs.length = some k ∧ xs[k]? = some y ∧ Q y (upd H l (.lst (xs.eraseIdx k)))
theorem mt_popAt : MtM X "list.pop" rPopAt := by
  intro pins s σ H x vs v us Q I rx rv h
  obtain ⟨l, xs, i, k, y, rfl, rfl, hH, h1, h2, hk, hy, q⟩ := h
  cases rx
  obtain ⟨u, rfl, ru⟩ := rv.one
  obtain ⟨t, rfl⟩ := ru
  obtain ⟨z, its, n, r, hl, e⟩ := I.lstM hH
  obtain ⟨w, hw, rw'⟩ := r.get hy
  refine call_meets F.slot_list_pop ⟨_, e, rfl⟩ F.entry_list_pop (F.args_list_pop_2 _ _)
    (MeetsSeq.list_pop_at l its.toArray n i t k w (fitsIndex_both h1 h2) (by rw [List.size_toArray, ← hl]; exact hk) (by rw [← Array.getElem?_toList]; exact hw) (by rw [List.size_toArray]; omega)) ⟨e, ?_⟩
  refine ⟨y, _, I.lset (its' := its.eraseIdx k) hH e ?_ (r.eraseIdx k) ?_, rw', q⟩
  · show its.toArray.eraseIdxIfInBounds k = (its.eraseIdx k).toArray
    rw [List.eraseIdxIfInBounds_toArray]
  · have := len_erase xs k
    omega

def rReverse : V → List V → Hp → VK → Prop := fun x vs H Q => ∃ l xs, x = .ref l ∧ vs = [] ∧ H l = some (.lst xs) ∧ Q .non (upd H l (.lst xs.reverse))
theorem mt_reverse : MtM X "list.reverse" rReverse := by
  intro pins s σ H x vs v us Q I rx rv h
  obtain ⟨l, xs, rfl, rfl, hH, q⟩ := h
  cases rx
  have hus := rv.zero
  subst hus
  obtain ⟨z, its, n, r, hl, e⟩ := I.lstM hH
  refine call_meets F.slot_list_reverse ⟨_, e, rfl⟩ F.entry_list_reverse (F.args_list_reverse_1 _) (AutoSeq1.list_reverse_list_0 l its.toArray n (by rw [List.size_toArray]; omega)) ⟨e, ?_⟩
  refine ⟨.non, _, I.lset (its' := its.reverse) hH e (by simp) r.reverse ?_, rfl, q⟩
  rw [List.length_reverse]
  omega

def rClear : V → List V → Hp → VK → Prop := fun x vs H Q => ∃ l xs, x = .ref l ∧ vs = [] ∧ H l = some (.lst xs) ∧ Q .non (upd H l (.lst []))
theorem mt_clear : MtM X "list.clear" rClear := by
  intro pins s σ H x vs v us Q I rx rv h
  obtain ⟨l, xs, rfl, rfl, hH, q⟩ := h
  cases rx
  have hus := rv.zero
  subst hus
  obtain ⟨z, its, n, r, hl, e⟩ := I.lstM hH
  refine call_meets F.slot_list_clear ⟨_, e, rfl⟩ F.entry_list_clear (F.args_list_clear_1 _) (AutoSeq1.list_clear_list_0 l its.toArray n (by rw [List.size_toArray]; omega)) ⟨e, ?_⟩
  exact ⟨.non, _, I.lset (its' := []) (ys := []) hH e rfl .nil (Nat.zero_le _), rfl, q⟩

/-! ### list + list, list += list, list * int -/
def rCat : R2 := fun x y H Q => ∃ l b xs zs, x = .ref l ∧ y = .ref b ∧ H l = some (.lst xs) ∧ H b = some (.lst zs) ∧ xs.length + zs.length ≤ sizeLine ∧ ∀ p, H p = none → Q (.ref p) (upd H p (.lst (xs ++ zs)))
theorem op_cat : OpR X (binaryOp .Add) rCat := by
  intro pins s σ H x y v u Q I rx ry h
  obtain ⟨l, b, xs, zs, rfl, rfl, hH, hB, hz, q⟩ := h
  cases rx
  cases ry
  obtain ⟨z, its, n, r, hl, e⟩ := I.lstM hH
  obtain ⟨z2, its2, n2, r2, hl2, e2⟩ := I.lstM hB
  refine PySem.P.add_list e e2 ?_ (by rw [List.size_toArray, List.size_toArray]; omega)
  have ea : its.toArray ++ its2.toArray = (its ++ its2).toArray := by simp
  rw [ea]
  exact ⟨.ref _, _, I.lnew (t' := s.toks) (r.append r2) (by rw [List.length_append]; omega), rfl, q _ I.fresh⟩
/-- a list times an int (a negative one is nothing) -/
def rRep : R2 := fun x y H Q => ∃ l k xs, x = .ref l ∧ y = .int k ∧ H l = some (.lst xs) ∧ -(2 ^ 63) ≤ k ∧ k < 2 ^ 63 ∧ xs.length * k.toNat ≤ sizeLine ∧
  ∀ p, H p = none → Q (.ref p) (upd H p (.lst (List.replicate k.toNat xs).flatten))
theorem len_rep {α : Type} (xs : List α) (k : Nat) : (List.replicate k xs).flatten.length = k * xs.length := by
  induction k with
  | zero => simp
  | succ k ih => rw [List.replicate_succ, List.flatten_cons, List.length_append, ih, Nat.succ_mul, Nat.add_comm]
theorem op_rep : OpR X (binaryOp .Mult) rRep := by
  intro pins s σ H x y v u Q I rx ry h
  obtain ⟨l, k, xs, rfl, rfl, hH, h1, h2, hz, q⟩ := h
  cases rx
  obtain ⟨t, rfl⟩ := ry
  obtain ⟨z, its, n, r, hl, e⟩ := I.lstM hH
  have hlen : its.toArray.size * k.toNat ≤ sizeLine := by rw [List.size_toArray, ← hl]; exact hz
  have hcap : ¬ its.toArray.size * k.toNat > (2 ^ 63 - 1) / 8 := by
    have : (sizeLine : Nat) ≤ (2 ^ 63 - 1) / 8 := by decide
    omega
  have hfit : ¬ (!Builtin.List.listFitsIndex k) = true := by
    rw [fitsIndex_both h1 h2]
    exact Bool.false_ne_true
  have hlong : ¬ Builtin.List.listTooLong (its.toArray.size * k.toNat) = true := by
    rw [notLongL hlen]
    exact Bool.false_ne_true
  have hnew : List.foldl (fun x1 x2 => x1 ++ x2) #[] (List.replicate (if its.toArray.isEmpty = true then 0 else k.toNat) its.toArray) = (List.replicate k.toNat its).flatten.toArray := by
    have f0 : ∀ m : Nat, List.foldl (fun x1 x2 => x1 ++ x2) #[] (List.replicate m its.toArray) = (List.replicate m its).flatten.toArray := fun m => by
      have := foldl_rep its m []
      rw [List.nil_append] at this
      exact this
    rw [f0]
    cases its with
    | nil => simp
    | cons a r' => rw [if_neg (by simp)]
  refine wpAny_binaryOp_repeat_ref (T := "list") (U := "int") (by decide) ⟨_, e, rfl⟩ (fun s' => typeIs_int s' k t) noFill_list_mul F.fills_int_mul F.slot_int_rmul repeat_list F.slot_int_index.lookup
    (call_meets F.slot_int_rmul (typeIs_int s k t) F.entry_int_rmul (F.args_int_rmul_2 _ _) (int___rmul___int_list k t l its.toArray n)
      ⟨e, rfl, ⟨_, e, rfl⟩, call_meets F.slot_list_mul ⟨_, e, rfl⟩ F.entry_list_mul (F.args_list_mul_2 _ _) (AutoListH.list___mul___list_int_3 l its.toArray n k t hfit hcap hlong) ⟨e, ?_⟩⟩)
  rw [hnew]
  exact ⟨.ref _, _, I.lnew (t' := s.toks) (r.rep k.toNat) (by rw [len_rep, Nat.mul_comm]; exact hz), rfl, q _ I.fresh⟩

/-! ### del xs[i] -/
theorem del_list {pins : List (Addr × Obj)} {s : Shared} {σ : St} {H : Hp} {l : Addr} {xs : List V} {i : Int} {t : Tok} {k : Nat} {Q : Unit → Shared → Prop} (I : Inv X pins σ H s) (hH : H l = some (.lst xs))
    (h1 : -(2 ^ 63) ≤ i) (h2 : i < 2 ^ 63) (hk : seqIndex? i xs.length = some k) (h : ∀ s', Inv X pins σ (upd H l (.lst (xs.eraseIdx k))) s' → Q () s') :
    wpAny (model X.prog X.w) X.A (delItem (.ref l) (.int i t)) Q X.xe s := by
  obtain ⟨z, its, n, r, hl, e⟩ := I.lstM hH
  refine PySem.P.delItem_list (k := k) e (fitsIndex_both h1 h2) (by rw [List.size_toArray, ← hl]; exact hk) (h _ ?_) (by rw [List.size_toArray]; omega)
  refine I.lset (its' := its.eraseIdx k) (t' := s.toks) hH e ?_ (r.eraseIdx k) ?_
  · show its.toArray.eraseIdxIfInBounds k = (its.eraseIdx k).toArray
    rw [List.eraseIdxIfInBounds_toArray]
  · have := len_erase xs k
    omega
end

/-! ### xs[a:b] = ys -/
section
variable {prog : Program} {w : World} {A : Around} {E : Value → Shared → Prop} {s : Shared}
theorem splice_eq (its its2 : List Value) (a c : Nat) : its.toArray.extract 0 a ++ its2.toArray ++ its.toArray.extract c its.toArray.size = (its.take a ++ its2 ++ its.drop c).toArray := by
  apply Array.toList_inj.mp
  first
    | (simp
       exact List.take_of_length_le (by simp))
    | simp [List.take_of_length_le]
    | simp
theorem bounds_run {a c n : Nat} (hac : a ≤ c) (hc : c ≤ n) : sliceBounds (some (a : Int)) (some (c : Int)) none n = ((a : Int), (c : Int), 1) := by
  simp only [sliceBounds, Option.getD_none]
  have h1 : ¬ ((a : Int) < 0) := by omega
  have h2 : ¬ ((c : Int) < 0) := by omega
  simp only [h1, h2, if_false, show (1 : Int) > 0 by decide, if_true]
  congr 1
  · omega
  · congr 1; omega
set_option maxRecDepth 100000 in
/-- list.__setitem__ with a slice of step one and another list -/
theorem setItem_slice {l b sl : Addr} {items new : Array Value} {n n2 : Nat} {vl vu : Value} {a c : Nat} {Q : Unit → Shared → Prop}
    (e : s.heap.get? l = some { cls := .type "list", data := .seq items n }) (e2 : s.heap.get? b = some { cls := .type "list", data := .seq new n2 }) (hne : l ≠ b)
    (hs : s.heap.IsSliceOf sl vl vu .none) (pl : IsPart vl (some (a : Int))) (pu : IsPart vu (some (c : Int))) (hac : a ≤ c) (hc : c ≤ items.size)
    (hsz : items.size + new.size ≤ sizeLine) (h : Q () { s with heap := s.heap.update l (Obj.mapSeq fun xs => xs.extract 0 a ++ new ++ xs.extract c xs.size) }) :
    wpAny (model prog w) A (setItem (.ref l) (.ref sl) (.ref b)) Q E s := by
  have hl : s.heap.IsList l items := PySem.IsL.isList e
  have hb : s.heap.IsList b new := PySem.IsL.isList e2
  obtain ⟨os, hos, hcs, hds⟩ := id hs
  have hTs : s.TypeIs (.ref sl) "slice" := ⟨os, hos, hcs⟩
  have hstep : ¬ ((rawPart none == rawInt 0) = true) := Bool.false_ne_true
  have hsame : Builtin.List.listSameRef (.ref l) (.ref b) = false := by
    unfold Builtin.List.listSameRef
    exact beq_eq_false_iff_ne.mpr hne
  have hmax : (max (a : Int) (c : Int)).toNat = c := by omega
  have hz' : ((fun xs : Array Value => xs.extract 0 a ++ new ++ xs.extract c xs.size) items).size ≤ sizeLine + 1 := by
    simp only [Array.size_append, Array.size_extract]
    omega
  unfold setItem
  try with_reducible refine wpAny_holding ?_
  first | refine wpAny_bind (wpAny_pure ?_) | skip
  refine wpAny_bind (wpAny_sequenceKey hl.typeIs (by decide) ?_)
  refine wpAny_bind (wpAny_callSpecial?_slot (name := Str.ofString "__setitem__") hl.typeIs slot_list_setitem
    (wpAny_call_entry slot_list_setitem hl.typeIs entry_list_setitem ?_ (args_list_setitem _ _ _)))
  show wpAny _ _ (Builtin.List.listSubscript? (.ref sl) >>= _) _ _ s
  refine wpAny_bind ?_
  unfold Builtin.List.listSubscript?
  refine wpAny_bind (wpAny_specialOf hTs slice_no_index ?_)
  simp only [Option.isNone_none, if_true]
  refine wpAny_pure ?_
  show wpAny _ _ (typeOf (.ref sl) >>= _) _ _ s
  refine wpAny_bind (wpAny_typeOf hTs ?_)
  first
    | rw [if_neg (by decide)]
    | refine PySem.W.KFB.if_not (by decide) ?_
  rw [listSliceParts_eq]
  refine wpAny_bind (wpAny_bind (wpAny_field hos hds (x := .none) rfl (wpAny_bind (wpAny_listPart .none ?_))))
  rw [if_neg hstep]
  refine wpAny_bind (wpAny_field hos hds (x := vl) rfl (wpAny_bind (wpAny_listPart pl ?_)))
  refine wpAny_bind (wpAny_field hos hds (x := vu) rfl (wpAny_bind (wpAny_listPart pu (wpAny_pure ?_))))
  first
    | simp only [hsame, Bool.false_eq_true, if_false]
    | refine PySem.W.KFB.if_not hsame ?_
    | (dsimp only
       rw [if_neg (by rw [hsame]; exact Bool.false_ne_true)])
  refine wpAny_bind (m := Builtin.List.listAllItems (.ref b) "must assign iterable to extended slice") ?_
  unfold Builtin.List.listAllItems
  refine wpAny_bind (wpAny_typeOf hb.typeIs ?_)
  first
    | refine PySem.W.KFB.if_so (by decide) ?_
    | rw [if_pos (by decide)]
    | simp only [beq_self_eq_true, Bool.true_or, if_true]
  unfold Builtin.List.listItems
  refine wpAny_bind (wpAny_seqItems e2 rfl (wpAny_pure ?_))
  refine wpAny_bind (wpAny_bind (wpAny_seqItems e rfl (wpAny_pure ?_)))
  refine wpAny_bind (wpAny_of_eq ((sliceIndices_raw (some (a : Int)) (some (c : Int)) none items.size (by simp)).trans (congrArg (pure : Int × Int × Int → Sem (Int × Int × Int)) (bounds_run hac hc))) ?_)
  show wpAny _ _ (if ((1 : Int) == 1) = true then _ else _) _ _ s
  rw [if_pos (by decide)]
  refine wpAny_bind (wpAny_rule ?_)
  first
    | simp only [notLongL hsz, Bool.false_eq_true, if_false]
    | refine PySem.W.KFB.if_not (notLongL hsz) ?_
  first | refine wpAny_bind (wpAny_pure ?_) | skip
  show wpAny _ _ (updateSeq l (fun xs => xs.extract 0 ((a : Int)).toNat ++ new ++ xs.extract (max (a : Int) (c : Int)).toNat xs.size) >>= _) _ _ s
  rw [hmax, Int.toNat_natCast]
  refine wpAny_bind (wpAny_updateSeq (hz := Nat.le_trans (Nat.le_add_right _ _) hsz) (_hz' := hz') e rfl ?_)
  refine wpAny_bind (wpAny_letGo ?_)
  first
    | exact wpAny_bind (wpAny_pure (wpAny_pure ⟨.none, rfl, wpAny_pure h⟩))
    | exact wpAny_pure ⟨.none, rfl, wpAny_pure h⟩
end

section
variable {X : Cx}
/-- xs[a:c] = ys of another list, at the value level: sl is the slice object that was just made -/
theorem set_slice {pins : List (Addr × Obj)} {s : Shared} {σ : St} {H : Hp} {l b sl : Addr} {xs ys : List V} {a c : Int} {vl vu : Value} {Q : Unit → Shared → Prop} (I : Inv X pins σ H s)
    (hH : H l = some (.lst xs)) (hB : H b = some (.lst ys)) (hne : l ≠ b) (hs : s.heap.IsSliceOf sl vl vu .none) (ra : RelV (.int a) vl) (rc : RelV (.int c) vu) (h0 : 0 ≤ a) (hac : a ≤ c) (hc : c ≤ xs.length)
    (hz : xs.length + ys.length ≤ sizeLine) (h : ∀ s', Inv X pins σ (upd H l (.lst (xs.take a.toNat ++ ys ++ xs.drop c.toNat))) s' → Q () s') :
    wpAny (model X.prog X.w) X.A (setItem (.ref l) (.ref sl) (.ref b)) Q X.xe s := by
  obtain ⟨ta, rfl⟩ := ra
  obtain ⟨tc, rfl⟩ := rc
  obtain ⟨z, its, n, r, hl, e⟩ := I.lstM hH
  obtain ⟨z2, its2, n2, r2, hl2, e2⟩ := I.lstM hB
  obtain ⟨a', rfl⟩ := Int.eq_ofNat_of_zero_le h0
  obtain ⟨c', rfl⟩ := Int.eq_ofNat_of_zero_le (Int.le_trans h0 hac)
  simp only [Int.toNat_natCast] at h
  refine setItem_slice (a := a') (c := c') e e2 hne hs (.int _ _) (.int _ _) (by omega) (by rw [List.size_toArray]; omega) (by rw [List.size_toArray, List.size_toArray]; omega) (h _ ?_)
  refine I.lset (its' := its.take a' ++ its2 ++ its.drop c') (t' := s.toks) hH e ?_ (Vals.append (Vals.append (r.take _) r2) (r.drop _)) ?_
  · exact splice_eq its its2 a' c'
  · rw [List.length_append, List.length_append, List.length_take, List.length_drop]
    omega
end
end L2

namespace Att
open PySem PySem.W PySem.Calls PyProof.Rows

/-! ### the script -/
theorem ints_of_wellAll {P : Params} {h : Heap} : ∀ (ns : List Int) (vs : List Value), WellAll P h vs (ns.map WData.int) → IntsAre vs ns := by
  intro ns
  induction ns with
  | nil =>
    intro vs w
    rw [List.map_nil] at w
    cases w
    exact .nil
  | cons n ns ih =>
    intro vs w
    rw [List.map_cons] at w
    cases w with
    | cons a b =>
      cases a
      exact .cons _ _ (ih _ b)

theorem script_of {l : OpenLaw} {n : Nat} (hn : l.most = some n) {P : Params} {h : Heap} {args : List WData} {vals : List Value}
    (hpre : l.row.toRowW.claim.pre args = true) (hwl : WellAll P h vals args) :
    ∃ a vs ns, vals = [Value.ref a] ∧ args = [WData.list (ns.map WData.int)] ∧ h.get? a = some { cls := .type "list", data := .seq vs.toArray } ∧ IntsAre vs ns ∧ ns.length ≤ n := by
  have hsh : WShape.hasAll [] args [.list .int] = true := (pre_splitW hpre).1
  have hc : l.pre.holds [] { args := args } = true := (pre_splitW hpre).2
  obtain ⟨d, r, rfl, h1, h2⟩ := hasAllW_cons hsh
  obtain rfl := hasAllW_nil h2
  obtain ⟨xs, rfl, h3⟩ := hasW_list h1
  obtain ⟨ns, rfl⟩ := items_int h3
  have hlen : ns.length ≤ n := by
    unfold OpenLaw.pre at hc
    have h4 : (WTm.not (.lt (.lit (.int (n : Int))) (.len (.arg 0)))).holds [] { args := [.list (ns.map .int)] } = true := by
      have h4 := (holds_andW hc).1
      rw [hn] at h4
      exact h4
    have h5 := condW_of h4 (w_not (w_lt w_lit (w_len_list (w_arg rfl))))
    rw [List.length_map] at h5
    refine Nat.le_of_not_lt fun q => ?_
    have q' : (n : Int) < ((ns.length : Nat) : Int) := by omega
    first
      | (rw [decide_eq_true q'] at h5; exact absurd h5 (by decide))
      | (simp at h5; omega)
  cases hwl with
  | cons w1 w2 =>
    cases w2
    cases w1 with
    | list ho hall => exact ⟨_, _, ns, rfl, rfl, ho, ints_of_wellAll ns _ hall, hlen⟩

theorem post_true (l : OpenLaw) (args : List WData) : l.row.toRowW.claim.post args (.bool true) args = true :=
  postW_of (r := l.row.toRowW) (X := (true == true))
    (show WShape.has [] (.bool true) .bool = true by first | rfl | decide | simp [WShape.has, WShape.arms, WShape.armsAll])
    (show (WTm.eq .res (.lit (.bool true))).value [] { args := args, res := some (.bool true), after := args } = some (.bool (true == true)) from w_eq_bool (w_res rfl) w_lit) rfl

/-! ### the attachment: holds_open's last premise (the goal 'hc' behind k_head) from a wpAny of the law's body -/
theorem attach {l : OpenLaw} {n : Nat} {q : Program} {loose : List Str} {XP : (Str → Option Value) → Heap → Prop} {YP : World → Heap → Prop} {d : DefRec} {x : Str}
    (hn : l.most = some n) (hdf : d.params.defaults = [])
    (hbind : ∀ pm cd doc v : Value, bindArgs (docDef d.name d.params d.body d.scope pm cd doc) ⟨[v], []⟩ = pure [(x, v)])
    (hx : d.scope.names.lookup x = some .local ∨ d.scope.names.lookup x = some .cell)
    (hk : d.scope.kind = .function) (hco : d.scope.isCoroutine = false) (hgen : d.scope.isGenerator = false)
    (body : ∀ (w : World) (s₀ s₁ s : Shared) (mg mb : Str → Option Value) (fa : Addr) (o : Obj) (pm cd doc : Value) (a : Addr) (vs : List Value) (ns : List Int),
      Ground q loose [] XP w s₀ mg mb s₁.heap → YP w s₁.heap →
      s₁.heap.get? fa = some o → o.data = .func (docDef d.name d.params d.body d.scope pm cd doc) → s₁.heap.CodeRec cd d.name → mg d.name = some (.ref fa) →
      s₁.heap.get? a = some { cls := .type "list", data := .seq vs.toArray } → IntsAre vs ns → ns.length ≤ n →
      s.gens = #[] → s.os = s₁.os →
      Fr s₁.heap s₁.heap.objs.size s.heap (bindL (envOfC d.name d.scope s₁.heap.objs.size fa cd).kindOf [(x, .ref a)] fun _ => none) →
      Cl s₁.heap.objs.size (cellsFrom (s₁.heap.objs.size + 1) d.scope.names []) s.heap (bindC (envOfC d.name d.scope s₁.heap.objs.size fa cd).kindOf [(x, .ref a)] fun _ => none) →
      wpAny (model l.prog w) (callerA.deeper (envOfC d.name d.scope s₁.heap.objs.size fa cd)) (execs d.body (envOfC d.name d.scope s₁.heap.objs.size fa cd))
        (fun f s' => f = .ret (.bool true) ∧ OldK s₁.heap s'.heap ∧ s'.os = s₁.os ∧ AllBare s'.gens) (fun _ _ => False) s) :
    WalkO q loose XP YP l.row.toRowW d [] (fun f vs => PySem.call f vs) := by
  intro w s₀ s₁ mg mb G Y fa o pm cd doc dV kV ho hd hcd hD hmg hg args vals as hpre hlay hrd hwl hlo
  obtain rfl : dV = .none := Dflts.none hD hdf
  obtain rfl : kV = .none := Dflts.noKw hD
  obtain ⟨a, vs, ns, rfl, rfl, hobj, hints, hlen⟩ := script_of hn hpre hwl
  refine enter_call ?_
  refine call_cells_ret (o := o) (by rw [depth_caller]; decide) ho (fd_plain hd) G.T.nolimit hcd (hbind pm cd doc (.ref a)) (fun y hy => ?_) (fun h₁ tk F X => ?_) hco hgen hk
  · obtain rfl : y = (x, Value.ref a) := List.mem_singleton.mp hy
    rcases hx with e | e
    · exact .inl e
    · exact .inr ⟨e, cellsFrom_some _ _ _ (.inl e)⟩
  · refine wpAny_mono (body w s₀ s₁ { s₁ with heap := h₁, toks := tk } mg mb fa o pm cd doc a vs ns G Y ho (fd_plain hd) hcd hmg hobj hints hlen hg rfl F X) (fun f s' hq => ?_) (fun _ _ hq => hq)
    obtain ⟨rfl, h2, h3, h4⟩ := hq
    exact ⟨.inl ⟨.bool true, .bool true, [], rfl, fun _ => rfl, .bool true, post_true l _, fun _ => ⟨List.Pairwise.nil, fun _ hm => (nomatch hm)⟩⟩, h2, h3, h4⟩

/-- the same from a codeAny of the CALL (for a layer whose function contracts speak of calls) -/
theorem attach_call {l : OpenLaw} {n : Nat} {q : Program} {loose : List Str} {XP : (Str → Option Value) → Heap → Prop} {YP : World → Heap → Prop} {d : DefRec}
    (hn : l.most = some n) (hdf : d.params.defaults = [])
    (call : ∀ (w : World) (s₀ s₁ : Shared) (mg mb : Str → Option Value) (fa : Addr) (o : Obj) (pm cd doc : Value) (a : Addr) (vs : List Value) (ns : List Int),
      Ground q loose [] XP w s₀ mg mb s₁.heap → YP w s₁.heap →
      s₁.heap.get? fa = some o → o.data = .func (docDef d.name d.params d.body d.scope pm cd doc) → s₁.heap.CodeRec cd d.name → mg d.name = some (.ref fa) →
      s₁.heap.get? a = some { cls := .type "list", data := .seq vs.toArray } → IntsAre vs ns → ns.length ≤ n → s₁.gens = #[] →
      codeAny (model l.prog w) callerA (.call (.ref fa) ⟨[.ref a], []⟩) (fun r s' => r = .ok (.ret (.bool true)) ∧ OldK s₁.heap s'.heap ∧ s'.os = s₁.os ∧ AllBare s'.gens) s₁) :
    WalkO q loose XP YP l.row.toRowW d [] (fun f vs => PySem.call f vs) := by
  intro w s₀ s₁ mg mb G Y fa o pm cd doc dV kV ho hd hcd hD hmg hg args vals as hpre hlay hrd hwl hlo
  obtain rfl : dV = .none := Dflts.none hD hdf
  obtain rfl : kV = .none := Dflts.noKw hD
  obtain ⟨a, vs, ns, rfl, rfl, hobj, hints, hlen⟩ := script_of hn hpre hwl
  refine enter_call (codeAny_mono (call w s₀ s₁ mg mb fa o pm cd doc a vs ns G Y ho (fd_plain hd) hcd hmg hobj hints hlen hg) fun r s' hq => ?_)
  obtain ⟨rfl, h2, h3, h4⟩ := hq
  exact ⟨.inl ⟨.bool true, .bool true, [], rfl, fun _ => rfl, .bool true, post_true l _, fun _ => ⟨List.Pairwise.nil, fun _ hm => (nomatch hm)⟩⟩, h2, h3, h4⟩

/-- the same where the top left finished generators (o_head chose holds_openN): nothing may have changed at all and no generator may be left -/
theorem attachN {l : OpenLaw} {n : Nat} {q : Program} {loose : List Str} {XP : (Str → Option Value) → Heap → Prop} {YP : World → Heap → Prop} {d : DefRec} {x : Str}
    (hn : l.most = some n) (hdf : d.params.defaults = [])
    (hbind : ∀ pm cd doc v : Value, bindArgs (docDef d.name d.params d.body d.scope pm cd doc) ⟨[v], []⟩ = pure [(x, v)])
    (hx : d.scope.names.lookup x = some .local ∨ d.scope.names.lookup x = some .cell)
    (hk : d.scope.kind = .function) (hco : d.scope.isCoroutine = false) (hgen : d.scope.isGenerator = false)
    (body : ∀ (w : World) (s₀ s₁ s : Shared) (mg mb : Str → Option Value) (fa : Addr) (o : Obj) (pm cd doc : Value) (a : Addr) (vs : List Value) (ns : List Int),
      Ground q loose [] XP w s₀ mg mb s₁.heap → YP w s₁.heap →
      s₁.heap.get? fa = some o → o.data = .func (docDef d.name d.params d.body d.scope pm cd doc) → s₁.heap.CodeRec cd d.name → mg d.name = some (.ref fa) →
      s₁.heap.get? a = some { cls := .type "list", data := .seq vs.toArray } → IntsAre vs ns → ns.length ≤ n →
      s.gens = #[] → s.os = s₁.os →
      Fr s₁.heap s₁.heap.objs.size s.heap (bindL (envOfC d.name d.scope s₁.heap.objs.size fa cd).kindOf [(x, .ref a)] fun _ => none) →
      Cl s₁.heap.objs.size (cellsFrom (s₁.heap.objs.size + 1) d.scope.names []) s.heap (bindC (envOfC d.name d.scope s₁.heap.objs.size fa cd).kindOf [(x, .ref a)] fun _ => none) →
      wpAny (model l.prog w) (callerA.deeper (envOfC d.name d.scope s₁.heap.objs.size fa cd)) (execs d.body (envOfC d.name d.scope s₁.heap.objs.size fa cd))
        (fun f s' => f = .ret (.bool true) ∧ (∀ b o, s₁.heap.get? b = some o → s'.heap.get? b = some o) ∧ s'.os = s₁.os ∧ s'.gens = #[]) (fun _ _ => False) s) :
    WalkN q loose XP YP l.row.toRowW d [] (fun f vs => PySem.call f vs) := by
  intro w s₀ s₁ mg mb G Y fa o pm cd doc dV kV ho hd hcd hD hmg hg args vals as hpre hlay hrd hwl hlo
  obtain rfl : dV = .none := Dflts.none hD hdf
  obtain rfl : kV = .none := Dflts.noKw hD
  obtain ⟨a, vs, ns, rfl, rfl, hobj, hints, hlen⟩ := script_of hn hpre hwl
  refine enter_callW ?_
  refine call_cells_ret (o := o) (by rw [depth_caller]; decide) ho (fd_plain hd) G.T.nolimit hcd (hbind pm cd doc (.ref a)) (fun y hy => ?_) (fun h₁ tk F X => ?_) hco hgen hk
  · obtain rfl : y = (x, Value.ref a) := List.mem_singleton.mp hy
    rcases hx with e | e
    · exact .inl e
    · exact .inr ⟨e, cellsFrom_some _ _ _ (.inl e)⟩
  · refine wpAny_mono (body w s₀ s₁ { s₁ with heap := h₁, toks := tk } mg mb fa o pm cd doc a vs ns G Y ho (fd_plain hd) hcd hmg hobj hints hlen hg rfl F X) (fun f s' hq => ?_) (fun _ _ hq => hq)
    obtain ⟨rfl, h2, h3, h4⟩ := hq
    exact ⟨.inl ⟨.bool true, .bool true, [], rfl, fun _ => rfl, .bool true, post_true l _, fun _ => ⟨List.Pairwise.nil, fun _ hm => (nomatch hm)⟩⟩, h2, h3, h4⟩

/-! ### rules over ANY heap (no ledger) from facts about the written part K: the library's own take a ledger (News) for what they write -/
section
variable {prog : Program} {w : World} {A : Around} {E : Value → Shared → Prop} {s : Shared} {K : Frag}

/-- a def of the module, or a method (qual 'C.m'), entered: the frame is the next address; cells behind it -/
theorem call_fn {R : Result → Shared → Prop} {name qual : Str} {params : Arguments} {body : List Stmt} {scope : Scope} {dV kV doc pm cdv ct oc : Value} {an od : Option Addr} {osl : Array (Option Value)} {f : Addr} {args : Args} {binds : List (Str × Value)}
    (X : K.In s.heap) (hlim : s.heap.NoLimit) (ho : K.lookup f = some ⟨oc, od, .func (fnOf name qual params body scope dV kV doc pm an cdv ct), osl⟩) (hcd : codeIn K cdv qual = true) (hroom : A.depth < recursionLimit)
    (hbind : BindsTo s (fnOf name qual params body scope dV kV doc pm an cdv ct) args binds)
    (hkind : (binds.all fun y => scope.names.lookup y.1 == some .local || scope.names.lookup y.1 == some .cell) = true)
    (h : ∀ s₁, InCallC s s.heap.objs.size (bindL (envOfC qual scope s.heap.objs.size f cdv).kindOf binds fun _ => none) (cellsFrom (s.heap.objs.size + 1) scope.names [])
        (bindC (envOfC qual scope s.heap.objs.size f cdv).kindOf binds fun _ => none) s₁ →
      wpAny (model prog w) (A.deeper (envOfC qual scope s.heap.objs.size f cdv)) (execs body (envOfC qual scope s.heap.objs.size f cdv))
        (fun fl s' => R (.ok (.ret (match fl with | .ret v => v | _ => .none))) s')
        (fun e s' => wpAny (model prog w) (A.deeper (envOfC qual scope s.heap.objs.size f cdv)) (leaving (envOfC qual scope s.heap.objs.size f cdv) e) (fun _ s'' => R (.error e) s'') (fun e' s'' => R (.error e') s'') s') s₁)
    (hco : scope.isCoroutine = false) (hgen : scope.isGenerator = false) (hk : scope.kind = .function) : codeAny (model prog w) A (.call (.ref f) args) R s := by
  refine codeAny_call_function hroom (X _ _ ho) rfl hco hgen rfl (codeRec_of X hcd) (hbind _ _ _ _ ?_)
  refine wpAny_newFunctionEnv_cells hk (kindsX hkind _) fun env he s₁ x => ?_
  subst he
  exact ⟨hlim.keeps x.toInCall.keep, codeAny_func (h s₁ x)⟩

/-- C(..): dict at size, instance at size + 1, then __init__ -/
theorem make_obj {R : Result → Shared → Prop} {C fI : Addr} {rest : List Value} {kw : List (Str × Value)}
    (X : K.In s.heap) (hm : makesIn K C = true) (hi : findIn K (.ref C) "__init__" = some (some (.ref fI))) (hf : isFn K (.ref fI) = true)
    (h : codeAny (model prog w) (A.under (.builtin "type.__call__" ⟨.ref C :: rest, kw⟩)) (.call (.ref fI) ⟨.ref (s.heap.objs.size + 1) :: rest, kw⟩) (InitBack (s.heap.objs.size + 1) R)
      { s with heap := (s.heap.push emptyDict).push (instObj C s.heap.objs.size) }) : codeAny (model prog w) A (.call (.ref C) ⟨rest, kw⟩) R s := by
  obtain ⟨hh, g, d, t, os⟩ := s
  exact make_core (makes_of X hm) (looks_findIn X hi) (fun self => bind_fn X self (beq_iff_eq.mp hf)) (.inl rfl) h

/-- x.name where the instance's dict holds the name and the class does not -/
theorem get_field {x C : Addr} {ox : Obj} {es : List DictEntry} {n : Nat} {name : Str} {expr : Bool} {v : Value} {Q : Value → Shared → Prop}
    (X : K.In s.heap) (I : PySem.W.InstAt s.heap x ox C (some (dictOf es n))) (hg : plainGet K C name = true) (hh : hasDictIn K C = true) (ha : findIn K (.ref C) name = some none)
    (hl : getL name es = some (some v)) (hv : handedIn v = true) (h : Q v { s with toks := s.toks + 1 }) : wpAny (model prog w) A (getAttr (.ref x) name expr) Q E s :=
  get_value X I (plainGet_of hg).1 (findObj_own hh ha rfl hl) hv h

/-- x.m(..): the method found in the class -/
theorem get_method {x C f : Addr} {ox : Obj} {es : List DictEntry} {n : Nat} {name : Str} {pl : Sem Bool} {Q : Value × List Value → Shared → Prop}
    (X : K.In s.heap) (I : PySem.W.InstAt s.heap x ox C (some (dictOf es n))) (hg : plainGet K C name = true) (hf : findIn K (.ref C) name = some (some (.ref f))) (ht : isFn K (.ref f) = true)
    (hl : getL name es = some none) (h : Q (.ref f, [.ref x]) s) : wpAny (model prog w) A (getMethod (.ref x) name pl) Q E s :=
  method_fn X I (plainGet_of hg).1 (plainGet_of hg).2 hf (beq_iff_eq.mp ht) (by show (lookIn name (dictOf es n)).map _ = _; rw [lookIn_dict, hl]; rfl) h

/-! the whole heap as the ledger: makes every rule that writes through a ledger a rule over any heap -/
def noObjs (h : Heap) : Heap := { h with objs := #[] }
theorem noObjs_get (h : Heap) (b : Addr) : (noObjs h).get? b = none := by
  cases e : (noObjs h).get? b with
  | none => rfl
  | some o => exact absurd (Heap.lt_size e) (Nat.not_lt_zero _)
def ledger (h : Heap) (L d : Addr) : List (Addr × Obj) := (List.range h.objs.size).filterMap fun a => if a = L ∨ a = d then none else (h.get? a).map fun o => (a, o)
theorem mem_ledger {h : Heap} {L d a : Addr} {o : Obj} : (a, o) ∈ ledger h L d ↔ a ≠ L ∧ a ≠ d ∧ h.get? a = some o := by
  unfold ledger
  rw [List.mem_filterMap]
  constructor
  · rintro ⟨b, _, e⟩
    split at e
    · cases e
    · rename_i hb
      obtain ⟨o', ho, e'⟩ := Option.map_eq_some_iff.mp e
      cases e'
      exact ⟨fun q => hb (.inl q), fun q => hb (.inr q), ho⟩
  · rintro ⟨n1, n2, ho⟩
    refine ⟨a, List.mem_range.mpr (Heap.lt_size ho), ?_⟩
    rw [if_neg (show ¬ (a = L ∨ a = d) from fun q => q.elim n1 n2), ho] <;> rfl
theorem news_ledger {h : Heap} {L d : Addr} {od : Obj} (hne : d ≠ L) (ho : h.get? d = some od) : News (noObjs h) L h ([] ++ (d, od) :: ledger h L d) := by
  rintro ⟨a, o⟩ hp
  rcases List.mem_cons.mp hp with e | hp
  · cases e
    exact ⟨ho, hne, noObjs_get _ _⟩
  · obtain ⟨n1, n2, e⟩ := mem_ledger.mp hp
    exact ⟨e, n1, noObjs_get _ _⟩
theorem fr_all {h : Heap} {L : Addr} {m : Str → Option Value} (n : h.Ns L m) : Fr (noObjs h) L h m :=
  ⟨n, fun b o e => (by rw [noObjs_get] at e; cases e), Nat.zero_le _⟩
/-- Upd of the head entry (for append_K, setItem_K ..) -/
theorem upd_ledger {h : Heap} {L d : Addr} {o o' : Obj} : Upd d o o' ((d, o) :: ledger h L d) ((d, o') :: ledger h L d) :=
  .head fun ⟨_, _⟩ hp => (mem_ledger.mp hp).2.1

/-- x.name = v over any heap: L is any namespace of the heap (the frame's, say): its map stays, its object is not told; all else but the dict stays -/
theorem set_field {x C dx L : Addr} {ox : Obj} {m : Str → Option Value} {es es' : List DictEntry} {n n' : Nat} {name : Str} {v : Value} {Q : Unit → Shared → Prop}
    (X : K.In s.heap) (I : PySem.W.InstAt s.heap x ox C (some (dictOf es n))) (hd : ox.dict = some dx) (hL : s.heap.Ns L m) (hne : dx ≠ L)
    (hs : findIn K (.ref C) "__setattr__" = some (some (.builtin "object.__setattr__"))) (hp : plainOver K C = true) (ht : takerIn K C name = some none) (hh : hasDictIn K C = true) (hl : (getL name es).isSome = true)
    (e : (putL name (PyData.keyHash w.params name) (.str name (s.toks + 1)) v es, putN name es n) = (es', n')) (hz : es'.length ≤ 1000)
    (h : ∀ h' : Heap, h'.Ns L m → h'.get? dx = some (dictOf es' n') → (∀ b o, b ≠ dx → b ≠ L → s.heap.get? b = some o → h'.get? b = some o) → Q () { s with heap := h', toks := s.toks + 2 }) :
    wpAny (model prog w) A (setAttr (.ref x) name v) Q E s := by
  obtain ⟨e1, e2⟩ := Prod.mk.inj e
  have hdx : s.heap.get? dx = some (dictOf es n) := by
    have := I.dict
    rw [hd] at this
    exact this
  refine set_plain X I hs (osa_dict (s := { s with toks := s.toks + 1 }) (h₀ := noObjs s.heap) (L := L) (m := m) (od := dictOf es n) (od' := dictOf es' n') (es := es') (n := n') (pre := []) (post := ledger s.heap L dx)
    (fr_all hL) (news_ledger hne hdx) X I hd hp ht hh hl (fun _ q => nomatch q) (fun ⟨_, _⟩ q => (mem_ledger.mp q).2.1) (by rw [putName_dict, e1, e2]) rfl hz fun h' F' N' => ?_)
  exact h h' F'.ns (N'.get (List.Mem.head _)) fun b o n1 n2 ho => N'.get (List.Mem.tail _ (mem_ledger.mpr ⟨n2, n1, ho⟩))
end
end Att

namespace L2
open PySem PySem.Spec PyProof.Rows

theorem vals_ints : ∀ {vs : List Value} {ns : List Int}, IntsAre vs ns → Vals (ns.map V.int) vs
  | _, _, .nil => .nil
  | _, _, .cons n t h => .cons ⟨t, rfl⟩ (vals_ints h)

/-- nothing is tracked but the script, known to the object (or it is an object of the module) -/
def Only (H : Hp) : Prop := ∀ b, H b = none ∨ ∃ o xs, H b = some (.frz o (.lst xs))

/-- THE HEAD: the law's promise, at the heap behind the top. F, the promise of the law's def, may use that base is part of the heap (so K.In base, base.Ns mainGlobals mg stand in Mod) -/
theorem law_call {P : Program} {w : World} {K : PySem.W.Frag} {mg mb : Str → Option Value} {CX : CXT} {k : Nat} {fa a : Addr} {fd : FuncData} {x : Str} {sp : Sp} {s₁ : Shared} {vs : List Value} {ns : List Int}
    (KX : K.In s₁.heap) (hns : s₁.heap.Ns mainGlobals mg) (hb : s₁.heap.Ns builtinsNs mb) (hbb : ∀ x : Str, x ≠ "__name__" → mb x = bootBuiltins x) (hlim : s₁.heap.NoLimit) (hg : s₁.gens = #[])
    (ha : s₁.heap.get? a = some { cls := .type "list", data := .seq vs.toArray }) (hi : IntsAre vs ns) (hl : ns.length ≤ sizeLine) (hr : Room k callerA)
    (F : ∀ base : Heap, K.In base → base.Ns mainGlobals mg → FnOk P w K mg base CX k fa fd [x] sp) (hbind : ∀ (s : Shared) (u : Value), BindsTo s fd ⟨[u], []⟩ [(x, u)])
    (hsp : ∀ H : Hp, Only H → SqL K H a (ns.map V.int) → sp [.ref a] H (fun v _ => v = .bl true) fun _ _ _ => False)
    (hCX : ∀ H e s', CX [] H s₁ (fun _ _ _ => False) e s' → False) :
    codeAny (model P w) callerA (.call (.ref fa) ⟨[.ref a], []⟩) (fun r s' => r = .ok (.ret (.bool true)) ∧ OldK s₁.heap s'.heap ∧ s'.os = s₁.os ∧ AllBare s'.gens) s₁ := by
  have rv := vals_ints hi
  have lenV := hi.length
  -- from an abstract heap in which nothing but the script may be tracked
  have core : ∀ H : Hp, Only H → SqL K H a (ns.map V.int) → HOk P w H s₁.heap → (∀ b, H b ≠ none → b = a) → (H a ≠ none → K.lookup a = none) →
      codeAny (model P w) callerA (.call (.ref fa) ⟨[.ref a], []⟩) (fun r s' => r = .ok (.ret (.bool true)) ∧ OldK s₁.heap s'.heap ∧ s'.os = s₁.os ∧ AllBare s'.gens) s₁ := by
    intro H hO hS hok hA hK
    have base_of : ∀ {b : Addr} {o : Obj}, s₁.heap.get? b = some o → H b = none → (hidT s₁.heap H).get? b = some o := fun e n => hidT_get e n
    have noA : ∀ {b : Addr} {o : Obj} {es : Array DictEntry} {ep : Nat}, s₁.heap.get? b = some o → o.data = .dict es ep → H b = none := fun {b o es ep} e d => by
      cases q : H b with
      | none => rfl
      | some u =>
        have e' : b = a := hA b (by rw [q]; simp)
        subst e'
        rw [ha] at e; cases e
        have d' : Data.seq vs.toArray _ = Data.dict es ep := d
        cases d'
    have nsK : ∀ {b : Addr} {m : Str → Option Value}, s₁.heap.Ns b m → (hidT s₁.heap H).Ns b m := fun {b m} ⟨o, es, ep, e, d, r⟩ => ⟨o, es, ep, base_of e (noA e d), d, r⟩
    have hKb : K.In (hidT s₁.heap H) := fun b o e => base_of (KX b o e) (by
      cases q : H b with
      | none => rfl
      | some u =>
        have e' : b = a := hA b (by rw [q]; simp)
        subst e'
        rw [hK (by rw [q]; simp)] at e; cases e)
    have hM : Mod K mg (hidT s₁.heap H) := ⟨hKb, nsK hns, ⟨mb, nsK hb, hbb⟩, let ⟨mc, h1, h2⟩ := hlim; ⟨mc, nsK h1, h2⟩⟩
    have e0 : Env0 P w K mg (hidT s₁.heap H) callerA [] s₁ H := ⟨rfl, hM, fun b o e => of_hidT e, Nat.le_of_eq (hidT_size _ _), trivial, fun b hb => absurd (show b ∈ ([] : List Addr) from hb) (by simp), hok, .of_eq hg⟩
    refine codeAny_mono ((F _ hKb (nsK hns)).run callerA [] s₁ H ⟨[.ref a], []⟩ [.ref a] [.ref a] _ _ hr e0 (hbind s₁ (.ref a)) (.cons rfl .nil) (hsp H hO hS)) fun r s' h => ?_
    cases r with
    | error e => exact (hCX H e s' h).elim
    | ok fl =>
      cases fl with
      | next => exact False.elim h
      | brk => exact False.elim h
      | cont => exact False.elim h
      | ret u =>
        obtain ⟨v, H', os, bare, un, hok', r', q⟩ := h
        have q' : v = .bl true := q
        subst q'
        obtain rfl : u = Value.bool true := r'
        refine ⟨rfl, OldK.of_keep fun b o e => ?_, os, bare⟩
        cases q : H b with
        | none => exact un.keep b o e q (by intro z; exact absurd (show b ∈ ([] : List Addr) from z) (by simp)) (by simp)
        | some u =>
          rcases hO b with z | ⟨ob, xs, z⟩
          · rw [q] at z; cases z
          · have z2 := un.frzs b ob _ z
            obtain ⟨e1, _⟩ := hok b _ z
            obtain ⟨e2, _⟩ := hok' b _ z2
            rw [e] at e1; cases e1
            exact e2
  cases hk : K.lookup a with
  | some o =>
    -- the script is one of the module's own objects
    have e := KX a o hk
    rw [ha] at e
    cases e
    refine core (fun _ => none) (fun _ => .inl rfl) (.inr ⟨_, vs.toArray, _, hk, rfl, rfl, rfl, by rw [List.size_toArray, lenV]; exact hl, by simpa using rv⟩) (fun b u z => by have z' : (none : Option HO) = some u := z; cases z') (fun b z => absurd rfl z) fun z => absurd rfl z
  | none =>
    refine core (fun b => if b = a then some (.frz { cls := .type "list", data := .seq vs.toArray } (.lst (ns.map V.int))) else none) (fun b => ?_) (.inl (.inr ⟨{ cls := .type "list", data := .seq vs.toArray }, if_pos rfl⟩)) (fun b u z => ?_) (fun b z => ?_) fun _ => hk
    · by_cases hb : b = a
      · exact .inr ⟨_, _, if_pos hb⟩
      · exact .inl (if_neg hb)
    · by_cases hb : b = a
      · have z' := (if_pos hb).symm.trans z
        cases z'
        subst hb
        exact ⟨ha, by rw [List.length_map]; exact hl, vs, _, rv, ha⟩
      · have z' := (if_neg hb).symm.trans z
        cases z'
    · by_cases hb : b = a
      · exact hb
      · exact absurd (if_neg hb) z
end L2

namespace L2
open PySem PySem.Spec PyProof.Rows

abbrev KOf {K : PySem.W.Frag} {h : Heap} (_ : K.In h) : PySem.W.Frag := K

/-- the goal that k_head leaves (case hc), from the law's promise. F gives the function object fd (K's own) once, then the promise over every base -/
theorem walk_of {l : PySem.W.OpenLaw} {n k : Nat} {q : Program} {loose : List Str} {XP : (Str → Option Value) → Heap → Prop} {YP : World → Heap → Prop} {d : DefRec} {K : Params → PySem.W.Frag} {CX : World → CXT} {sp : World → Sp} {x : Str}
    (hn : l.most = some n) (hn2 : n ≤ sizeLine) (hdf : d.params.defaults = []) (hr : Room k callerA)
    (hY : ∀ (w : World) (h : Heap), YP w h → (K w.params).In h)
    (F : ∀ (w : World) (mg : Str → Option Value) (fa : Addr) (h : Heap), (K w.params).In h → h.Ns mainGlobals mg → mg d.name = some (.ref fa) →
      ∃ fd : FuncData, (∀ (s : Shared) (u : Value), BindsTo s fd ⟨[u], []⟩ [(x, u)]) ∧
        ∀ base : Heap, (K w.params).In base → base.Ns mainGlobals mg → FnOk l.prog w (K w.params) mg base (CX w) k fa fd [x] (sp w))
    (hsp : ∀ (w : World) (H : Hp) (a : Addr) (ns : List Int), ns.length ≤ n → Only H → SqL (K w.params) H a (ns.map V.int) → sp w [.ref a] H (fun v _ => v = .bl true) fun _ _ _ => False)
    (hCX : ∀ (w : World) (H : Hp) (s : Shared) (e : Value) (s' : Shared), CX w [] H s (fun _ _ _ => False) e s' → False) :
    PySem.W.WalkO q loose XP YP l.row.toRowW d [] (fun f vs => PySem.call f vs) := by
  refine Att.attach_call hn hdf fun w s₀ s₁ mg mb fa o pm cd doc a vs ns G Y ho hd hcd hmg hobj hints hlen hg => ?_
  have KX := hY w _ Y
  obtain ⟨fd, hb, hF⟩ := F w mg fa _ KX G.T.g hmg
  exact law_call KX G.T.g G.T.b G.T.builtins G.T.nolimit hg hobj hints (Nat.le_trans hlen hn2) hr hF hb (fun H hO hS => hsp w H a ns hlen hO hS) fun H e s' => hCX w H s₁ e s'
/-- the same where the promise hangs on the written part alone: (sp := My.sp_law), no hole under a binder -/
theorem walk_ofK {l : PySem.W.OpenLaw} {n k : Nat} {q : Program} {loose : List Str} {XP : (Str → Option Value) → Heap → Prop} {YP : World → Heap → Prop} {d : DefRec} {K : Params → PySem.W.Frag} {CX : CXT} {sp : PySem.W.Frag → Sp} {x : Str}
    (hn : l.most = some n) (hn2 : n ≤ sizeLine) (hdf : d.params.defaults = []) (hr : Room k callerA)
    (hY : ∀ (w : World) (h : Heap), YP w h → (K w.params).In h)
    (F : ∀ (w : World) (mg : Str → Option Value) (fa : Addr) (h : Heap), (K w.params).In h → h.Ns mainGlobals mg → mg d.name = some (.ref fa) →
      ∃ fd : FuncData, (∀ (s : Shared) (u : Value), BindsTo s fd ⟨[u], []⟩ [(x, u)]) ∧
        ∀ base : Heap, (K w.params).In base → base.Ns mainGlobals mg → FnOk l.prog w (K w.params) mg base CX k fa fd [x] (sp (K w.params)))
    (hsp : ∀ (K : PySem.W.Frag) (H : Hp) (a : Addr) (ns : List Int), ns.length ≤ n → Only H → SqL K H a (ns.map V.int) → sp K [.ref a] H (fun v _ => v = .bl true) fun _ _ _ => False)
    (hCX : ∀ (H : Hp) (s : Shared) (e : Value) (s' : Shared), CX [] H s (fun _ _ _ => False) e s' → False) :
    PySem.W.WalkO q loose XP YP l.row.toRowW d [] (fun f vs => PySem.call f vs) :=
  walk_of (K := K) (CX := fun _ => CX) (sp := fun w => sp (K w.params)) hn hn2 hdf hr hY F (fun w H a ns h1 h2 h3 => hsp (K w.params) H a ns h1 h2 h3) fun _ H s e s' => hCX H s e s'
end L2

/- THE LAST THEOREM (shape; LID, My.* are yours):
   My.Adr: a structure of the addresses that your layer names (classes, functions); My.Txt K t: a structure (Prop) of the equations over K;
   My.txt_mk : {K} {implicit addresses ..} (e1 : nsIn K mainGlobals "law" = some (some (.ref f))) (e2 : K.lookup f = some ⟨oc, od, .func (fnOf "law" "law" params body scope dV kV doc pm an cdv ct), sl⟩) (e3 : codeIn K cdv "law" = true) .. : ∃ t, My.Txt K t

set_option maxRecDepth 100000 in
set_option maxHeartbeats 0 in
theorem PySem.Challenge.cw_LID_holds : PySem.Challenge.rw_LID.Holds := by
  w_on; o_law; k_head; (case hw => w_witness2)
  k_fill
  refine L2.walk_of (l := PySem.Challenge.rw_LID) (n := 63) (k := 40) (x := "script") (CX := fun w => ..) (sp := fun _ => My.sp_law) rfl (by decide) rfl ⟨rfl, by decide, by decide⟩ (fun w h Y => PySem.W.kIn_of Y) ?F ?S ?C
  case F =>
    intro w mg fa h KX G hmg
    have T : ∃ t, My.Txt (L2.KOf KX) t := by
      dsimp only [L2.KOf]                          -- K must stand as «<heap const> w.params» for k_is
      refine' My.txt_mk ?e1 ?e2 ?e3 ..
      (case e1 => PySem.W.k_is)                    -- in the order: a name -> its address -> its object -> its parts
      (case e2 => PySem.W.k_is)
      ..
    obtain ⟨t, T⟩ := T
    have e0 := hmg.symm.trans (PySem.W.mg_of KX G T.law)
    cases e0                                       -- fa is the law's own address
    exact ⟨_, fun s u => .of_eq rfl, fun base kb nb => My.law_fn T kb nb⟩     -- if «.of_eq rfl» comes too early: refine' ⟨_, ?b, fun base kb nb => My.law_fn T kb nb⟩; exact fun s u => .of_eq rfl
  case S => exact fun w H a ns hl hO hS => ..
  case C => exact ..
(the tactic k_is has no namespace: write k_is) -/

/-! SHORT WORDS over the layer: a def of the text, its body, what a loop and a test want. -/
namespace L2
open PySem PySem.Spec PyProof.Rows

/-! ### the text by places -/
/-- the j-th statement of a class's body -/
def inClass (s : Stmt) (j : Nat) : Stmt := match s with
  | .ClassDef _ _ _ body _ _ _ _ _ _ _ => body.getD j (.Pass ⟨0, 0, 0, 0⟩)
  | _ => .Pass ⟨0, 0, 0, 0⟩
def defArgs (s : Stmt) : Arguments := match s with
  | .FunctionDef _ a _ _ _ _ _ _ _ _ => a
  | _ => { posonlyargs := [], args := [], vararg := none, kwonlyargs := [], kw_defaults := [], kwarg := none, defaults := [] }
def defBody (s : Stmt) : List Stmt := match s with
  | .FunctionDef _ _ b _ _ _ _ _ _ _ => b
  | _ => []
def defScope (s : Stmt) : Scope := match s with
  | .FunctionDef _ _ _ _ _ _ sc _ _ _ => sc
  | _ => { kind := .function, names := [], isGenerator := false, isCoroutine := false }

/-! ### no exception leaves a def -/
abbrev CX0 : CXT := fun _ _ _ _ _ _ => False
abbrev E0 : XK := fun _ _ _ => False
theorem pass0 {X : Cx} : Passes CX0 X E0 := fun _ _ _ _ _ _ _ h => h.elim

/-! ### a def (or method) of the text as it stands behind the top -/
structure Fun (K : PySem.W.Frag) (x qual : Str) (st : Stmt) (f : Addr) (fd : FuncData) : Prop where
  ex : ∃ (oc : Value) (od : Option Addr) (kV doc pm : Value) (an : Option Addr) (cdv ct : Value) (osl : Array (Option Value)),
    fd = PySem.W.fnOf x qual (defArgs st) (defBody st) (defScope st) .none kV doc pm an cdv ct ∧ K.lookup f = some ⟨oc, od, .func fd, osl⟩ ∧ PySem.W.codeIn K cdv qual = true
  kp : PySem.W.keepIn K (.ref f) = true
section
variable {P : Program} {w : World} {K : PySem.W.Frag} {mg : Str → Option Value} {base : Heap}
/-- THE RULE for a def: its body as a term of rules, and the reading of that term -/
theorem Fun.ok {x qual : Str} {st : Stmt} {f : Addr} {fd : FuncData} {N ps : List Str} {k : Nat} {sp : Sp} (F : Fun K x qual st f fd) (S : FnScope N ps (defScope st)) (len : ∀ vs H Q E, sp vs H Q E → vs.length = ps.length)
    (hbody : ∀ (cdv : Value) (A : Around) (outer : List Env) (s : Shared) (H : Hp) (vs : List V) (Q : VK) (E : XK), Room k (A.deeper (envOfC qual (defScope st) s.heap.objs.size f cdv)) → sp vs H Q E →
      ∃ t, PSs (cxOf CX0 P w K mg base N qual (defScope st) f cdv A outer s H E).nox (defBody st) t ∧ t { nx := fun _ H' => Q .non H', rt := Q } (start N vs) H) : FnOk P w K mg base CX0 (k + 1) f fd ps sp := by
  obtain ⟨oc, od, kV, doc, pm, an, cdv, ct, osl, rfl, lk, hcd⟩ := F.ex
  refine fn_of lk hcd S len fun A outer s H vs Q E hr hsp => ?_
  obtain ⟨t, h, q⟩ := hbody cdv A outer s H vs Q E hr hsp
  exact ⟨t, h.nox, q⟩
/-- how its arguments bind (no defaults): h is «fun _ _ _ _ _ _ us hl => match us, hl with | [_, _], _ => rfl», one _ a parameter -/
theorem Fun.binds {x qual : Str} {st : Stmt} {f : Addr} {fd : FuncData} {ps : List Str} (F : Fun K x qual st f fd)
    (h : ∀ (kV doc pm : Value) (an : Option Addr) (cdv ct : Value) (us : List Value), us.length = ps.length → bindArgs (PySem.W.fnOf x qual (defArgs st) (defBody st) (defScope st) .none kV doc pm an cdv ct) ⟨us, []⟩ = pure (ps.zip us)) : Binds K fd ps [] := by
  obtain ⟨oc, od, kV, doc, pm, an, cdv, ct, osl, rfl, lk, hcd⟩ := F.ex
  exact .all (h kV doc pm an cdv ct)
theorem fun_mk {x qual : Str} {st : Stmt} {f : Addr} {oc : Value} {od an : Option Addr} {osl : Array (Option Value)} {kV doc pm cdv ct : Value} (l : K.lookup f = some ⟨oc, od, .func (PySem.W.fnOf x qual (defArgs st) (defBody st) (defScope st) .none kV doc pm an cdv ct), osl⟩)
    (c : PySem.W.codeIn K cdv qual = true) (k : PySem.W.keepIn K (.ref f) = true) : Fun K x qual st f (PySem.W.fnOf x qual (defArgs st) (defBody st) (defScope st) .none kV doc pm an cdv ct) := ⟨⟨oc, od, kV, doc, pm, an, cdv, ct, osl, rfl, l, c⟩, k⟩
end
theorem hu_of {A : Around} {k : Nat} (hr : Room k A) : A.units + 1 < cLine := Nat.lt_of_le_of_lt (Nat.add_le_add_left (by decide : 1 ≤ 64) _) hr.units
theorem small1000 {n : Nat} (h : n ≤ 1000) : n < sizeLine := Nat.lt_of_le_of_lt h (by decide)

/-! ### expressions in short: the name that stands in the i-th slot -/
section
variable {X : Cx}
theorem pv (i : Nat) {x : Str} {pos : Pos} (hN : X.N[i]? = some x := by rfl) (hv : Vis X.env.scope x := by first | exact Or.inl rfl | exact Or.inr (Or.inl rfl) | exact Or.inr (Or.inr rfl)) (hd : (x == ("__debug__" : Str)) = false := by decide)
    (hcd : (x == ("__classdict__" : Str)) = false := by decide) : PE X (.Name x pos) (tVar i) := pe_var hN hv hd hcd
end

/-! ### tests -/
theorem iteF {A B : Prop} (h : B) : if false = true then A else B := by
  rw [if_neg Bool.false_ne_true]
  exact h
theorem iteT {A B : Prop} (h : A) : if true = true then A else B := by
  rw [if_pos rfl]
  exact h
theorem ite2 {c A B : Prop} [Decidable c] (h1 : c → A) (h2 : ¬ c → B) : if c then A else B := by
  by_cases h : c
  · rw [if_pos h]
    exact h1 h
  · rw [if_neg h]
    exact h2 h
theorem iteNS {c A B : Prop} [Decidable c] (hc : c) (h : B) : if (!decide c) = true then A else B := by
  rw [decide_eq_true hc]
  exact iteF h

/-! ### heaps -/
/-- all that was tracked is as it was -/
def Same (H H' : Hp) : Prop := ∀ b o, H b = some o → H' b = some o
theorem Same.refl (H : Hp) : Same H H := fun _ _ h => h
theorem Same.trans {H H1 H2 : Hp} (a : Same H H1) (b : Same H1 H2) : Same H H2 := fun c o h => b c o (a c o h)
theorem Same.free {H H' : Hp} (e : Same H H') {l : Addr} (h : H' l = Option.none) : H l = Option.none := by
  cases q : H l with
  | none => rfl
  | some o =>
    rw [e l o q] at h
    cases h
theorem Same.seq {K : PySem.W.Frag} {H H' : Hp} {a : Addr} {xs : List V} (e : Same H H') (h : SqL K H a xs) : SqL K H' a xs := by
  rcases h with (h | ⟨o, h⟩) | h
  · exact .inl (.inl (e _ _ h))
  · exact .inl (.inr ⟨o, e _ _ h⟩)
  · exact .inr h

end L2

set_option Elab.async false
set_option linter.all false
set_option maxRecDepth 100000
namespace MM
open PySem PySem.Spec PyProof.Rows L2

/-! ### plain values and the plain heap -/
inductive PV where
  | non | bl (b : Bool) | int (i : Int) | str (x : Str) | tup (xs : List PV) | frl (xs : List PV) | loc (n : Nat)
/-- an exception: its class's name, its own values -/
structure MExc where
  cls : Str
  fs : List (Str × PV) := []
inductive MO where
  | lst (xs : List PV)
  | dic (kvs : List (PV × PV))
  | exc (x : MExc)
abbrev MH := List MO
abbrev PSt := List (Option PV)
inductive Out (α : Type) where
  | ok (a : α) (h : MH)
  | exc (x : MExc) (h : MH)
  | bad
def Out.bind {α β : Type} (o : Out α) (f : α → MH → Out β) : Out β := match o with
  | .ok a h => f a h
  | .exc x h => .exc x h
  | .bad => .bad
@[simp] theorem Out.bind_ok {α β : Type} (a : α) (h : MH) (f : α → MH → Out β) : (Out.ok a h).bind f = f a h := rfl
@[simp] theorem Out.bind_exc {α β : Type} (x : MExc) (h : MH) (f : α → MH → Out β) : (Out.exc x h).bind f = .exc x h := rfl
@[simp] theorem Out.bind_bad {α β : Type} (f : α → MH → Out β) : (Out.bad : Out α).bind f = .bad := rfl
inductive SOut where
  | nx (σ : PSt) (h : MH)
  | rt (v : PV) (h : MH)
  | bk (σ : PSt) (h : MH)
  | ct (σ : PSt) (h : MH)
  | exc (x : MExc) (σ : PSt) (h : MH)
  | rse (x : MExc) (σ : PSt) (h : MH)
  | bad
/-- Python's own operations raise nothing here -/
def Out.ne {α : Type} (o : Out α) : Out α := match o with
  | .exc _ _ => .bad
  | o => o
@[simp] theorem Out.ne_ok {α : Type} (a : α) (h : MH) : (Out.ok a h).ne = .ok a h := rfl
@[simp] theorem Out.ne_bad {α : Type} : (Out.bad : Out α).ne = .bad := rfl
@[simp] theorem Out.ne_ne {α : Type} (o : Out α) : o.ne.ne = o.ne := by cases o <;> rfl

/-! ### how they lie in the abstract heap -/
def SqF (K : PySem.W.Frag) (H : Hp) (a : Addr) (ys : List V) : Prop :=
  (∃ o, H a = some (.frz o (.lst ys))) ∨
    ∃ (o : Obj) (its : Array Value) (n : Nat), K.lookup a = some o ∧ o.cls = .type "list" ∧ o.dict = none ∧ o.data = .seq its n ∧ its.size ≤ sizeLine ∧ Vals ys its.toList
theorem SqF.sq {K : PySem.W.Frag} {H : Hp} {a : Addr} {ys : List V} (h : SqF K H a ys) : SqL K H a ys := by
  rcases h with h | h
  · exact .inl (.inr h)
  · exact .inr h
mutual
inductive RP (K : PySem.W.Frag) (ρ : List Addr) (H : Hp) : PV → V → Prop where
  | non : RP K ρ H .non .non
  | bl (b : Bool) : RP K ρ H (.bl b) (.bl b)
  | int (i : Int) : RP K ρ H (.int i) (.int i)
  | str (x : Str) : RP K ρ H (.str x) (.str x)
  | tup {xs : List PV} {a : Addr} {ys : List V} (s : SqT K H a ys) (r : RPs K ρ H xs ys) : RP K ρ H (.tup xs) (.ref a)
  | frl {xs : List PV} {a : Addr} {ys : List V} (s : SqF K H a ys) (r : RPs K ρ H xs ys) : RP K ρ H (.frl xs) (.ref a)
  | loc {n : Nat} {a : Addr} (e : ρ[n]? = some a) : RP K ρ H (.loc n) (.ref a)
inductive RPs (K : PySem.W.Frag) (ρ : List Addr) (H : Hp) : List PV → List V → Prop where
  | nil : RPs K ρ H [] []
  | cons {x : PV} {y : V} {xs : List PV} {ys : List V} (r : RP K ρ H x y) (t : RPs K ρ H xs ys) : RPs K ρ H (x :: xs) (y :: ys)
end
structure Le (ρ : List Addr) (H : Hp) (ρ' : List Addr) (H' : Hp) : Prop where
  pre : ∃ m, ρ' = ρ ++ m
  tup : ∀ a xs, H a = some (.tup xs) → H' a = some (.tup xs)
  frz : ∀ a o u, H a = some (.frz o u) → H' a = some (.frz o u)
theorem Le.refl (ρ : List Addr) (H : Hp) : Le ρ H ρ H := ⟨⟨[], by simp⟩, fun _ _ h => h, fun _ _ _ h => h⟩
theorem Le.trans {ρ ρ1 ρ2 : List Addr} {H H1 H2 : Hp} (a : Le ρ H ρ1 H1) (b : Le ρ1 H1 ρ2 H2) : Le ρ H ρ2 H2 := by
  obtain ⟨m, e⟩ := a.pre
  obtain ⟨m', e'⟩ := b.pre
  exact ⟨⟨m ++ m', by rw [e', e, List.append_assoc]⟩, fun c xs h => b.tup c xs (a.tup c xs h), fun c o u h => b.frz c o u (a.frz c o u h)⟩
theorem Le.get {ρ ρ' : List Addr} {H H' : Hp} (l : Le ρ H ρ' H') {n : Nat} {a : Addr} (e : ρ[n]? = some a) : ρ'[n]? = some a := by
  obtain ⟨m, e'⟩ := l.pre
  rw [e', List.getElem?_append_left (List.getElem?_eq_some_iff.mp e).1]; exact e
theorem Le.sqt {K : PySem.W.Frag} {ρ ρ' : List Addr} {H H' : Hp} (l : Le ρ H ρ' H') {a : Addr} {xs : List V} (h : SqT K H a xs) : SqT K H' a xs := by
  rcases h with (h | ⟨o, h⟩) | h
  · exact .inl (.inl (l.tup _ _ h))
  · exact .inl (.inr ⟨o, l.frz _ _ _ h⟩)
  · exact .inr h
theorem Le.sqf {K : PySem.W.Frag} {ρ ρ' : List Addr} {H H' : Hp} (l : Le ρ H ρ' H') {a : Addr} {xs : List V} (h : SqF K H a xs) : SqF K H' a xs := by
  rcases h with ⟨o, h⟩ | h
  · exact .inl ⟨o, l.frz _ _ _ h⟩
  · exact .inr h
section
variable {K : PySem.W.Frag} {ρ ρ' : List Addr} {H H' : Hp}
mutual
theorem RP.le (l : Le ρ H ρ' H') : ∀ {x : PV} {y : V}, RP K ρ H x y → RP K ρ' H' x y
  | _, _, .non => .non
  | _, _, .bl b => .bl b
  | _, _, .int i => .int i
  | _, _, .str x => .str x
  | _, _, .tup s r => .tup (l.sqt s) (RPs.le l r)
  | _, _, .frl s r => .frl (l.sqf s) (RPs.le l r)
  | _, _, .loc e => .loc (l.get e)
theorem RPs.le (l : Le ρ H ρ' H') : ∀ {xs : List PV} {ys : List V}, RPs K ρ H xs ys → RPs K ρ' H' xs ys
  | _, _, .nil => .nil
  | _, _, .cons r t => .cons (RP.le l r) (RPs.le l t)
end
theorem RPs.length : ∀ {xs : List PV} {ys : List V}, RPs K ρ H xs ys → xs.length = ys.length
  | _, _, .nil => rfl
  | _, _, .cons _ t => congrArg (· + 1) (RPs.length t)
theorem RPs.get : ∀ {xs : List PV} {ys : List V} {i : Nat} {x : PV}, RPs K ρ H xs ys → xs[i]? = some x → ∃ y, ys[i]? = some y ∧ RP K ρ H x y
  | _, _, _, _, .nil, e => by simp at e
  | _, _, 0, _, .cons r _, e => by simp at e; subst e; exact ⟨_, rfl, r⟩
  | _, _, i + 1, x, .cons _ t, e => by
    obtain ⟨u, h1, h2⟩ := RPs.get (i := i) (x := x) t (by simpa using e)
    exact ⟨u, by simpa using h1, h2⟩
theorem RPs.set {x : PV} {u : V} (r : RP K ρ H x u) : ∀ {xs : List PV} {us : List V} (i : Nat), RPs K ρ H xs us → RPs K ρ H (xs.set i x) (us.set i u)
  | _, _, _, .nil => .nil
  | _, _, 0, .cons _ t => .cons r t
  | _, _, i + 1, .cons q t => .cons q (RPs.set r i t)
theorem RPs.append : ∀ {xs ys : List PV} {us ws : List V}, RPs K ρ H xs us → RPs K ρ H ys ws → RPs K ρ H (xs ++ ys) (us ++ ws)
  | _, _, _, _, .nil, s => s
  | _, _, _, _, .cons r t, s => .cons r (RPs.append t s)
theorem RPs.take : ∀ {xs : List PV} {us : List V} (n : Nat), RPs K ρ H xs us → RPs K ρ H (xs.take n) (us.take n)
  | _, _, 0, _ => .nil
  | _, _, _ + 1, .nil => .nil
  | _, _, n + 1, .cons r t => .cons r (RPs.take n t)
theorem RPs.drop : ∀ {xs : List PV} {us : List V} (n : Nat), RPs K ρ H xs us → RPs K ρ H (xs.drop n) (us.drop n)
  | _, _, 0, r => r
  | _, _, _ + 1, .nil => .nil
  | _, _, n + 1, .cons _ t => RPs.drop n t
theorem RPs.ints : ∀ (ns : List Int), RPs K ρ H (ns.map PV.int) (ns.map V.int)
  | [] => .nil
  | n :: r => .cons (.int n) (RPs.ints r)
end
/-- an exception object of the class at C, with no values of its own -/
def ExcAt (a C : Addr) (h : Heap) : Prop := ∃ o vs, h.get? a = some o ∧ o.cls = .ref C ∧ o.data = .fields vs
abbrev MGl := Str → Option Value
def RO (K : PySem.W.Frag) (mg : MGl) (ρ : List Addr) (H : Hp) (a : Addr) : MO → Option HO → Prop
  | .lst xs, oh => ∃ ys, oh = some (.lst ys) ∧ RPs K ρ H xs ys
  | .dic kvs, oh => kvs = [] ∧ oh = some (.dK [])
  | .exc x, oh => x.fs = [] ∧ ∃ C, mg x.cls = some (.ref C) ∧ oh = some (.ext (ExcAt a C))
structure RH (K : PySem.W.Frag) (mg : MGl) (ρ : List Addr) (H : Hp) (h : MH) : Prop where
  len : ρ.length = h.length
  nd : ρ.Nodup
  at' : ∀ (n : Nat) (a : Addr) (o : MO), ρ[n]? = some a → h[n]? = some o → RO K mg ρ H a o (H a)
theorem RO.le {K : PySem.W.Frag} {mg : MGl} {ρ ρ' : List Addr} {H H' : Hp} {a : Addr} (l : Le ρ H ρ' H') {o : MO} {oh : Option HO} (r : RO K mg ρ H a o oh) : RO K mg ρ' H' a o oh := by
  cases o with
  | lst xs => obtain ⟨ys, e, r⟩ := r; exact ⟨ys, e, r.le l⟩
  | dic kvs => exact r
  | exc x => exact r
theorem RO.some {K : PySem.W.Frag} {mg : MGl} {ρ : List Addr} {H : Hp} {a : Addr} {o : MO} {oh : Option HO} (r : RO K mg ρ H a o oh) : oh ≠ none := by
  cases o with
  | lst xs => obtain ⟨ys, e, _⟩ := r; rw [e]; simp
  | dic kvs => obtain ⟨_, e⟩ := r; rw [e]; simp
  | exc x => obtain ⟨_, C, _, e⟩ := r; rw [e]; simp
theorem RO.plain {K : PySem.W.Frag} {mg : MGl} {ρ : List Addr} {H : Hp} {a : Addr} {o : MO} {oh : Option HO} (r : RO K mg ρ H a o oh) : (∀ xs, oh ≠ Option.some (.tup xs)) ∧ ∀ p u, oh ≠ Option.some (.frz p u) := by
  cases o with
  | lst xs => obtain ⟨ys, e, _⟩ := r; rw [e]; exact ⟨(fun _ z => nomatch z), (fun _ _ z => nomatch z)⟩
  | dic kvs => obtain ⟨_, e⟩ := r; rw [e]; exact ⟨(fun _ z => nomatch z), (fun _ _ z => nomatch z)⟩
  | exc x => obtain ⟨_, C, _, e⟩ := r; rw [e]; exact ⟨(fun _ z => nomatch z), (fun _ _ z => nomatch z)⟩
section
variable {K : PySem.W.Frag} {mg : MGl} {ρ : List Addr} {H : Hp} {h : MH}
theorem RH.obj (r : RH K mg ρ H h) {n : Nat} {a : Addr} (e : ρ[n]? = some a) : ∃ o, h[n]? = some o ∧ RO K mg ρ H a o (H a) := by
  have hn : n < h.length := by rw [← r.len]; exact (List.getElem?_eq_some_iff.mp e).1
  exact ⟨h[n], by simp [hn], r.at' n a _ e (by simp [hn])⟩
theorem RH.addr (r : RH K mg ρ H h) {n : Nat} {o : MO} (e : h[n]? = some o) : ∃ a, ρ[n]? = some a ∧ RO K mg ρ H a o (H a) := by
  have hn : n < ρ.length := by rw [r.len]; exact (List.getElem?_eq_some_iff.mp e).1
  exact ⟨ρ[n], by simp [hn], r.at' n _ o (by simp [hn]) e⟩
/-- a new tracked object -/
theorem RH.new (r : RH K mg ρ H h) {p : Addr} (hp : H p = none) {o : MO} {ho : HO} (hn : RO K mg ρ H p o (some ho)) : RH K mg (ρ ++ [p]) (upd H p ho) (h ++ [o]) ∧ Le ρ H (ρ ++ [p]) (upd H p ho) := by
  have hne : ∀ n a, ρ[n]? = some a → a ≠ p := fun n a e z => by
    obtain ⟨o', _, q⟩ := r.obj e
    rw [z, hp] at q
    exact q.some rfl
  have l : Le ρ H (ρ ++ [p]) (upd H p ho) := ⟨⟨[p], rfl⟩, fun a xs e => by rw [upd_ne (ne_of_none e hp)]; exact e, fun a ob u e => by rw [upd_ne (ne_of_none e hp)]; exact e⟩
  refine ⟨⟨by simp [r.len], ?_, fun n a o' e1 e2 => ?_⟩, l⟩
  · rw [List.nodup_append]
    refine ⟨r.nd, by simp, fun a ha b hb => ?_⟩
    obtain ⟨n, e⟩ := List.mem_iff_getElem?.mp ha
    have hb' : b = p := by simpa using hb
    rw [hb']; exact hne n a e
  · by_cases hlt : n < ρ.length
    · rw [List.getElem?_append_left hlt] at e1
      rw [List.getElem?_append_left (by rw [← r.len]; exact hlt)] at e2
      rw [upd_ne (hne n a e1)]
      exact (r.at' n a o' e1 e2).le l
    · rw [List.getElem?_append_right (by omega)] at e1
      rw [List.getElem?_append_right (by rw [← r.len]; omega)] at e2
      have hn0 : n - ρ.length = 0 := by
        rcases Nat.eq_zero_or_pos (n - ρ.length) with z | z
        · exact z
        · rw [List.getElem?_eq_none (by simp; omega)] at e1; cases e1
      rw [hn0] at e1
      have hn1 : n - h.length = 0 := by have := r.len; omega
      rw [hn1] at e2
      simp at e1 e2
      subst e1; subst e2
      rw [upd_same]
      exact hn.le l
/-- a tracked object is changed -/
theorem RH.put (r : RH K mg ρ H h) {n : Nat} {a : Addr} (e : ρ[n]? = some a) {o : MO} {ho : HO} (hn : RO K mg ρ H a o (some ho)) : RH K mg ρ (upd H a ho) (h.set n o) ∧ Le ρ H ρ (upd H a ho) := by
  obtain ⟨o0, _, q⟩ := r.obj e
  obtain ⟨q1, q2⟩ := q.plain
  have l : Le ρ H ρ (upd H a ho) := ⟨⟨[], by simp⟩, fun b xs z => by
      have : b ≠ a := by rintro rfl; exact q1 _ z
      rw [upd_ne this]; exact z, fun b ob u z => by
      have : b ≠ a := by rintro rfl; exact q2 _ _ z
      rw [upd_ne this]; exact z⟩
  refine ⟨⟨by simp [r.len], r.nd, fun m b o' e1 e2 => ?_⟩, l⟩
  by_cases hm : m = n
  · subst hm
    rw [e] at e1; cases e1
    rw [upd_same]
    have : m < h.length := by rw [← r.len]; exact (List.getElem?_eq_some_iff.mp e).1
    rw [List.getElem?_set_self this] at e2
    cases e2
    exact hn.le l
  · rw [List.getElem?_set_ne (fun z => hm z.symm)] at e2
    have hb : b ≠ a := by
      rintro rfl
      have h1 := List.getElem?_eq_some_iff.mp e
      have h2 := List.getElem?_eq_some_iff.mp e1
      obtain ⟨l1, g1⟩ := h1
      obtain ⟨l2, g2⟩ := h2
      exact hm ((List.getElem_inj r.nd).mp (g2.trans g1.symm))
    rw [upd_ne hb]
    exact (r.at' m b o' e1 e2).le l
/-- a new tuple -/
theorem RH.tup (r : RH K mg ρ H h) {p : Addr} (hp : H p = none) (ys : List V) : RH K mg ρ (upd H p (.tup ys)) h ∧ Le ρ H ρ (upd H p (.tup ys)) := by
  have hne : ∀ n a, ρ[n]? = some a → a ≠ p := fun n a e z => by
    obtain ⟨o', _, q⟩ := r.obj e
    rw [z, hp] at q
    exact q.some rfl
  have l : Le ρ H ρ (upd H p (.tup ys)) := ⟨⟨[], by simp⟩, fun a xs e => by rw [upd_ne (ne_of_none e hp)]; exact e, fun a ob u e => by rw [upd_ne (ne_of_none e hp)]; exact e⟩
  exact ⟨⟨r.len, r.nd, fun n a o e1 e2 => by rw [upd_ne (hne n a e1)]; exact (r.at' n a o e1 e2).le l⟩, l⟩
end

/-! ### states -/
def RS (K : PySem.W.Frag) (ρ : List Addr) (H : Hp) (σp : PSt) (σ : L2.St) : Prop :=
  σ.length = σp.length ∧ ∀ (i : Nat) (v : PV), σp[i]? = some (some v) → ∃ v', σ[i]? = some (some v') ∧ RP K ρ H v v'
theorem RS.le {K : PySem.W.Frag} {ρ ρ' : List Addr} {H H' : Hp} {σp : PSt} {σ : L2.St} (l : Le ρ H ρ' H') (r : RS K ρ H σp σ) : RS K ρ' H' σp σ :=
  ⟨r.1, fun i v e => by obtain ⟨v', e', q⟩ := r.2 i v e; exact ⟨v', e', q.le l⟩⟩
theorem RS.set {K : PySem.W.Frag} {ρ : List Addr} {H : Hp} {σp : PSt} {σ : L2.St} (r : RS K ρ H σp σ) (i : Nat) {v : PV} {v' : V} (q : RP K ρ H v v') : RS K ρ H (σp.set i (some v)) (σ.set i (some v')) := by
  refine ⟨by simp [r.1], fun j u e => ?_⟩
  by_cases hj : j = i
  · subst hj
    by_cases hl : j < σp.length
    · rw [List.getElem?_set_self hl] at e
      cases e
      exact ⟨v', List.getElem?_set_self (by rw [r.1]; exact hl), q⟩
    · rw [List.getElem?_eq_none (by simp; omega)] at e; cases e
  · rw [List.getElem?_set_ne (fun z => hj z.symm)] at e
    obtain ⟨u', e', q'⟩ := r.2 j u e
    exact ⟨u', by rw [List.getElem?_set_ne (fun z => hj z.symm)]; exact e', q'⟩

/-! ### what is wanted behind a step -/
/-- what a flying exception leaves as it was -/
def Cov (B : Heap) (fs : List Addr) (h : Heap) : Prop := ∀ b o, h.get? b = some o → b ∉ fs → ∃ ob, B.get? b = some ob
/-- an exception of the class at C that came from a callee flies through the frames l -/
def Fly (l : List Env) (H : Hp) (lim : Heap) (C ea : Addr) (h : Heap) : Prop :=
  ∃ B t, Heap.FlyingW B l ea (.ref C) (.ref t) h ∧ (∀ b o, H b = some o → ∃ ob, B.get? b = some ob) ∧ Cov B (frs l) lim ∧ H ea = none
/-- an exception of the class at C was made in this frame -/
def Made (H : Hp) (C ea : Addr) (h : Heap) : Prop := ∃ h0 args, Heap.MadeExcOf h0 h ea (.ref C) args ∧ (∀ b o, H b = some o → ∃ ob, h0.get? b = some ob)
/-- what the context's states bear: what stood at the entry, cells, pins -/
structure Bears (X : Cx) (h : Heap) : Prop where
  old : ∀ b o, X.s₀.heap.get? b = some o → b ∉ X.ex → ∃ o', h.get? b = some o'
  cell : ∀ x c, X.env.cells.lookup x = some c → ∃ o, h.get? c = some o
  pin : ∀ p ∈ X.pn, ∃ o, h.get? p.1 = some o
theorem Inv.bears {X : Cx} {pins : List (Addr × Obj)} {σ : L2.St} {H : Hp} {s : Shared} (I : Inv X pins σ H s) : Bears X s.heap :=
  ⟨fun b o e n => I.base.there b o e n, fun x c e => let ⟨_, o, eo, _⟩ := I.cell x c e; ⟨o, eo⟩, fun p hp => ⟨_, (I.pin p (List.mem_append_left _ hp)).1⟩⟩
/-- an exception leaves -/
def XP (X : Cx) (σp : PSt) (ρ : List Addr) (H : Hp) (x : MExc) (h : MH) : Prop := ∀ (ea C : Addr) (ρ' : List Addr) (H' : Hp) (σ' : L2.St) (s' : Shared) (lim : Heap), x.fs = [] → X.mg x.cls = some (.ref C) → Le ρ H ρ' H' → RH X.K X.mg ρ' H' h → RS X.K ρ' H' σp σ' →
  Inv X [] σ' H' s' → Bears X lim → Fly X.stack H' lim C ea s'.heap → X.xe (.ref ea) s'
/-- an exception is raised here -/
def XM (X : Cx) (σp : PSt) (ρ : List Addr) (H : Hp) (x : MExc) (h : MH) : Prop := ∀ (ea C : Addr) (ρ' : List Addr) (H' : Hp) (σ' : L2.St) (s' : Shared) (h0 : Heap) (args : List Value), x.fs = [] → X.mg x.cls = some (.ref C) → Le ρ H ρ' H' → RH X.K X.mg ρ' H' h → RS X.K ρ' H' σp σ' →
  Inv X [] σ' H' { s' with heap := h0 } → Heap.MadeExcOf h0 s'.heap ea (.ref C) args → X.xe (.ref ea) s'
theorem XP.le {X : Cx} {σp : PSt} {ρ ρ' : List Addr} {H H' : Hp} {x : MExc} {h : MH} (l : Le ρ H ρ' H') (q : XP X σp ρ H x h) : XP X σp ρ' H' x h :=
  fun ea C ρ2 H2 σ2 s2 lim e1 e2 l2 => q ea C ρ2 H2 σ2 s2 lim e1 e2 (l.trans l2)
theorem XM.le {X : Cx} {σp : PSt} {ρ ρ' : List Addr} {H H' : Hp} {x : MExc} {h : MH} (l : Le ρ H ρ' H') (q : XM X σp ρ H x h) : XM X σp ρ' H' x h :=
  fun ea C ρ2 H2 σ2 s2 lim args e1 e2 l2 => q ea C ρ2 H2 σ2 s2 lim args e1 e2 (l.trans l2)
abbrev Rl (α β : Type) := List Addr → Hp → α → β → Prop
def Ful {α β : Type} (X : Cx) (R : Rl α β) (σp : PSt) (ρ : List Addr) (H : Hp) (o : Out α) (Q : β → Hp → Prop) : Prop := match o with
  | .ok v h' => ∀ ρ' H' v', Le ρ H ρ' H' → RH X.K X.mg ρ' H' h' → R ρ' H' v v' → Q v' H'
  | .exc x h' => XP X σp ρ H x h'
  | .bad => False
/-- without exceptions -/
def Ful0 {α β : Type} (X : Cx) (R : Rl α β) (ρ : List Addr) (H : Hp) (o : Out α) (Q : β → Hp → Prop) : Prop := match o with
  | .ok v h' => ∀ ρ' H' v', Le ρ H ρ' H' → RH X.K X.mg ρ' H' h' → R ρ' H' v v' → Q v' H'
  | _ => False
theorem Ful.zero {α β : Type} {X : Cx} {R : Rl α β} {σp : PSt} {ρ : List Addr} {H : Hp} {o : Out α} {Q : β → Hp → Prop} (f : Ful X R σp ρ H o.ne Q) : Ful0 X R ρ H o Q := by
  cases o with
  | ok v h => exact f
  | exc x h => exact f
  | bad => exact f
theorem Ful.le {α β : Type} {X : Cx} {R : Rl α β} {σp : PSt} {ρ ρ1 : List Addr} {H H1 : Hp} {o : Out α} {Q : β → Hp → Prop} (l : Le ρ H ρ1 H1) (f : Ful X R σp ρ H o Q) : Ful X R σp ρ1 H1 o Q := by
  cases o with
  | ok v h => exact fun ρ' H' v' l' => f ρ' H' v' (l.trans l')
  | exc x h => exact XP.le (X := X) (σp := σp) (x := x) (h := h) l f
  | bad => exact f
theorem Ful.imp {α β : Type} {X : Cx} {R : Rl α β} {σp : PSt} {ρ : List Addr} {H : Hp} {o : Out α} {Q Q' : β → Hp → Prop} (f : Ful X R σp ρ H o Q) (h : ∀ v H, Q v H → Q' v H) : Ful X R σp ρ H o Q' := by
  cases o with
  | ok v _ => exact fun ρ' H' v' l r q => h _ _ (f ρ' H' v' l r q)
  | exc x _ => exact f
  | bad => exact f
/-- a step behind a step -/
theorem Ful.bind {α β γ δ : Type} {X : Cx} {R : Rl α β} {S : Rl γ δ} {σp : PSt} {ρ : List Addr} {H : Hp} {o : Out α} {f : α → MH → Out γ} {Q : δ → Hp → Prop} {Q' : β → Hp → Prop} (q : Ful X S σp ρ H (o.bind f) Q)
    (k : ∀ ρ1 H1 v v' h1, o = .ok v h1 → Le ρ H ρ1 H1 → RH X.K X.mg ρ1 H1 h1 → R ρ1 H1 v v' → Ful X S σp ρ1 H1 (f v h1) Q → Q' v' H1) : Ful X R σp ρ H o Q' := by
  cases o with
  | ok v h => exact fun ρ' H' v' l r w => k ρ' H' v v' h rfl l r w (Ful.le l q)
  | exc x h => exact q
  | bad => exact q
abbrev RV' (X : Cx) : Rl PV V := fun ρ H => RP X.K ρ H
abbrev RVs' (X : Cx) : Rl (List PV) (List V) := fun ρ H => RPs X.K ρ H
abbrev REq {α : Type} : Rl α α := fun _ _ x y => x = y
abbrev Mx (α : Type) := PSt → MH → Out α
def tM {α β : Type} (X : Cx) (R : Rl α β) (m : Mx α) : L2.St → Hp → (β → Hp → Prop) → Prop := fun σ H Q => ∃ ρ σp h, RS X.K ρ H σp σ ∧ RH X.K X.mg ρ H h ∧ Ful X R σp ρ H (m σp h) Q
def ME (X : Cx) (e : Expr) (m : Mx PV) : Prop := PE X e (tM X (RV' X) m)
def MT (X : Cx) (e : Expr) (m : Mx Bool) : Prop := PT X e (tM X REq m)
def MW (X : Cx) (e : Expr) (m : Mx Bool) : Prop := PW X e (tM X REq m)
def MA (X : Cx) (es : List Expr) (m : Mx (List PV)) : Prop := PA X es (tM X (RVs' X) m)
theorem PE.imp {X : Cx} {e : Expr} {t t' : TE} (h : PE X e t) (i : ∀ σ H Q, t' σ H Q → t σ H Q) : PE X e t' := fun pins s σ H Q I q => h pins s σ H Q I (i σ H Q q)
theorem PT.imp {X : Cx} {e : Expr} {t t' : TT} (h : PT X e t) (i : ∀ σ H Q, t' σ H Q → t σ H Q) : PT X e t' := fun pins s σ H Q I q => h pins s σ H Q I (i σ H Q q)
theorem PW.imp {X : Cx} {e : Expr} {t t' : TT} (h : PW X e t) (i : ∀ σ H Q, t' σ H Q → t σ H Q) : PW X e t' := fun whole pins s σ H Q I q => h whole pins s σ H Q I (i σ H Q q)
theorem PA.imp {X : Cx} {e : List Expr} {t t' : TA} (h : PA X e t) (i : ∀ σ H Q, t' σ H Q → t σ H Q) : PA X e t' := fun pos pins s σ H Q I q => h pos pins s σ H Q I (i σ H Q q)
theorem PS.imp {X : Cx} {e : Stmt} {t t' : TS} (h : PS X e t) (i : ∀ D σ H, t' D σ H → t D σ H) : PS X e t' := fun pins s σ H D I q => h pins s σ H D I (i D σ H q)
theorem PSs.imp {X : Cx} {e : List Stmt} {t t' : TS} (h : PSs X e t) (i : ∀ D σ H, t' D σ H → t D σ H) : PSs X e t' := fun pins s σ H D I q => h pins s σ H D I (i D σ H q)

/-- statements -/
def FulS (X : Cx) (ρ : List Addr) (H : Hp) (o : SOut) (D : Ends) : Prop := match o with
  | .nx σp h' => ∀ ρ' H' σ', Le ρ H ρ' H' → RH X.K X.mg ρ' H' h' → RS X.K ρ' H' σp σ' → D.nx σ' H'
  | .bk σp h' => ∀ ρ' H' σ', Le ρ H ρ' H' → RH X.K X.mg ρ' H' h' → RS X.K ρ' H' σp σ' → D.bk σ' H'
  | .ct σp h' => ∀ ρ' H' σ', Le ρ H ρ' H' → RH X.K X.mg ρ' H' h' → RS X.K ρ' H' σp σ' → D.ct σ' H'
  | .rt v h' => ∀ ρ' H' v', Le ρ H ρ' H' → RH X.K X.mg ρ' H' h' → RP X.K ρ' H' v v' → D.rt v' H'
  | .exc x σp h' => XP X σp ρ H x h'
  | .rse x σp h' => XM X σp ρ H x h'
  | .bad => False
theorem FulS.le {X : Cx} {ρ ρ1 : List Addr} {H H1 : Hp} {o : SOut} {D : Ends} (l : Le ρ H ρ1 H1) (f : FulS X ρ H o D) : FulS X ρ1 H1 o D := by
  cases o with
  | nx σp h => exact fun ρ' H' v' l' => f ρ' H' v' (l.trans l')
  | bk σp h => exact fun ρ' H' v' l' => f ρ' H' v' (l.trans l')
  | ct σp h => exact fun ρ' H' v' l' => f ρ' H' v' (l.trans l')
  | rt v h => exact fun ρ' H' v' l' => f ρ' H' v' (l.trans l')
  | exc x σp h => exact XP.le (X := X) (σp := σp) (x := x) (h := h) l f
  | rse x σp h => exact XM.le (X := X) (σp := σp) (x := x) (h := h) l f
  | bad => exact f
abbrev Mst := PSt → MH → SOut
def tMS (X : Cx) (m : Mst) : TS := fun D σ H => ∃ ρ σp h, RS X.K ρ H σp σ ∧ RH X.K X.mg ρ H h ∧ FulS X ρ H (m σp h) D
def MS (X : Cx) (st : Stmt) (m : Mst) : Prop := PS X st (tMS X m)
def MSs (X : Cx) (st : List Stmt) (m : Mst) : Prop := PSs X st (tMS X m)
end MM

set_option Elab.async false
set_option linter.all false
set_option maxRecDepth 100000
namespace MM
open PySem PySem.Spec PyProof.Rows L2
section
variable {X : Cx} {N W G : List Str} {k : Nat}
/-- what a def's rules lean on: N the names that are read, W those that are stored -/
structure Good (X : Cx) (N W G : List Str) (k : Nat) : Prop where
  hN : X.N = N
  nd : N.Nodup
  loc : ∀ x ∈ N, Loc X.env.scope x
  fn : ∀ x ∈ W, X.fn x = true ∨ X.env.scope.names.lookup x = some .local
  gl : ∀ x ∈ G, Gl X x
  dbg : ∀ x ∈ N ++ G, (x == ("__debug__" : Str)) = false ∧ (x == ("__classdict__" : Str)) = false ∧ x ≠ "__name__"
  calm : X.calm = true
  room : Room k X.A
  po : PassesOwn (model X.prog X.w) X.A X.env X.xe
theorem Good.x (g : Good X N W G k) {i : Nat} {x : Str} (hi : N[i]? = some x) : X.N[i]? = some x := by rw [g.hN]; exact hi
theorem mem_of {l : List Str} {i : Nat} {x : Str} (hi : l[i]? = some x) : x ∈ l := List.mem_of_getElem? hi

/-! ### the plain judgements of operations -/
def rJ (X : Cx) (g : PV → PV → MH → Out PV) : R2 := fun x' y' H Q => ∃ ρ h x y, RH X.K X.mg ρ H h ∧ RP X.K ρ H x x' ∧ RP X.K ρ H y y' ∧ Ful0 X (RV' X) ρ H (g x y h) Q
abbrev OpJ (X : Cx) (f : Value → Value → Sem Value) (g : PV → PV → MH → Out PV) : Prop := OpR X f (rJ X g)
def uJ (X : Cx) (g : PV → MH → Out PV) : V → Hp → VK → Prop := fun x' H Q => ∃ ρ h x, RH X.K X.mg ρ H h ∧ RP X.K ρ H x x' ∧ Ful0 X (RV' X) ρ H (g x h) Q
abbrev UnJ (X : Cx) (f : Value → Sem Value) (g : PV → MH → Out PV) : Prop := UnR X f (uJ X g)
def cJ (X : Cx) (g : List PV → MH → Out PV) : List V → Hp → VK → Prop := fun xs' H Q => ∃ ρ h xs, RH X.K X.mg ρ H h ∧ RPs X.K ρ H xs xs' ∧ Ful0 X (RV' X) ρ H (g xs h) Q
abbrev CallJ (X : Cx) (f : Value) (g : List PV → MH → Out PV) : Prop := CallR X f (cJ X g)
def sJ {α β : Type} (X : Cx) (R : Rl α β) (g : PV → List PV → MH → Out α) : V → List V → Hp → (β → Hp → Prop) → Prop := fun x' xs' H Q => ∃ ρ h x xs, RH X.K X.mg ρ H h ∧ RP X.K ρ H x x' ∧ RPs X.K ρ H xs xs' ∧ Ful0 X R ρ H (g x xs h) Q

/-! ### names and constants -/
def mVar (i : Nat) : Mx PV := fun σ h => match σ[i]? with
  | some (some v) => .ok v h
  | _ => .bad
def mC (v : PV) : Mx PV := fun _ h => .ok v h
theorem me_var (g : Good X N W G k) (i : Nat) {x : Str} {pos : Pos} (hi : N[i]? = some x) : ME X (.Name x pos) (mVar i) := by
  have d := g.dbg x (List.mem_append_left _ (mem_of hi))
  have hv : Vis X.env.scope x := by
    rcases g.loc x (mem_of hi) with q | q
    · exact .inl q
    · exact .inr (.inl q)
  refine PE.imp (pe_var (g.x hi) hv d.1 d.2.1) fun σ H Q ⟨ρ, σp, h, rs, rh, f⟩ => ?_
  unfold mVar at f
  cases e : σp[i]? with
  | none => rw [e] at f; exact f.elim
  | some o =>
    rw [e] at f
    cases o with
    | none => exact f.elim
    | some v =>
      obtain ⟨v', e', r⟩ := rs.2 i v e
      exact ⟨v', e', f ρ H v' (Le.refl _ _) rh r⟩
theorem me_int {i : Int} {j : Nat} {pos : Pos} : ME X (.Constant (.int i) j pos) (mC (.int i)) := PE.imp pe_int fun _ H _ ⟨ρ, _, _, _, rh, f⟩ => f ρ H _ (Le.refl _ _) rh (.int i)
theorem me_str {i : Str} {j : Nat} {pos : Pos} : ME X (.Constant (.str i) j pos) (mC (.str i)) := PE.imp pe_str fun _ H _ ⟨ρ, _, _, _, rh, f⟩ => f ρ H _ (Le.refl _ _) rh (.str i)
theorem me_bl {i : Bool} {j : Nat} {pos : Pos} : ME X (.Constant (.bool i) j pos) (mC (.bl i)) := PE.imp pe_bl fun _ H _ ⟨ρ, _, _, _, rh, f⟩ => f ρ H _ (Le.refl _ _) rh (.bl i)
theorem me_non {j : Nat} {pos : Pos} : ME X (.Constant .none j pos) (mC .non) := PE.imp pe_non fun _ H _ ⟨ρ, _, _, _, rh, f⟩ => f ρ H _ (Le.refl _ _) rh .non

/-! ### two parts -/
def mBin (f : PV → PV → MH → Out PV) (ma mb : Mx PV) : Mx PV := fun σ h => (ma σ h).bind fun x h1 => (mb σ h1).bind fun y h2 => (f x y h2).ne
def mUn (f : PV → MH → Out PV) (ma : Mx PV) : Mx PV := fun σ h => (ma σ h).bind fun x h1 => (f x h1).ne
theorem tM_bin {f : PV → PV → MH → Out PV} {ma mb : Mx PV} {σ : L2.St} {H : Hp} {Q : VK} (q : tM X (RV' X) (mBin f ma mb) σ H Q) : tOp (rJ X f) (tM X (RV' X) ma) (tM X (RV' X) mb) σ H Q := by
  obtain ⟨ρ, σp, h, rs, rh, q⟩ := q
  refine ⟨ρ, σp, h, rs, rh, Ful.bind q fun ρ1 H1 x x' h1 _ l1 rh1 rx q1 => ?_⟩
  refine ⟨ρ1, σp, h1, rs.le l1, rh1, Ful.bind q1 fun ρ2 H2 y y' h2 _ l2 rh2 ry q2 => ?_⟩
  exact ⟨ρ2, h2, x, y, rh2, rx.le l2, ry, q2.zero⟩
theorem me_bin {op : Operator} {f : PV → PV → MH → Out PV} {a b : Expr} {ma mb : Mx PV} {pos : Pos} (ho : OpJ X (binaryOp op) f) (ha : ME X a ma) (hb : ME X b mb) : ME X (.BinOp a op b pos) (mBin f ma mb) :=
  PE.imp (pe_op ho ha hb) fun _ _ _ q => tM_bin q
theorem me_un {op : UnaryOp} {f : PV → MH → Out PV} {a : Expr} {ma : Mx PV} {pos : Pos} (ho : UnJ X (unaryOp op) f) (ha : ME X a ma) : ME X (.UnaryOp op a pos) (mUn f ma) :=
  PE.imp (pe_un ho ha) fun _ _ _ ⟨ρ, σp, h, rs, rh, q⟩ => ⟨ρ, σp, h, rs, rh, Ful.bind q fun ρ1 H1 x x' h1 _ l1 rh1 rx q1 => ⟨ρ1, h1, x, rh1, rx, q1.zero⟩⟩
theorem me_cmp {op : CmpOp} {f : PV → PV → MH → Out PV} {a b : Expr} {ma mb : Mx PV} {pos : Pos} (ho : OpJ X (compareOp op) f) (ha : ME X a ma) (hb : ME X b mb) (hm : behindInMarks op b = false) : ME X (.Compare a [op] [b] pos) (mBin f ma mb) :=
  PE.imp (pe_cmpR ho ha hb hm) fun _ _ _ q => tM_bin q
/-- a value's truth, of bools alone -/
def mB (m : Mx PV) : Mx Bool := fun σ h => (m σ h).bind fun v h1 => match v with
  | .bl b => .ok b h1
  | _ => .bad
theorem tM_B {m : Mx PV} {σ : L2.St} {H : Hp} {Q : Bool → Hp → Prop} (q : tM X REq (mB m) σ H Q) : tM X (RV' X) m σ H fun x H1 => ∃ c, x = .bl c ∧ Q c H1 := by
  obtain ⟨ρ, σp, h, rs, rh, q⟩ := q
  refine ⟨ρ, σp, h, rs, rh, Ful.bind q fun ρ1 H1 x x' h1 _ l1 rh1 rx q1 => ?_⟩
  cases rx with
  | bl b => exact ⟨b, rfl, q1 ρ1 H1 b (Le.refl _ _) rh1 rfl⟩
  | _ => exact q1.elim
theorem mt_cmp {op : CmpOp} {f : PV → PV → MH → Out PV} {a b : Expr} {ma mb : Mx PV} {pos : Pos} (ho : OpJ X (compareOp op) f) (ha : ME X a ma) (hb : ME X b mb) (hm : behindInMarks op b = false) : MT X (.Compare a [op] [b] pos) (mB (mBin f ma mb)) :=
  PT.imp (pt_cmpR ho ha hb hm) fun σ H Q q => by
    obtain ⟨ρ, σp, h, rs, rh, q⟩ := tM_B q
    exact tM_bin (Q := fun x H' => ∃ k, x = .bl k ∧ Q k H') ⟨ρ, σp, h, rs, rh, q⟩
theorem mt_val {e : Expr} {m : Mx PV} (h : ME X e m) (he : ∀ whole, isTrue e X.env whole = (do let v ← whole; standAt e.pos; holding [v] (truthy v)) := by intro _; rfl) : MT X e (mB m) :=
  PT.imp (pt_val h he) fun _ _ _ q => tM_B q
def mNot (m : Mx Bool) : Mx Bool := fun σ h => (m σ h).bind fun b h1 => .ok (!b) h1
theorem mt_not {e : Expr} {m : Mx Bool} {pos : Pos} (h : MT X e m) : MT X (.UnaryOp .Not e pos) (mNot m) :=
  PT.imp (pt_not h) fun _ _ _ ⟨ρ, σp, h, rs, rh, q⟩ => ⟨ρ, σp, h, rs, rh, Ful.bind q fun ρ1 H1 x x' h1 _ l1 rh1 rx q1 => by
    cases rx; exact q1 ρ1 H1 _ (Le.refl _ _) rh1 rfl⟩
def mAnd (a b : Mx Bool) : Mx Bool := fun σ h => (a σ h).bind fun x h1 => if x = true then b σ h1 else .ok false h1
def mOr (a b : Mx Bool) : Mx Bool := fun σ h => (a σ h).bind fun x h1 => if x = true then .ok true h1 else b σ h1
section
variable {a b : Expr} {rest : List Expr} {ma mb : Mx Bool} {pos : Pos}
theorem mw_and1 (ha : MT X a ma) : MW X (.BoolOp .And [a] pos) ma := pw_and1 ha
theorem mw_or1 (ha : MT X a ma) : MW X (.BoolOp .Or [a] pos) ma := pw_or1 ha
theorem mw_and (ha : MT X a ma) (hb : MW X (.BoolOp .And (b :: rest) pos) mb) : MW X (.BoolOp .And (a :: b :: rest) pos) (mAnd ma mb) :=
  PW.imp (pw_and ha hb) fun σ H Q ⟨ρ, σp, h, rs, rh, q⟩ => ⟨ρ, σp, h, rs, rh, Ful.bind q fun ρ1 H1 x x' h1 _ l1 rh1 rx q1 => by
    cases rx
    cases x with
    | true => rw [if_pos rfl] at q1 ⊢; exact ⟨ρ1, σp, h1, rs.le l1, rh1, q1⟩
    | false => rw [if_neg Bool.false_ne_true] at q1 ⊢; exact q1 ρ1 H1 _ (Le.refl _ _) rh1 rfl⟩
theorem mw_or (ha : MT X a ma) (hb : MW X (.BoolOp .Or (b :: rest) pos) mb) : MW X (.BoolOp .Or (a :: b :: rest) pos) (mOr ma mb) :=
  PW.imp (pw_or ha hb) fun σ H Q ⟨ρ, σp, h, rs, rh, q⟩ => ⟨ρ, σp, h, rs, rh, Ful.bind q fun ρ1 H1 x x' h1 _ l1 rh1 rx q1 => by
    cases rx
    cases x with
    | true => rw [if_pos rfl] at q1 ⊢; exact q1 ρ1 H1 _ (Le.refl _ _) rh1 rfl
    | false => rw [if_neg Bool.false_ne_true] at q1 ⊢; exact ⟨ρ1, σp, h1, rs.le l1, rh1, q1⟩⟩
theorem MW.mt {e : Expr} {m : Mx Bool} (h : MW X e m) : MT X e m := PW.pt h
end
/-- and, or, not as values (of bools) -/
def mAndV (a b : Mx PV) : Mx PV := fun σ h => (a σ h).bind fun x h1 => match x with
  | .bl c => if c = true then b σ h1 else .ok (.bl false) h1
  | _ => .bad
def mOrV (a b : Mx PV) : Mx PV := fun σ h => (a σ h).bind fun x h1 => match x with
  | .bl c => if c = true then .ok (.bl true) h1 else b σ h1
  | _ => .bad
def mNotV (a : Mx PV) : Mx PV := fun σ h => (a σ h).bind fun x h1 => match x with
  | .bl c => .ok (.bl (!c)) h1
  | _ => .bad
section
variable {a b : Expr} {rest : List Expr} {ma mb : Mx PV} {pos : Pos}
theorem me_one {op : BoolOp} (ha : ME X a ma) : ME X (.BoolOp op [a] pos) ma := pe_one ha
theorem me_and (ha : ME X a ma) (hb : ME X (.BoolOp .And (b :: rest) pos) mb) : ME X (.BoolOp .And (a :: b :: rest) pos) (mAndV ma mb) :=
  PE.imp (pe_and ha hb) fun σ H Q ⟨ρ, σp, h, rs, rh, q⟩ => ⟨ρ, σp, h, rs, rh, Ful.bind q fun ρ1 H1 x x' h1 _ l1 rh1 rx q1 => by
    cases rx with
    | bl c =>
      refine ⟨c, rfl, ?_⟩
      dsimp only at q1
      cases c with
      | true => rw [if_pos rfl] at q1 ⊢; exact ⟨ρ1, σp, h1, rs.le l1, rh1, q1⟩
      | false => rw [if_neg Bool.false_ne_true] at q1 ⊢; exact q1 ρ1 H1 _ (Le.refl _ _) rh1 (.bl false)
    | _ => exact q1.elim⟩
theorem me_or (ha : ME X a ma) (hb : ME X (.BoolOp .Or (b :: rest) pos) mb) : ME X (.BoolOp .Or (a :: b :: rest) pos) (mOrV ma mb) :=
  PE.imp (pe_or ha hb) fun σ H Q ⟨ρ, σp, h, rs, rh, q⟩ => ⟨ρ, σp, h, rs, rh, Ful.bind q fun ρ1 H1 x x' h1 _ l1 rh1 rx q1 => by
    cases rx with
    | bl c =>
      refine ⟨c, rfl, ?_⟩
      dsimp only at q1
      cases c with
      | true => rw [if_pos rfl] at q1 ⊢; exact q1 ρ1 H1 _ (Le.refl _ _) rh1 (.bl true)
      | false => rw [if_neg Bool.false_ne_true] at q1 ⊢; exact ⟨ρ1, σp, h1, rs.le l1, rh1, q1⟩
    | _ => exact q1.elim⟩
theorem me_not (ha : ME X a ma) : ME X (.UnaryOp .Not a pos) (mNotV ma) :=
  PE.imp (pe_not ha) fun σ H Q ⟨ρ, σp, h, rs, rh, q⟩ => ⟨ρ, σp, h, rs, rh, Ful.bind q fun ρ1 H1 x x' h1 _ l1 rh1 rx q1 => by
    cases rx with
    | bl c => exact ⟨c, rfl, q1 ρ1 H1 _ (Le.refl _ _) rh1 (.bl _)⟩
    | _ => exact q1.elim⟩
def mIfE (c : Mx Bool) (a b : Mx PV) : Mx PV := fun σ h => (c σ h).bind fun x h1 => if x = true then a σ h1 else b σ h1
theorem me_ifE {c : Expr} {mc : Mx Bool} (hc : MT X c mc) (ha : ME X a ma) (hb : ME X b mb) : ME X (.IfExp c a b pos) (mIfE mc ma mb) :=
  PE.imp (pe_ifExp hc ha hb) fun σ H Q ⟨ρ, σp, h, rs, rh, q⟩ => ⟨ρ, σp, h, rs, rh, Ful.bind q fun ρ1 H1 x x' h1 _ l1 rh1 rx q1 => by
    cases rx
    cases x with
    | true => rw [if_pos rfl] at q1 ⊢; exact ⟨ρ1, σp, h1, rs.le l1, rh1, q1⟩
    | false => rw [if_neg Bool.false_ne_true] at q1 ⊢; exact ⟨ρ1, σp, h1, rs.le l1, rh1, q1⟩⟩
end

/-! ### argument lists, displays -/
def mNil : Mx (List PV) := fun _ h => .ok [] h
def mCons (a : Mx PV) (r : Mx (List PV)) : Mx (List PV) := fun σ h => (a σ h).bind fun x h1 => (r σ h1).bind fun xs h2 => .ok (x :: xs) h2
theorem ma_nil : MA X [] mNil := PA.imp pa_nil fun σ H Q ⟨ρ, σp, h, rs, rh, q⟩ => q ρ H _ (Le.refl _ _) rh .nil
theorem ma_cons {e : Expr} {es : List Expr} {m : Mx PV} {ms : Mx (List PV)} (ha : ME X e m) (hr : MA X es ms) (hs : starEach (e :: es) X.env = (false, eval e X.env) :: starEach es X.env := by rfl) : MA X (e :: es) (mCons m ms) :=
  PA.imp (pa_cons ha hr hs) fun σ H Q ⟨ρ, σp, h, rs, rh, q⟩ => ⟨ρ, σp, h, rs, rh, Ful.bind q fun ρ1 H1 x x' h1 _ l1 rh1 rx q1 =>
    ⟨ρ1, σp, h1, rs.le l1, rh1, Ful.bind q1 fun ρ2 H2 y y' h2 _ l2 rh2 ry q2 => q2 ρ2 H2 _ (Le.refl _ _) rh2 (.cons (rx.le l2) ry)⟩⟩
noncomputable def newL (xs : List PV) (h : MH) : Out PV := if xs.length ≤ sizeLine then .ok (.loc h.length) (h ++ [.lst xs]) else .bad
noncomputable def newT (xs : List PV) (h : MH) : Out PV := if xs.length ≤ sizeLine then .ok (.tup xs) h else .bad
theorem newL_ok {ρ : List Addr} {H : Hp} {h : MH} {xs : List PV} {ys : List V} {Q : VK} (rh : RH X.K X.mg ρ H h) (rs : RPs X.K ρ H xs ys) (f : Ful0 X (RV' X) ρ H (newL xs h) Q) : ys.length ≤ sizeLine ∧ ∀ p, H p = none → Q (.ref p) (upd H p (.lst ys)) := by
  unfold newL at f
  split at f
  · rename_i hl
    refine ⟨by rw [← rs.length]; exact hl, fun p hp => ?_⟩
    obtain ⟨r1, l1⟩ := rh.new hp (o := .lst xs) (ho := .lst ys) ⟨ys, rfl, rs⟩
    refine f _ _ _ l1 r1 (.loc ?_)
    rw [← rh.len]; simp
  · exact f.elim
theorem newT_ok {ρ : List Addr} {H : Hp} {h : MH} {xs : List PV} {ys : List V} {Q : VK} (rh : RH X.K X.mg ρ H h) (rs : RPs X.K ρ H xs ys) (f : Ful0 X (RV' X) ρ H (newT xs h) Q) : ys.length ≤ sizeLine ∧ ∀ p, H p = none → Q (.ref p) (upd H p (.tup ys)) := by
  unfold newT at f
  split at f
  · rename_i hl
    refine ⟨by rw [← rs.length]; exact hl, fun p hp => ?_⟩
    obtain ⟨r1, l1⟩ := rh.tup hp ys
    exact f _ _ _ l1 r1 (.tup (.inl (.inl upd_same)) (rs.le l1))
  · exact f.elim
theorem newL_f {σp : PSt} {ρ : List Addr} {H : Hp} {h : MH} {xs : List PV} {Q : VK} (f : Ful X (RV' X) σp ρ H (newL xs h) Q) : Ful0 X (RV' X) ρ H (newL xs h) Q := by
  unfold newL at f ⊢
  split at f
  · rw [if_pos (by assumption)]; exact f
  · exact f.elim
theorem newT_f {σp : PSt} {ρ : List Addr} {H : Hp} {h : MH} {xs : List PV} {Q : VK} (f : Ful X (RV' X) σp ρ H (newT xs h) Q) : Ful0 X (RV' X) ρ H (newT xs h) Q := by
  unfold newT at f ⊢
  split at f
  · rw [if_pos (by assumption)]; exact f
  · exact f.elim
noncomputable def mLst (m : Mx (List PV)) : Mx PV := fun σ h => (m σ h).bind newL
noncomputable def mTup (m : Mx (List PV)) : Mx PV := fun σ h => (m σ h).bind newT
theorem me_lst {es : List Expr} {ms : Mx (List PV)} {pos : Pos} (h : MA X es ms) : ME X (.List es pos) (mLst ms) :=
  PE.imp (pe_lst h) fun σ H Q ⟨ρ, σp, h, rs, rh, q⟩ => ⟨ρ, σp, h, rs, rh, Ful.bind q fun ρ1 H1 x x' h1 _ l1 rh1 rx q1 => newL_ok rh1 rx (newL_f q1)⟩
theorem me_tup {es : List Expr} {ms : Mx (List PV)} {j : Nat} {pos : Pos} (h : MA X es ms) : ME X (.Tuple es j pos) (mTup ms) :=
  PE.imp (pe_tup h) fun σ H Q ⟨ρ, σp, h, rs, rh, q⟩ => ⟨ρ, σp, h, rs, rh, Ful.bind q fun ρ1 H1 x x' h1 _ l1 rh1 rx q1 => newT_ok rh1 rx (newT_f q1)⟩

/-! ### statements -/
def SOut.then (o : SOut) (k : Mst) : SOut := match o with
  | .nx σ h => k σ h
  | o => o
def mSeq (a b : Mst) : Mst := fun σ h => (a σ h).then b
def mSkip : Mst := fun σ h => .nx σ h
theorem mss_nil : MSs X [] mSkip := PSs.imp pss_nil fun D σ H ⟨ρ, σp, h, rs, rh, q⟩ => q ρ H σ (Le.refl _ _) rh rs
theorem mss_one {st : Stmt} {m : Mst} (h : MS X st m) : MSs X [st] m := pss_one h
theorem FulS.then {ρ : List Addr} {H : Hp} {o : SOut} {k : Mst} {D : Ends} (q : FulS X ρ H (o.then k) D) : FulS X ρ H o { D with nx := fun σ H => tMS X k D σ H } := by
  cases o with
  | nx σp h => exact fun ρ' H' σ' l r s => ⟨ρ', σp, h, s, r, FulS.le l q⟩
  | _ => exact q
theorem mss_cons {st : Stmt} {rest : List Stmt} {m u : Mst} (h1 : MS X st m) (h2 : MSs X rest u) : MSs X (st :: rest) (mSeq m u) :=
  PSs.imp (pss_cons h1 h2) fun D σ H ⟨ρ, σp, h, rs, rh, q⟩ => ⟨ρ, σp, h, rs, rh, FulS.then q⟩
def mRet (m : Mx PV) : Mst := fun σ h => match m σ h with
  | .ok v h' => .rt v h'
  | .exc x h' => .exc x σ h'
  | .bad => .bad
theorem ms_ret {e : Expr} {m : Mx PV} {pos : Pos} (he : ME X e m) : MS X (.Return (some e) pos) (mRet m) :=
  PS.imp (ps_ret he) fun D σ H ⟨ρ, σp, h, rs, rh, q⟩ => ⟨ρ, σp, h, rs, rh, by
    unfold mRet at q
    cases e : m σp h with
    | ok v h' => rw [e] at q; exact q
    | exc x h' => rw [e] at q; exact q
    | bad => rw [e] at q; exact q⟩
def mRetN : Mst := fun _ h => .rt .non h
theorem ms_retN {pos : Pos} : MS X (.Return none pos) mRetN := PS.imp ps_retN fun D σ H ⟨ρ, σp, h, rs, rh, q⟩ => q ρ H .non (Le.refl _ _) rh .non
def mEx {α : Type} (m : Mx α) (k : α → Mst) : Mst := fun σ h => match m σ h with
  | .ok v h' => k v σ h'
  | .exc x h' => .exc x σ h'
  | .bad => .bad
theorem FulS.ex {α β : Type} {R : Rl α β} {m : Mx α} {k : α → Mst} {ρ : List Addr} {H : Hp} {σp : PSt} {h : MH} {D : Ends} {Q : β → Hp → Prop} (q : FulS X ρ H (mEx m k σp h) D)
    (w : ∀ ρ1 H1 v v' h1, Le ρ H ρ1 H1 → RH X.K X.mg ρ1 H1 h1 → R ρ1 H1 v v' → FulS X ρ1 H1 (k v σp h1) D → Q v' H1) : Ful X R σp ρ H (m σp h) Q := by
  unfold mEx at q
  cases e : m σp h with
  | ok v h' => rw [e] at q; exact fun ρ1 H1 v' l r z => w ρ1 H1 v v' h' l r z (FulS.le l q)
  | exc x h' => rw [e] at q; exact q
  | bad => rw [e] at q; exact q
def mDrop (m : Mx PV) : Mst := mEx m fun _ => mSkip
theorem ms_expr {e : Expr} {m : Mx PV} {pos : Pos} (he : ME X e m) (hs : swapsWith e none pos.line X.env = pure false := by rfl) : MS X (.Expr e pos) (mDrop m) :=
  PS.imp (ps_expr he hs) fun D σ H ⟨ρ, σp, h, rs, rh, q⟩ => ⟨ρ, σp, h, rs, rh, FulS.ex q fun ρ1 H1 v v' h1 l r z w => w ρ1 H1 σ (Le.refl _ _) r (rs.le l)⟩
theorem ms_doc {x : Str} {j : Nat} {pos pos' : Pos} : MS X (.Expr (.Constant (.str x) j pos) pos') mSkip := PS.imp ps_doc fun D σ H ⟨ρ, σp, h, rs, rh, q⟩ => q ρ H σ (Le.refl _ _) rh rs
theorem ms_pass {pos : Pos} : MS X (.Pass pos) mSkip := PS.imp ps_pass fun D σ H ⟨ρ, σp, h, rs, rh, q⟩ => q ρ H σ (Le.refl _ _) rh rs
def mBreak : Mst := fun σ h => .bk σ h
def mCont : Mst := fun σ h => .ct σ h
theorem ms_break {pos : Pos} : MS X (.Break pos) mBreak := PS.imp ps_break fun D σ H ⟨ρ, σp, h, rs, rh, q⟩ => q ρ H σ (Le.refl _ _) rh rs
theorem ms_cont {pos : Pos} : MS X (.Continue pos) mCont := PS.imp ps_continue fun D σ H ⟨ρ, σp, h, rs, rh, q⟩ => q ρ H σ (Le.refl _ _) rh rs
def mIf (c : Mx Bool) (a b : Mst) : Mst := mEx c fun x => if x = true then a else b
theorem ms_if {c : Expr} {a b : List Stmt} {mc : Mx Bool} {ma mb : Mst} {pos : Pos} (hc : MT X c mc) (ha : MSs X a ma) (hb : MSs X b mb) : MS X (.If c a b pos) (mIf mc ma mb) :=
  PS.imp (ps_if hc ha hb) fun D σ H ⟨ρ, σp, h, rs, rh, q⟩ => ⟨ρ, σp, h, rs, rh, FulS.ex q fun ρ1 H1 v v' h1 l r z w => by
    cases z
    cases v with
    | true => rw [if_pos rfl]; exact ⟨ρ1, σp, h1, rs.le l, r, w⟩
    | false => rw [if_neg Bool.false_ne_true]; exact ⟨ρ1, σp, h1, rs.le l, r, w⟩⟩
def mSet (i : Nat) (m : Mx PV) : Mst := mEx m fun v σ h => .nx (σ.set i (some v)) h
theorem ms_set (g : Good X N W G k) (i : Nat) {x : Str} {e : Expr} {m : Mx PV} {pos pos' : Pos} (hi : N[i]? = some x) (hw : W[i]? = some x) (he : ME X e m) (hs : swapsWith e (some (.Name x pos')) pos.line X.env = pure false := by rfl) :
    MS X (.Assign [.Name x pos'] e pos) (mSet i m) := by
  refine PS.imp (ps_set (X := X) (i := i) (by rw [g.hN]; exact g.nd) (g.x hi) (g.loc x (mem_of hi)) he hs (g.fn x (mem_of hw))) fun D σ H ⟨ρ, σp, h, rs, rh, q⟩ => ?_
  exact ⟨ρ, σp, h, rs, rh, FulS.ex q fun ρ1 H1 v v' h1 l r z w => w ρ1 H1 _ (Le.refl _ _) r ((rs.le l).set i z)⟩
end
end MM

set_option Elab.async false
set_option linter.all false
set_option maxRecDepth 100000
namespace MM
open PySem PySem.Spec PyProof.Rows L2
noncomputable local instance (priority := 1) cdec (p : Prop) : Decidable p := Classical.propDecidable p
section
variable {X : Cx} {N W G : List Str} {k : Nat}

/-! ### targets -/
abbrev Mg := PV → Mst
def FulG (X : Cx) (ρ : List Addr) (H : Hp) (o : SOut) (Q : L2.St → Hp → Prop) : Prop := match o with
  | .nx σp h' => ∀ ρ' H' σ', Le ρ H ρ' H' → RH X.K X.mg ρ' H' h' → RS X.K ρ' H' σp σ' → Q σ' H'
  | .exc x σp h' => XP X σp ρ H x h'
  | _ => False
theorem FulG.le {ρ ρ1 : List Addr} {H H1 : Hp} {o : SOut} {Q : L2.St → Hp → Prop} (l : Le ρ H ρ1 H1) (f : FulG X ρ H o Q) : FulG X ρ1 H1 o Q := by
  cases o with
  | nx σp h => exact fun ρ' H' v' l' => f ρ' H' v' (l.trans l')
  | exc x σp h => exact XP.le (X := X) (σp := σp) (x := x) (h := h) l f
  | _ => exact f
def tG (X : Cx) (g : Mg) : TG := fun v' σ H Q => ∃ ρ σp h v, RS X.K ρ H σp σ ∧ RH X.K X.mg ρ H h ∧ RP X.K ρ H v v' ∧ FulG X ρ H (g v σp h) Q
def MG (X : Cx) (tg : Expr) (g : Mg) : Prop := PG X tg (tG X g)
theorem PG.imp {e : Expr} {t t' : TG} (h : PG X e t) (i : ∀ v σ H Q, t' v σ H Q → t v σ H Q) : PG X e t' := fun pins s σ H v u Q I r q => h pins s σ H v u Q I r (i v σ H Q q)
def gNm (i : Nat) : Mg := fun v σ h => .nx (σ.set i (some v)) h
theorem mg_name (g : Good X N W G k) (i : Nat) {x : Str} {pos : Pos} (hi : N[i]? = some x) (hw : W[i]? = some x) : MG X (.Name x pos) (gNm i) :=
  PG.imp (pg_name (by rw [g.hN]; exact g.nd) (g.x hi) (g.loc x (mem_of hi)) (g.fn x (mem_of hw))) fun v' σ H Q ⟨ρ, σp, h, v, rs, rh, rv, q⟩ => q ρ H _ (Le.refl _ _) rh (rs.set i rv)
abbrev Mgs := List PV → Mst
def tGs (X : Cx) (g : Mgs) : TGs := fun v' σ H Q => ∃ ρ σp h v, RS X.K ρ H σp σ ∧ RH X.K X.mg ρ H h ∧ RPs X.K ρ H v v' ∧ FulG X ρ H (g v σp h) Q
def MGs (X : Cx) (tg : List Expr) (g : Mgs) : Prop := PGs X tg (tGs X g)
theorem PGs.imp {e : List Expr} {t t' : TGs} (h : PGs X e t) (i : ∀ v σ H Q, t' v σ H Q → t v σ H Q) : PGs X e t' := fun pins s σ H v u Q I r q => h pins s σ H v u Q I r (i v σ H Q q)
def gNl : Mgs := fun vs σ h => match vs with
  | [] => .nx σ h
  | _ => .bad
def gCn (a : Mg) (r : Mgs) : Mgs := fun vs σ h => match vs with
  | v :: vr => (a v σ h).then (r vr)
  | [] => .bad
theorem mgs_nil : MGs X [] gNl := PGs.imp pgs_nil fun v' σ H Q ⟨ρ, σp, h, v, rs, rh, rv, q⟩ => by
  cases rv with
  | nil => exact ⟨rfl, q ρ H σ (Le.refl _ _) rh rs⟩
  | cons _ _ => exact q.elim
theorem mgs_cons {e : Expr} {es : List Expr} {a : Mg} {r : Mgs} (h1 : MG X e a) (h2 : MGs X es r)
    (hs : (assignEach (e :: es) X.env).map (·.2) = assign e X.env :: (assignEach es X.env).map (·.2) := by rfl) : MGs X (e :: es) (gCn a r) :=
  PGs.imp (pgs_cons h1 h2 hs) fun v' σ H Q ⟨ρ, σp, h, v, rs, rh, rv, q⟩ => by
    cases rv with
    | nil => exact q.elim
    | @cons x y xs ys rx rr =>
      refine ⟨_, _, rfl, ρ, σp, h, x, rs, rh, rx, ?_⟩
      dsimp only [gCn] at q
      cases e : a x σp h with
      | nx σ1 h1 => rw [e] at q; exact fun ρ' H' σ' l r1 s1 => ⟨ρ', σ1, h1, xs, s1, r1, rr.le l, FulG.le l q⟩
      | exc x1 σ1 h1 => rw [e] at q; exact q
      | _ => rw [e] at q; exact q
def gTp (r : Mgs) (n : Nat) : Mg := fun v σ h => match v with
  | .tup xs => if xs.length = n then r xs σ h else .bad
  | _ => .bad
theorem mg_tup (g : Good X N W G k) {es : List Expr} {j : Nat} {r : Mgs} {n : Nat} {pos : Pos} (h : MGs X es r) (hn : (assignEach es X.env).length = n := by rfl) (hst : (assignEach es X.env).findIdx? (·.1) = none := by rfl) :
    MG X (.Tuple es j pos) (gTp r n) :=
  PG.imp (pg_tup g.calm h hn hst) fun v' σ H Q ⟨ρ, σp, h, v, rs, rh, rv, q⟩ => by
    cases rv with
    | tup s rr =>
      dsimp only [gTp] at q
      split at q
      · rename_i hl
        exact ⟨_, _, rfl, s, by rw [← rr.length]; exact hl, ρ, σp, h, _, rs, rh, rr, q⟩
      · exact q.elim
    | _ => exact q.elim
def mAsg (m : Mx PV) (g : Mg) : Mst := mEx m fun v σ h => match g v σ h with
  | .nx σ2 h2 => .nx σ2 h2
  | .exc x σ2 h2 => .exc x σ2 h2
  | _ => .bad
theorem ms_asg {tg e : Expr} {m : Mx PV} {g : Mg} {pos : Pos} (he : ME X e m) (hg : MG X tg g) (hs : swapsWithSole [tg] e pos.line X.env = pure false := by rfl) (hw : swappedStores [tg] e X.env = pure none := by rfl)
    (h1 : (assignEach [tg] X.env).map (·.2) = [assign tg X.env] := by rfl) : MS X (.Assign [tg] e pos) (mAsg m g) :=
  PS.imp (ps_asg he hg hs hw h1) fun D σ H ⟨ρ, σp, h, rs, rh, q⟩ => ⟨ρ, σp, h, rs, rh, FulS.ex q fun ρ1 H1 v v' h1 l r z w => ⟨ρ1, σp, h1, v, rs.le l, r, z, by
    cases e : g v σp h1 with
    | nx σ2 h2 => rw [e] at w; exact w
    | exc x σ2 h2 => rw [e] at w; exact w
    | _ => rw [e] at w; exact w⟩⟩
def mPar (i j : Nat) (m : Mx (List PV)) : Mst := mEx m fun vs σ h => match vs with
  | [v, w] => .nx ((σ.set i (some v)).set j (some w)) h
  | _ => .bad
theorem ms_par (g : Good X N W G k) (i j : Nat) {x y : Str} {a b : Expr} {m : Mx (List PV)} {px py pt pos : Pos} {kt k2 : Nat} {pt2 : Pos} (hi : N[i]? = some x) (hj : N[j]? = some y) (hij : i ≠ j) (ha : MA X [a, b] m)
    (hx : X.env.scope.names.lookup x = some .local) (hy : X.env.scope.names.lookup y = some .local)
    (hw : swappedStores [.Tuple [.Name x px, .Name y py] kt pt] (.Tuple [a, b] k2 pt2) X.env = pure (some [x, y]))
    (hs : swapsWithSole [.Tuple [.Name x px, .Name y py] kt pt] (.Tuple [a, b] k2 pt2) pos.line X.env = pure false := by rfl) :
    MS X (.Assign [.Tuple [.Name x px, .Name y py] kt pt] (.Tuple [a, b] k2 pt2) pos) (mPar i j m) :=
  PS.imp (ps_par g.calm (by rw [g.hN]; exact g.nd) (g.x hi) (g.x hj) hij hx hy ha hw hs) fun D σ H ⟨ρ, σp, h, rs, rh, q⟩ => ⟨ρ, σp, h, rs, rh, FulS.ex q fun ρ1 H1 v v' h1 l r z w => by
    cases z with
    | nil => exact w.elim
    | cons z1 z =>
      cases z with
      | nil => exact w.elim
      | cons z2 z =>
        cases z with
        | nil => exact ⟨_, _, rfl, w ρ1 H1 _ (Le.refl _ _) r (((rs.le l).set i z1).set j z2)⟩
        | cons _ _ => exact w.elim⟩
/-- o[i] = v for a list -/
noncomputable def setL (o i v : PV) (h : MH) : Option MH := match o, i with
  | .loc n, .int j => (match h[n]? with
    | some (.lst xs) => (ixN xs.length j).map fun p => h.set n (.lst (xs.set p v))
    | _ => none)
  | _, _ => none
noncomputable def gSb (mo mi : Mx PV) : Mg := fun v => mEx mo fun o => mEx mi fun i σ h => match setL o i v h with
  | some h2 => .nx σ h2
  | none => .bad
theorem mg_sub {o i : Expr} {mo mi : Mx PV} {pos : Pos} (ho : ME X o mo) (hi : ME X i mi)
    (ha : ∀ v, assign (.Subscript o i pos) X.env v = (do
      let ov ← holding [v] (eval o X.env)
      let iv ← holding [v, ov] (eval i X.env)
      standAt pos
      holding [v, ov, iv] (setItem ov iv v)
      release [v, ov, iv] []) := by intro _; rfl) : MG X (.Subscript o i pos) (gSb mo mi) :=
  PG.imp (pg_sub ho hi set_list ha) fun v' σ H Q ⟨ρ, σp, h, v, rs, rh, rv, q⟩ => by
    refine ⟨ρ, σp, h, rs, rh, ?_⟩
    unfold gSb mEx at q
    cases e : mo σp h with
    | exc x h1 => rw [e] at q; exact q
    | bad => rw [e] at q; exact q
    | ok ov h1 =>
      rw [e] at q
      intro ρ1 H1 o' l1 rh1 ro
      refine ⟨ρ1, σp, h1, rs.le l1, rh1, ?_⟩
      dsimp only at q
      cases e2 : mi σp h1 with
      | exc x h2 => rw [e2] at q; exact XP.le (X := X) (σp := σp) (x := x) (h := h2) l1 q
      | bad => rw [e2] at q; exact q
      | ok iv h2 =>
        rw [e2] at q
        intro ρ2 H2 i' l2 rh2 ri
        dsimp only at q
        have ro2 := ro.le l2
        have rv2 := (rv.le l1).le l2
        unfold setL at q
        cases ro2 with
        | @loc n a en =>
          cases ri with
          | int j =>
            dsimp only at q
            obtain ⟨ob, eo, rob⟩ := rh2.obj en
            rw [eo] at q
            cases ob with
            | dic kvs => exact q.elim
            | exc x => exact q.elim
            | lst xs =>
              obtain ⟨ys, ey, ry⟩ := rob
              dsimp only at q
              cases ep : ixN xs.length j with
              | none => rw [ep] at q; exact q.elim
              | some p =>
                rw [ep] at q
                refine ⟨a, ys, j, p, rfl, rfl, ey, by rw [← ry.length]; exact ep, ?_⟩
                obtain ⟨r3, l3⟩ := rh2.put en (o := .lst (xs.set p v)) (ho := .lst (ys.set p v')) ⟨_, rfl, RPs.set rv2 p ry⟩
                exact q ρ2 _ σ (l1.trans (l2.trans l3)) r3 (rs.le (l1.trans (l2.trans l3)))
          | _ => exact q.elim
        | _ => exact q.elim

/-! ### loops -/
structure MIt where
  xs : List PV
  gd : Option Nat := none
def MIt.ok (it : MIt) (h : MH) : Prop := match it.gd with
  | none => True
  | some n => h[n]? = some (.lst it.xs)
def JRel (X : Cx) : Rl MIt It := fun ρ0 H0 it J => ∀ ρ H h (i : Nat), Le ρ0 H0 ρ H → RH X.K X.mg ρ H h → it.ok h →
  (i < it.xs.length → J.go i H ∧ ∀ x' H', J.yld i H x' H' → ∃ ρ' x, Le ρ H ρ' H' ∧ RH X.K X.mg ρ' H' h ∧ it.xs[i]? = some x ∧ RP X.K ρ' H' x x') ∧ (it.xs.length ≤ i → J.stop i H)
def MI (X : Cx) (tg iter : Expr) (m : Mx MIt) : Prop := PI X tg iter (tM X (JRel X) m)
theorem PI.imp {tg e : Expr} {t t' : TI} (h : PI X tg e t) (i : ∀ σ H Q, t' σ H Q → t σ H Q) : PI X tg e t' := fun pins s σ H Q I q => h pins s σ H Q I (i σ H Q q)
noncomputable def mGo (it : MIt) (g : Mg) (b : Mst) : List PV → Mst
  | [] => fun σ h => if it.ok h then .nx σ h else .bad
  | x :: r => fun σ h => if it.ok h then (match g x σ h with
      | .nx σ1 h1 => (match b σ1 h1 with
        | .nx σ2 h2 => mGo it g b r σ2 h2
        | .ct σ2 h2 => mGo it g b r σ2 h2
        | .bk σ2 h2 => .nx σ2 h2
        | .rt v h2 => .rt v h2
        | .exc e σ2 h2 => .exc e σ2 h2
        | .rse e σ2 h2 => .rse e σ2 h2
        | .bad => .bad)
      | .exc e σ1 h1 => .exc e σ1 h1
      | _ => .bad) else .bad
noncomputable def mFor (mi : Mx MIt) (g : Mg) (b : Mst) : Mst := mEx mi fun it => mGo it g b it.xs
theorem ms_for (gd : Good X N W G k) {tg iter : Expr} {body : List Stmt} {mi : Mx MIt} {g : Mg} {mb : Mst} {pos : Pos} (hi : MI X tg iter mi) (hg : MG X tg g) (hb : MSs X body mb)
    (hs : ∀ x, foldedSetIterable iter X.env x = pure x := by intro _; rfl) : MS X (.For tg iter body [] pos) (mFor mi g mb) := by
  refine PS.imp (ps_for gd.po gd.calm hi hg hb hs) fun D σ H ⟨ρ, σp, h, rs, rh, q⟩ => ⟨ρ, σp, h, rs, rh, FulS.ex q fun ρ1 H1 it J h1 l1 rh1 jr w => ?_⟩
  refine ⟨fun i m σ H => m = it.xs.length - i ∧ i ≤ it.xs.length ∧ ∃ ρ σp h, Le ρ1 H1 ρ H ∧ RS X.K ρ H σp σ ∧ RH X.K X.mg ρ H h ∧ FulS X ρ H (mGo it g mb (it.xs.drop i) σp h) D, ⟨_, rfl, Nat.zero_le _, ρ1, σp, h1, Le.refl _ _, rs.le l1, rh1, w⟩, ?_⟩
  rintro i m σ2 H2 ⟨rfl, hi, ρ2, σp2, h2, l2, rs2, rh2, w2⟩
  by_cases hlt : i < it.xs.length
  · have ed : it.xs.drop i = it.xs[i] :: it.xs.drop (i + 1) := List.drop_eq_getElem_cons hlt
    rw [ed] at w2
    unfold mGo at w2
    split at w2
    · rename_i hok
      obtain ⟨j1, j2⟩ := jr ρ2 H2 h2 i l2 rh2 hok
      obtain ⟨go, yl⟩ := j1 hlt
      refine .inr ⟨go, fun σ3 H3 => ∃ ρ3 σp3 h3, Le ρ1 H1 ρ3 H3 ∧ RS X.K ρ3 H3 σp3 σ3 ∧ RH X.K X.mg ρ3 H3 h3 ∧ FulS X ρ3 H3 (mGo it g mb (it.xs.drop (i + 1)) σp3 h3) D, fun σ3 H3 z => ⟨_, by omega, rfl, hlt, z⟩, fun x' H' y => ?_⟩
      obtain ⟨ρ', x, l', rh', ex, rx⟩ := yl x' H' y
      have ex' : x = it.xs[i] := by rw [List.getElem?_eq_getElem hlt] at ex; exact (Option.some.inj ex).symm
      subst ex'
      refine ⟨ρ', σp2, h2, _, rs2.le l', rh', rx, ?_⟩
      have w2' := FulS.le l' w2
      cases eg : g it.xs[i] σp2 h2 with
      | nx σ4 h4 =>
        rw [eg] at w2'
        intro ρ5 H5 σ5 l5 r5 s5
        refine ⟨ρ5, σ4, h4, s5, r5, ?_⟩
        have w3 := FulS.le l5 w2'
        have l6 : Le ρ1 H1 ρ5 H5 := l2.trans (l'.trans l5)
        dsimp only at w3
        cases em : mb σ4 h4 with
        | nx σ6 h6 => rw [em] at w3; exact fun ρ7 H7 σ7 l7 r7 s7 => ⟨ρ7, σ6, h6, l6.trans l7, s7, r7, FulS.le l7 w3⟩
        | ct σ6 h6 => rw [em] at w3; exact fun ρ7 H7 σ7 l7 r7 s7 => ⟨ρ7, σ6, h6, l6.trans l7, s7, r7, FulS.le l7 w3⟩
        | bk σ6 h6 => rw [em] at w3; exact w3
        | rt v h6 => rw [em] at w3; exact w3
        | exc e σ6 h6 => rw [em] at w3; exact w3
        | rse e σ6 h6 => rw [em] at w3; exact w3
        | bad => rw [em] at w3; exact w3
      | exc e σ4 h4 => rw [eg] at w2'; exact w2'
      | _ => rw [eg] at w2'; exact w2'.elim
    · exact w2.elim
  · have e : i = it.xs.length := by omega
    rw [e, List.drop_length] at w2
    unfold mGo at w2
    split at w2
    · rename_i hok
      obtain ⟨j1, j2⟩ := jr ρ2 H2 h2 i l2 rh2 hok
      exact .inl ⟨j2 (by omega), w2 ρ2 H2 σ2 (Le.refl _ _) rh2 rs2⟩
    · exact w2.elim
/-- what a list, a tuple, a range hand on -/
noncomputable def itSeq (v : PV) (h : MH) : Out MIt := match v with
  | .loc n => (match h[n]? with
    | some (.lst xs) => .ok ⟨xs, some n⟩ h
    | _ => .bad)
  | .frl xs => .ok ⟨xs, none⟩ h
  | _ => .bad
noncomputable def mItL (m : Mx PV) : Mx MIt := fun σ h => (m σ h).bind itSeq
theorem Itl_rel {ρ : List Addr} {H : Hp} {a : Addr} {xs : List PV} {gd : Option Nat} (hS : ∀ ρ' H' h, Le ρ H ρ' H' → RH X.K X.mg ρ' H' h → (⟨xs, gd⟩ : MIt).ok h → ∃ ys, SqL X.K H' a ys ∧ RPs X.K ρ' H' xs ys) : JRel X ρ H ⟨xs, gd⟩ (Itl X.K a) := by
  intro ρ' H' h i l rh ok
  obtain ⟨ys, hs, rs⟩ := hS ρ' H' h l rh ok
  refine ⟨fun hi => ?_, fun hi => ⟨ys, hs, by rw [← rs.length]; exact hi⟩⟩
  have hx : xs[i]? = some (xs[i]'hi) := List.getElem?_eq_getElem hi
  obtain ⟨y, ey, ry⟩ := rs.get hx
  refine ⟨⟨ys, y, hs, ey⟩, fun x' H2 ⟨e, z⟩ => ?_⟩
  subst e
  have : ys[i]? = some x' := z ys hs
  rw [ey] at this; cases this
  exact ⟨ρ', _, Le.refl _ _, rh, hx, ry⟩
theorem mi_list {tg l : Expr} {m : Mx PV} (hl : ME X l m) : MI X tg l (mItL m) :=
  PI.imp (pi_list hl) fun σ H Q ⟨ρ, σp, h, rs, rh, q⟩ => ⟨ρ, σp, h, rs, rh, Ful.bind q fun ρ1 H1 x x' h1 _ l1 rh1 rx q1 => by
    cases rx with
    | @loc n a e =>
      obtain ⟨ob, eo, rob⟩ := rh1.obj e
      dsimp only [itSeq] at q1
      rw [eo] at q1
      cases ob with
      | dic kvs => exact q1.elim
      | exc x => exact q1.elim
      | lst xs =>
        obtain ⟨ys, ey, ry⟩ := rob
        refine ⟨a, rfl, ⟨ys, SqL.of ey⟩, q1 ρ1 H1 _ (Le.refl _ _) rh1 (Itl_rel fun ρ' H' h' l rh' ok => ?_)⟩
        obtain ⟨ys', ey', ry'⟩ := rh'.at' n a _ (l.get e) ok
        exact ⟨ys', SqL.of ey', ry'⟩
    | frl s r =>
      exact ⟨_, rfl, ⟨_, s.sq⟩, q1 ρ1 H1 _ (Le.refl _ _) rh1 (Itl_rel fun ρ' H' h' l rh' ok => ⟨_, (l.sqf s).sq, r.le l⟩)⟩
    | _ => exact q1.elim⟩
noncomputable def mItT (m : Mx PV) : Mx MIt := fun σ h => (m σ h).bind fun v h1 => match v with
  | .tup xs => .ok ⟨xs, none⟩ h1
  | _ => .bad
theorem mi_tup {tg l : Expr} {m : Mx PV} (hl : ME X l m) : MI X tg l (mItT m) :=
  PI.imp (pi_tup hl) fun σ H Q ⟨ρ, σp, h, rs, rh, q⟩ => ⟨ρ, σp, h, rs, rh, Ful.bind q fun ρ1 H1 x x' h1 _ l1 rh1 rx q1 => by
    cases rx with
    | @tup xs a ys s r =>
      refine ⟨_, rfl, ⟨_, s⟩, q1 ρ1 H1 _ (Le.refl _ _) rh1 ?_⟩
      intro ρ' H' h' i l rh' ok
      have s' := l.sqt s
      have r' := r.le l
      refine ⟨fun hi => ?_, fun hi => ⟨ys, s', by rw [← r.length]; exact hi⟩⟩
      have hx : xs[i]? = some (xs[i]'hi) := List.getElem?_eq_getElem hi
      obtain ⟨y, ey, ry⟩ := r'.get hx
      refine ⟨⟨ys, y, s', ey⟩, fun x' H2 ⟨e, z⟩ => ?_⟩
      subst e
      have : ys[i]? = some x' := z ys s'
      rw [ey] at this; cases this
      exact ⟨ρ', _, Le.refl _ _, rh', hx, ry⟩
    | _ => exact q1.elim⟩
def rangeL (lo : Int) (n : Nat) : List PV := (List.range n).map fun (i : Nat) => PV.int (lo + (i : Int))
theorem rangeL_len (lo : Int) (n : Nat) : (rangeL lo n).length = n := by simp [rangeL]
theorem Itr_rel {ρ : List Addr} {H : Hp} (lo : Int) (n : Nat) : JRel X ρ H ⟨rangeL lo n, none⟩ (Itr lo n) := by
  intro ρ' H' h i l rh ok
  have hl : (rangeL lo n).length = n := rangeL_len lo n
  refine ⟨fun hi => ⟨by rw [hl] at hi; exact hi, fun x' H2 ⟨e1, e2⟩ => ?_⟩, fun hi => by rw [hl] at hi; exact hi⟩
  subst e1; subst e2
  rw [hl] at hi
  exact ⟨ρ', .int (lo + i), Le.refl _ _, rh, by simp [rangeL, hi], .int _⟩
noncomputable def mItR1 (m : Mx (List PV)) : Mx MIt := fun σ h => (m σ h).bind fun vs h1 => match vs with
  | [.int j] => if -(2 ^ 62) ≤ j ∧ j < 2 ^ 62 then .ok ⟨rangeL 0 j.toNat, none⟩ h1 else .bad
  | _ => .bad
noncomputable def mItR2 (m : Mx (List PV)) : Mx MIt := fun σ h => (m σ h).bind fun vs h1 => match vs with
  | [.int i, .int j] => if -(2 ^ 62) ≤ i ∧ i < 2 ^ 62 ∧ -(2 ^ 62) ≤ j ∧ j < 2 ^ 62 then .ok ⟨rangeL i (j - i).toNat, none⟩ h1 else .bad
  | _ => .bad
theorem mi_range1 {tg a : Expr} {m : Mx (List PV)} {p pos : Pos} (hg : Gl X "range") (hm : X.mg "range" = none) (ha : MA X [a] m) (hs : starEach [a] X.env = [(false, eval a X.env)] := by rfl) : MI X tg (.Call (.Name "range" p) [a] [] pos) (mItR1 m) := by
  refine PI.imp (pi_range1 hg hm ha hs) fun σ H Q ⟨ρ, σp, h, rs, rh, q⟩ => ⟨ρ, σp, h, rs, rh, Ful.bind q fun ρ1 H1 x x' h1 _ l1 rh1 rx q1 => ?_⟩
  cases rx with
  | nil => exact q1.elim
  | cons r1 t1 =>
    cases t1 with
    | nil =>
      cases r1 with
      | int j =>
        dsimp only at q1
        split at q1
        · rename_i hj
          exact ⟨j, rfl, hj.1, hj.2, q1 ρ1 H1 _ (Le.refl _ _) rh1 (Itr_rel 0 j.toNat)⟩
        · exact q1.elim
      | _ => exact q1.elim
    | cons r2 t2 => cases r1 <;> exact q1.elim
theorem mi_range2 {tg a b : Expr} {m : Mx (List PV)} {p pos : Pos} (hg : Gl X "range") (hm : X.mg "range" = none) (ha : MA X [a, b] m) (hs : starEach [a, b] X.env = [(false, eval a X.env), (false, eval b X.env)] := by rfl) (hs2 : starEach [b] X.env = [(false, eval b X.env)] := by rfl) : MI X tg (.Call (.Name "range" p) [a, b] [] pos) (mItR2 m) := by
  refine PI.imp (pi_range2 hg hm ha hs hs2) fun σ H Q ⟨ρ, σp, h, rs, rh, q⟩ => ⟨ρ, σp, h, rs, rh, Ful.bind q fun ρ1 H1 x x' h1 _ l1 rh1 rx q1 => ?_⟩
  cases rx with
  | nil => exact q1.elim
  | cons r1 t1 =>
    cases t1 with
    | nil => cases r1 <;> exact q1.elim
    | cons r2 t2 =>
      cases t2 with
      | cons _ _ => cases r1 <;> cases r2 <;> exact q1.elim
      | nil =>
        cases r1 with
        | int i =>
          cases r2 with
          | int j =>
            dsimp only at q1
            split at q1
            · rename_i hj
              exact ⟨i, j, rfl, hj, q1 ρ1 H1 _ (Le.refl _ _) rh1 (Itr_rel i (j - i).toNat)⟩
            · exact q1.elim
          | _ => exact q1.elim
        | _ => cases r2 <;> exact q1.elim

/-! ### while -/
def mWhN (c : Mx Bool) (b : Mst) : Nat → Mst
  | 0 => fun _ _ => .bad
  | n + 1 => mEx c fun x => if x = true then (fun σ h => match b σ h with
      | .nx σ2 h2 => mWhN c b n σ2 h2
      | .ct σ2 h2 => mWhN c b n σ2 h2
      | .bk σ2 h2 => .nx σ2 h2
      | .rt v h2 => .rt v h2
      | .exc e σ2 h2 => .exc e σ2 h2
      | .rse e σ2 h2 => .rse e σ2 h2
      | .bad => .bad) else mSkip
/-- fuel as much as is wanted -/
noncomputable def mWh (c : Mx Bool) (b : Mst) : Mst := fun σ h => if z : ∃ n, mWhN c b n σ h ≠ .bad then mWhN c b (Classical.choose z) σ h else .bad
theorem mWhN_mono {c : Mx Bool} {b : Mst} : ∀ {n : Nat} {σ : PSt} {h : MH}, mWhN c b n σ h ≠ .bad → mWhN c b (n + 1) σ h = mWhN c b n σ h
  | 0, _, _, q => absurd rfl q
  | n + 1, σ, h, q => by
    rw [mWhN] at q
    conv => lhs; rw [mWhN]
    conv => rhs; rw [mWhN]
    unfold mEx at q ⊢
    cases e : c σ h with
    | exc x h1 => rfl
    | bad => rfl
    | ok x h1 =>
      rw [e] at q
      dsimp only at q ⊢
      cases x with
      | false => rfl
      | true =>
        simp only [if_true] at q ⊢
        cases em : b σ h1 with
        | nx σ2 h2 => rw [em] at q; exact mWhN_mono q
        | ct σ2 h2 => rw [em] at q; exact mWhN_mono q
        | _ => rfl
theorem mWhN_le {c : Mx Bool} {b : Mst} {n m : Nat} {σ : PSt} {h : MH} (q : mWhN c b n σ h ≠ .bad) (l : n ≤ m) : mWhN c b m σ h = mWhN c b n σ h := by
  induction l with
  | refl => rfl
  | step l ih => rw [mWhN_mono (by rw [ih]; exact q), ih]
theorem mWh_of {c : Mx Bool} {b : Mst} {n : Nat} {σ : PSt} {h : MH} (q : mWhN c b n σ h ≠ .bad) : mWh c b σ h = mWhN c b n σ h := by
  have z : ∃ n, mWhN c b n σ h ≠ .bad := ⟨n, q⟩
  unfold mWh
  rw [dif_pos z]
  have q2 := Classical.choose_spec z
  rcases Nat.le_total n (Classical.choose z) with l | l
  · exact mWhN_le q l
  · exact (mWhN_le q2 l).symm
theorem ms_while (gd : Good X N W G k) {c : Expr} {body : List Stmt} {mc : Mx Bool} {mb : Mst} {pos : Pos} (hc : MT X c mc) (hb : MSs X body mb) : MS X (.While c body [] pos) (mWh mc mb) := by
  refine PS.imp (ps_while gd.po hc hb) fun D σ H ⟨ρ, σp, h, rs, rh, q⟩ => ?_
  refine ⟨fun m σ H => ∃ ρ σp h, RS X.K ρ H σp σ ∧ RH X.K X.mg ρ H h ∧ FulS X ρ H (mWhN mc mb m σp h) D, ?_, ?_⟩
  · unfold mWh at q
    split at q
    · exact ⟨_, ρ, σp, h, rs, rh, q⟩
    · exact q.elim
  · rintro m σ1 H1 ⟨ρ1, σp1, h1, rs1, rh1, q1⟩
    cases m with
    | zero => exact q1.elim
    | succ m =>
      rw [mWhN] at q1
      refine ⟨ρ1, σp1, h1, rs1, rh1, FulS.ex q1 fun ρ2 H2 v v' h2 l2 r2 z w => ?_⟩
      cases z
      cases v with
      | false => rw [if_neg Bool.false_ne_true] at w ⊢; exact w ρ2 H2 σ1 (Le.refl _ _) r2 (rs1.le l2)
      | true =>
        rw [if_pos rfl] at w ⊢
        refine ⟨fun σ H => ∃ ρ σp h, RS X.K ρ H σp σ ∧ RH X.K X.mg ρ H h ∧ FulS X ρ H (mWhN mc mb m σp h) D, fun σ' H' z => ⟨m, Nat.lt_succ_self _, z⟩, ρ2, σp1, h2, rs1.le l2, r2, ?_⟩
        cases em : mb σp1 h2 with
        | nx σ6 h6 => rw [em] at w; exact fun ρ7 H7 σ7 l7 r7 s7 => ⟨ρ7, σ6, h6, s7, r7, FulS.le l7 w⟩
        | ct σ6 h6 => rw [em] at w; exact fun ρ7 H7 σ7 l7 r7 s7 => ⟨ρ7, σ6, h6, s7, r7, FulS.le l7 w⟩
        | bk σ6 h6 => rw [em] at w; exact w
        | rt v h6 => rw [em] at w; exact w
        | exc e σ6 h6 => rw [em] at w; exact w
        | rse e σ6 h6 => rw [em] at w; exact w
        | bad => rw [em] at w; exact w
end
end MM

set_option Elab.async false
set_option linter.all false
set_option maxRecDepth 100000
namespace MM
open PySem PySem.Spec PyProof.Rows L2
noncomputable local instance (priority := 1) cdec3 (p : Prop) : Decidable p := Classical.propDecidable p
section
variable {X : Cx} {N W G : List Str} {k : Nat}

/-! ### a value as data -/
def rdAll (f : PV → Option PyData) : List PV → Option (List PyData)
  | [] => some []
  | x :: r => match f x, rdAll f r with
    | some d, some ds => some (d :: ds)
    | _, _ => none
def rd : Nat → MH → PV → Option PyData
  | 0, _, v => (match v with
    | .non => some .none
    | .bl b => some (.bool b)
    | .int i => some (.int i)
    | .str x => some (.str x)
    | _ => none)
  | n + 1, h, v => (match v with
    | .non => some .none
    | .bl b => some (.bool b)
    | .int i => some (.int i)
    | .str x => some (.str x)
    | .tup xs => (rdAll (rd n h) xs).map PyData.tuple
    | .frl xs => (rdAll (rd n h) xs).map PyData.list
    | .loc m => (match h[m]? with
      | some (.lst xs) => (rdAll (rd n h) xs).map PyData.list
      | _ => none))
theorem rdAll_reads {hp : Heap} {f : PV → Option PyData} {K : PySem.W.Frag} {ρ : List Addr} {H : Hp} (hf : ∀ v v' u d, RP K ρ H v v' → RelV v' u → f v = some d → ∃ as, Reads hp u d as) :
    ∀ {xs : List PV} {ys : List V} {us : List Value} {ds : List PyData}, RPs K ρ H xs ys → Vals ys us → rdAll f xs = some ds → ∃ as, ReadsAll hp us ds as
  | _, _, _, ds, .nil, .nil, e => by cases e; exact ⟨_, .nil⟩
  | _, _, _, ds, .cons r t, .cons v w, e => by
    simp only [rdAll] at e
    split at e
    · rename_i d ds' e1 e2
      cases e
      obtain ⟨a1, q1⟩ := hf _ _ _ _ r v e1
      obtain ⟨a2, q2⟩ := rdAll_reads hf t w e2
      exact ⟨_, .cons q1 q2⟩
    · cases e
theorem rd_reads {pins : List (Addr × Obj)} {σ : L2.St} {H : Hp} {s : Shared} {ρ : List Addr} {h : MH} (I : Inv X pins σ H s) (rh : RH X.K X.mg ρ H h) :
    ∀ (n : Nat) (v : PV) (v' : V) (u : Value) (d : PyData), RP X.K ρ H v v' → RelV v' u → rd n h v = some d → ∃ as, Reads s.heap u d as
  | 0, _, _, u, d, .non, r, e => by cases e; cases r; exact ⟨_, .none⟩
  | 0, _, _, u, d, .bl b, r, e => by cases e; cases r; exact ⟨_, .bool b⟩
  | 0, _, _, u, d, .int i, r, e => by cases e; obtain ⟨t, rfl⟩ := r; exact ⟨_, .int i t⟩
  | 0, _, _, u, d, .str i, r, e => by cases e; obtain ⟨t, rfl⟩ := r; exact ⟨_, .str i t⟩
  | 0, _, _, u, d, .tup _ _, r, e => by cases e
  | 0, _, _, u, d, .frl _ _, r, e => by cases e
  | 0, _, _, u, d, .loc _, r, e => by cases e
  | n + 1, _, _, u, d, .non, r, e => by cases e; cases r; exact ⟨_, .none⟩
  | n + 1, _, _, u, d, .bl b, r, e => by cases e; cases r; exact ⟨_, .bool b⟩
  | n + 1, _, _, u, d, .int i, r, e => by cases e; obtain ⟨t, rfl⟩ := r; exact ⟨_, .int i t⟩
  | n + 1, _, _, u, d, .str i, r, e => by cases e; obtain ⟨t, rfl⟩ := r; exact ⟨_, .str i t⟩
  | n + 1, .tup xs, _, u, d, .tup (a := a) s rr, r, e => by
    cases r
    simp only [rd] at e
    cases q : rdAll (rd n h) xs with
    | none => rw [q] at e; cases e
    | some ds =>
      rw [q] at e; cases e
      obtain ⟨its, rv, ⟨o, e1, e2, m, e3⟩, _⟩ := I.tuple s
      obtain ⟨as, ra⟩ := rdAll_reads (rd_reads I rh n) rr rv q
      exact ⟨_, .tuple e1 e2 e3 (by simpa using ra)⟩
  | n + 1, .frl xs, _, u, d, .frl (a := a) s rr, r, e => by
    cases r
    simp only [rd] at e
    cases q : rdAll (rd n h) xs with
    | none => rw [q] at e; cases e
    | some ds =>
      rw [q] at e; cases e
      obtain ⟨its, rv, ⟨o, m, e1, e2, _, e3⟩, _⟩ := I.list s.sq
      obtain ⟨as, ra⟩ := rdAll_reads (rd_reads I rh n) rr rv q
      exact ⟨_, .list e1 e2 e3 (by simpa using ra)⟩
  | n + 1, .loc m, _, u, d, .loc (a := a) en, r, e => by
    cases r
    simp only [rd] at e
    obtain ⟨ob, eo, rob⟩ := rh.obj en
    rw [eo] at e
    cases ob with
    | dic kvs => cases e
    | exc x => cases e
    | lst xs =>
      obtain ⟨ys, ey, ry⟩ := rob
      dsimp only at e
      cases q : rdAll (rd n h) xs with
      | none => rw [q] at e; cases e
      | some ds =>
        rw [q] at e; cases e
        obtain ⟨its, rv, ⟨o, m', e1, e2, _, e3⟩, _⟩ := I.list (SqL.of (K := X.K) ey)
        obtain ⟨as, ra⟩ := rdAll_reads (rd_reads I rh n) ry rv q
        exact ⟨_, .list e1 e2 e3 (by simpa using ra)⟩

/-! ### comparisons -/
noncomputable def opEq (x y : PV) (h : MH) : Out PV := match rd 60 h x, rd 60 h y with
  | some a, some b => if SeqAt.shaped a = true ∧ SeqAt.shaped b = true then .ok (.bl (PyData.eqv a b)) h else .bad
  | _, _ => .bad
noncomputable def opNe (x y : PV) (h : MH) : Out PV := match rd 60 h x, rd 60 h y with
  | some a, some b => if SeqAt.shaped a = true ∧ SeqAt.shaped b = true then .ok (.bl (!PyData.eqv a b)) h else .bad
  | _, _ => .bad
theorem oj_eq (hr : Room k X.A) : OpJ X (compareOp .Eq) opEq := by
  intro pins s σ H x' y' u v Q I rx' ry' ⟨ρ, h, x, y, rh, rx, ry, q⟩
  unfold opEq at q
  split at q
  · rename_i a b ea eb
    split at q
    · rename_i hs
      obtain ⟨_, ra⟩ := rd_reads I rh 60 x x' u a rx rx' ea
      obtain ⟨_, rb⟩ := rd_reads I rh 60 y y' v b ry ry' eb
      exact eq_dataH ra rb hs.1 hs.2 hr.units ⟨.bl _, H, I, rfl, q ρ H _ (Le.refl _ _) rh (.bl _)⟩
    · exact q.elim
  · exact q.elim
theorem oj_ne (hr : Room k X.A) : OpJ X (compareOp .NotEq) opNe := by
  intro pins s σ H x' y' u v Q I rx' ry' ⟨ρ, h, x, y, rh, rx, ry, q⟩
  unfold opNe at q
  split at q
  · rename_i a b ea eb
    split at q
    · rename_i hs
      obtain ⟨_, ra⟩ := rd_reads I rh 60 x x' u a rx rx' ea
      obtain ⟨_, rb⟩ := rd_reads I rh 60 y y' v b ry ry' eb
      exact ne_dataH ra rb hs.1 hs.2 hr.units ⟨.bl _, H, I, rfl, q ρ H _ (Le.refl _ _) rh (.bl _)⟩
    · exact q.elim
  · exact q.elim
def opII (f : Int → Int → PV) : PV → PV → MH → Out PV := fun x y h => match x, y with
  | .int i, .int j => .ok (f i j) h
  | _, _ => .bad
theorem oj_ii {F : Value → Value → Sem Value} {f : Int → Int → V} {g : Int → Int → PV} (ho : OpR X F (rI0 f)) (hfg : ∀ ρ H i j, RP X.K ρ H (g i j) (f i j)) : OpJ X F (opII g) := by
  intro pins s σ H x' y' u v Q I rx' ry' ⟨ρ, h, x, y, rh, rx, ry, q⟩
  cases rx with
  | int i =>
    cases ry with
    | int j => exact ho pins s σ H _ _ u v Q I rx' ry' ⟨i, j, rfl, rfl, q ρ H _ (Le.refl _ _) rh (hfg ρ H i j)⟩
    | _ => exact q.elim
  | _ => cases ry <;> exact q.elim
noncomputable def opLt := opII fun i j => .bl (decide (i < j))
noncomputable def opLe := opII fun i j => .bl (decide (i ≤ j))
noncomputable def opGt := opII fun i j => .bl (decide (j < i))
noncomputable def opGe := opII fun i j => .bl (decide (j ≤ i))
theorem oj_lt : OpJ X (compareOp .Lt) opLt := oj_ii op_lt fun _ _ _ _ => .bl _
theorem oj_le : OpJ X (compareOp .LtE) opLe := oj_ii op_le fun _ _ _ _ => .bl _
theorem oj_gt : OpJ X (compareOp .Gt) opGt := oj_ii op_gt fun _ _ _ _ => .bl _
theorem oj_ge : OpJ X (compareOp .GtE) opGe := oj_ii op_ge fun _ _ _ _ => .bl _
/-- is None, True, False -/
def opIs (neg : Bool) : PV → PV → MH → Out PV := fun x y h => match y with
  | .non => (match x with
    | .non => .ok (.bl (!neg)) h
    | _ => .ok (.bl neg) h)
  | .bl b => (match x with
    | .bl c => .ok (.bl (if neg then !(c == b) else c == b)) h
    | .non => .ok (.bl neg) h
    | .int _ => .ok (.bl neg) h
    | .str _ => .ok (.bl neg) h
    | .tup _ => .ok (.bl neg) h
    | _ => .bad)
  | _ => .bad

/-! ### arithmetic -/
noncomputable def opMul (x y : PV) (h : MH) : Out PV := match x, y with
  | .int i, .int j => if IntMulOk i j then .ok (.int (i * j)) h else .bad
  | .loc n, .int j => (match h[n]? with
    | some (.lst xs) => if -(2 ^ 63) ≤ j ∧ j < 2 ^ 63 then newL (List.flatten (List.replicate j.toNat xs)) h else .bad
    | _ => .bad)
  | _, _ => .bad
noncomputable def opFd (x y : PV) (h : MH) : Out PV := match x, y with
  | .int i, .int j => if j ≠ 0 ∧ Builtin.divisionGoesByPylong i j = false then .ok (.int (i.fdiv j)) h else .bad
  | _, _ => .bad
noncomputable def opMod (x y : PV) (h : MH) : Out PV := match x, y with
  | .int i, .int j => if j ≠ 0 then .ok (.int (i.fmod j)) h else .bad
  | _, _ => .bad
noncomputable def opPow (x y : PV) (h : MH) : Out PV := match x, y with
  | .int i, .int j => if CPow i j then .ok (.int (i ^ j.toNat)) h else .bad
  | _, _ => .bad
noncomputable def opAdd (x y : PV) (h : MH) : Out PV := match x, y with
  | .int i, .int j => .ok (.int (i + j)) h
  | .str a, .str b => if a.length + b.length ≤ sizeLine then .ok (.str (a ++ b)) h else .bad
  | .loc n, .loc m => (match h[n]?, h[m]? with
    | some (.lst xs), some (.lst ys) => newL (xs ++ ys) h
    | _, _ => .bad)
  | .tup xs, .tup ys => if xs ≠ [] then newT (xs ++ ys) h else .bad
  | _, _ => .bad
noncomputable def opSub := opII fun i j => .int (i - j)
def opNeg (x : PV) (h : MH) : Out PV := match x with
  | .int i => .ok (.int (-i)) h
  | _ => .bad
theorem oj_sub : OpJ X (binaryOp .Sub) opSub := oj_ii op_sub fun _ _ _ _ => .int _
theorem uj_neg : UnJ X (unaryOp .USub) opNeg := by
  intro pins s σ H x' u Q I rx' ⟨ρ, h, x, rh, rx, q⟩
  cases rx with
  | int i => exact un_neg pins s σ H _ u Q I rx' ⟨i, rfl, q ρ H _ (Le.refl _ _) rh (.int _)⟩
  | _ => exact q.elim
theorem oj_fd : OpJ X (binaryOp .FloorDiv) opFd := by
  intro pins s σ H x' y' u v Q I rx' ry' ⟨ρ, h, x, y, rh, rx, ry, q⟩
  cases rx with
  | int i =>
    cases ry with
    | int j =>
      dsimp only [opFd] at q
      split at q
      · rename_i hc
        obtain ⟨t, rfl⟩ := rx'
        obtain ⟨t', rfl⟩ := ry'
        exact floordiv_int hc.1 ⟨.int _, H, I.tok _, ⟨_, rfl⟩, q ρ H _ (Le.refl _ _) rh (.int _)⟩ (.inl hc.2)
      · exact q.elim
    | _ => exact q.elim
  | _ => cases ry <;> exact q.elim
theorem oj_mod : OpJ X (binaryOp .Mod) opMod := by
  intro pins s σ H x' y' u v Q I rx' ry' ⟨ρ, h, x, y, rh, rx, ry, q⟩
  cases rx with
  | int i =>
    cases ry with
    | int j =>
      dsimp only [opMod] at q
      split at q
      · rename_i hc
        obtain ⟨t, rfl⟩ := rx'
        obtain ⟨t', rfl⟩ := ry'
        exact mod_int' hc ⟨.int _, H, I.tok _, ⟨_, rfl⟩, q ρ H _ (Le.refl _ _) rh (.int _)⟩
      · exact q.elim
    | _ => exact q.elim
  | _ => cases ry <;> exact q.elim
theorem oj_pow : OpJ X (binaryOp .Pow) opPow := by
  intro pins s σ H x' y' u v Q I rx' ry' ⟨ρ, h, x, y, rh, rx, ry, q⟩
  cases rx with
  | int i =>
    cases ry with
    | int j =>
      dsimp only [opPow] at q
      split at q
      · rename_i hc
        exact op_pow pins s σ H _ _ u v Q I rx' ry' ⟨i, j, rfl, rfl, hc, q ρ H _ (Le.refl _ _) rh (.int _)⟩
      · exact q.elim
    | _ => exact q.elim
  | _ => cases ry <;> exact q.elim
theorem oj_add : OpJ X (binaryOp .Add) opAdd := by
  intro pins s σ H x' y' u v Q I rx' ry' ⟨ρ, h, x, y, rh, rx, ry, q⟩
  cases rx with
  | int i =>
    cases ry with
    | int j => exact op_add pins s σ H _ _ u v Q I rx' ry' ⟨i, j, rfl, rfl, q ρ H _ (Le.refl _ _) rh (.int _)⟩
    | _ => exact q.elim
  | str a =>
    cases ry with
    | str b =>
      dsimp only [opAdd] at q
      split at q
      · rename_i hl
        exact op_add_str pins s σ H _ _ u v Q I rx' ry' ⟨a, b, rfl, rfl, hl, q ρ H _ (Le.refl _ _) rh (.str _)⟩
      · exact q.elim
    | _ => exact q.elim
  | @loc n a e =>
    cases ry with
    | @loc m b e2 =>
      dsimp only [opAdd] at q
      obtain ⟨o1, h1, r1⟩ := rh.obj e
      obtain ⟨o2, h2, r2⟩ := rh.obj e2
      rw [h1, h2] at q
      cases o1 with
      | dic kvs => exact q.elim
      | exc x => exact q.elim
      | lst xs =>
        cases o2 with
        | dic kvs => exact q.elim
        | exc x => exact q.elim
        | lst ys =>
          obtain ⟨xs', ex, rx1⟩ := r1
          obtain ⟨ys', ey, ry1⟩ := r2
          obtain ⟨z1, z2⟩ := newL_ok rh (rx1.append ry1) q
          exact op_cat pins s σ H _ _ u v Q I rx' ry' ⟨a, b, xs', ys', rfl, rfl, ex, ey, by rw [← List.length_append]; exact z1, z2⟩
    | _ => exact q.elim
  | tup s1 r1 =>
    cases ry with
    | tup s2 r2 =>
      dsimp only [opAdd] at q
      split at q
      · rename_i hne
        obtain ⟨z1, z2⟩ := newT_ok rh (r1.append r2) q
        refine op_catT pins s σ H _ _ u v Q I rx' ry' ⟨_, _, _, _, rfl, rfl, s1, s2, ?_, by rw [← List.length_append]; exact z1, fun z => ?_, fun _ => z2⟩
        · rintro rfl
          cases r1
          exact hne rfl
        · subst z
          cases r2
          unfold newT at q
          split at q
          · exact q ρ H _ (Le.refl _ _) rh (by rw [List.append_nil]; exact .tup s1 r1)
          · exact q.elim
      · exact q.elim
    | _ => exact q.elim
  | _ => cases ry <;> exact q.elim
theorem rep_flat : ∀ (n : Nat) (xs : List V), (List.replicate n xs).flatten = (List.replicate n xs).flatten := fun _ _ => rfl
theorem RPs.rep {K : PySem.W.Frag} {ρ : List Addr} {H : Hp} {xs : List PV} {ys : List V} (r : RPs K ρ H xs ys) : ∀ n : Nat, RPs K ρ H (List.replicate n xs).flatten (List.replicate n ys).flatten
  | 0 => .nil
  | n + 1 => by rw [List.replicate_succ, List.replicate_succ, List.flatten_cons, List.flatten_cons]; exact r.append (RPs.rep r n)
end
end MM

set_option Elab.async false
set_option linter.all false
set_option maxRecDepth 100000
namespace MM
open PySem PySem.Spec PyProof.Rows L2
noncomputable local instance (priority := 1) cdec4 (p : Prop) : Decidable p := Classical.propDecidable p
section
variable {X : Cx} {N W G : List Str} {k : Nat}
theorem oj_mul : OpJ X (binaryOp .Mult) opMul := by
  intro pins s σ H x' y' u v Q I rx' ry' ⟨ρ, h, x, y, rh, rx, ry, q⟩
  cases rx with
  | int i =>
    cases ry with
    | int j =>
      dsimp only [opMul] at q
      split at q
      · rename_i hc
        obtain ⟨t, rfl⟩ := rx'
        obtain ⟨t', rfl⟩ := ry'
        exact PyProof.Rows.mul_int ⟨.int _, H, I.tok _, ⟨_, rfl⟩, q ρ H _ (Le.refl _ _) rh (.int _)⟩ hc
      · exact q.elim
    | _ => exact q.elim
  | @loc n a e =>
    cases ry with
    | int j =>
      dsimp only [opMul] at q
      obtain ⟨o1, h1, r1⟩ := rh.obj e
      rw [h1] at q
      cases o1 with
      | dic kvs => exact q.elim
      | exc x => exact q.elim
      | lst xs =>
        dsimp only at q
        split at q
        · rename_i hj
          obtain ⟨xs', ex, rx1⟩ := r1
          obtain ⟨z1, z2⟩ := newL_ok rh (rx1.rep j.toNat) q
          refine op_rep pins s σ H _ _ u v Q I rx' ry' ⟨a, j, xs', rfl, rfl, ex, hj.1, hj.2, ?_, z2⟩
          rw [len_rep] at z1
          rw [Nat.mul_comm]; exact z1
        · exact q.elim
    | _ => exact q.elim
  | _ => cases ry <;> exact q.elim
theorem is_bl {pins : List (Addr × Obj)} {σ : L2.St} {H : Hp} {s : Shared} {Q : VK} {x' : V} {u : Value} {b c : Bool} (I : Inv X pins σ H s) (r : RelV x' u) (hp : plainIs u (.bool b) = true) (hc : (u == .bool b) = c) (q : Q (.bl c) H) :
    wpAny (model X.prog X.w) X.A (compareOp .Is u (.bool b)) (EP X pins σ Q) X.xe s := by
  show wpAny _ _ (do return Value.bool (← isSame u (.bool b))) _ _ _
  exact wpAny_bind (wpAny_isSame_plain hp (wpAny_pure (by rw [hc]; exact ⟨.bl c, H, I, rfl, q⟩)))
theorem isn_bl {pins : List (Addr × Obj)} {σ : L2.St} {H : Hp} {s : Shared} {Q : VK} {x' : V} {u : Value} {b c : Bool} (I : Inv X pins σ H s) (r : RelV x' u) (hp : plainIs u (.bool b) = true) (hc : (!(u == .bool b)) = c) (q : Q (.bl c) H) :
    wpAny (model X.prog X.w) X.A (compareOp .IsNot u (.bool b)) (EP X pins σ Q) X.xe s := by
  show wpAny _ _ (do return Value.bool (!(← isSame u (.bool b)))) _ _ _
  exact wpAny_bind (wpAny_isSame_plain hp (wpAny_pure (by rw [hc]; exact ⟨.bl c, H, I, rfl, q⟩)))
theorem oj_is : OpJ X (compareOp .Is) (opIs false) := by
  intro pins s σ H x' y' u v Q I rx' ry' ⟨ρ, h, x, y, rh, rx, ry, q⟩
  cases ry with
  | non =>
    refine op_isN pins s σ H _ _ u v Q I rx' ry' ⟨rfl, ?_⟩
    cases rx <;> exact q ρ H _ (Le.refl _ _) rh (by first | exact .bl true | exact .bl false)
  | bl b =>
    cases ry'
    cases rx with
    | non => cases rx'; exact is_bl (x' := .non) (c := false) I rfl (by cases b <;> rfl) (by cases b <;> rfl) (q ρ H _ (Le.refl _ _) rh (.bl false))
    | bl c => cases rx'; exact is_bl (x' := .bl c) (c := c == b) I rfl (by cases b <;> cases c <;> rfl) (by cases b <;> cases c <;> rfl) (q ρ H _ (Le.refl _ _) rh (.bl _))
    | int i => obtain ⟨t, rfl⟩ := rx'; exact is_bl (x' := .int i) (c := false) I ⟨_, rfl⟩ (by cases b <;> rfl) (by cases b <;> rfl) (q ρ H _ (Le.refl _ _) rh (.bl false))
    | str i => obtain ⟨t, rfl⟩ := rx'; exact is_bl (x' := .str i) (c := false) I ⟨_, rfl⟩ (by cases b <;> rfl) (by cases b <;> rfl) (q ρ H _ (Le.refl _ _) rh (.bl false))
    | tup s1 r1 => cases rx'; exact is_bl (x' := .ref _) (c := false) I rfl (by cases b <;> rfl) (by cases b <;> rfl) (q ρ H _ (Le.refl _ _) rh (.bl false))
    | _ => exact q.elim
  | _ => exact q.elim
theorem oj_isn : OpJ X (compareOp .IsNot) (opIs true) := by
  intro pins s σ H x' y' u v Q I rx' ry' ⟨ρ, h, x, y, rh, rx, ry, q⟩
  cases ry with
  | non =>
    refine op_notN pins s σ H _ _ u v Q I rx' ry' ⟨rfl, ?_⟩
    cases rx <;> exact q ρ H _ (Le.refl _ _) rh (by first | exact .bl true | exact .bl false)
  | bl b =>
    cases ry'
    cases rx with
    | non => cases rx'; exact isn_bl (x' := .non) (c := true) I rfl (by cases b <;> rfl) (by cases b <;> rfl) (q ρ H _ (Le.refl _ _) rh (.bl true))
    | bl c => cases rx'; exact isn_bl (x' := .bl c) (c := !(c == b)) I rfl (by cases b <;> cases c <;> rfl) (by cases b <;> cases c <;> rfl) (q ρ H _ (Le.refl _ _) rh (.bl _))
    | int i => obtain ⟨t, rfl⟩ := rx'; exact isn_bl (x' := .int i) (c := true) I ⟨_, rfl⟩ (by cases b <;> rfl) (by cases b <;> rfl) (q ρ H _ (Le.refl _ _) rh (.bl true))
    | str i => obtain ⟨t, rfl⟩ := rx'; exact isn_bl (x' := .str i) (c := true) I ⟨_, rfl⟩ (by cases b <;> rfl) (by cases b <;> rfl) (q ρ H _ (Le.refl _ _) rh (.bl true))
    | tup s1 r1 => cases rx'; exact isn_bl (x' := .ref _) (c := true) I rfl (by cases b <;> rfl) (by cases b <;> rfl) (q ρ H _ (Le.refl _ _) rh (.bl true))
    | _ => exact q.elim
  | _ => exact q.elim

/-! ### items -/
noncomputable def opIx (x y : PV) (h : MH) : Out PV := match y with
  | .int i => (match x with
    | .loc n => (match h[n]? with
      | some (.lst xs) => (match atI xs i with
        | some v => .ok v h
        | none => .bad)
      | _ => .bad)
    | .tup xs => (match atI xs i with
      | some v => .ok v h
      | none => .bad)
    | .frl xs => (match atI xs i with
      | some v => .ok v h
      | none => .bad)
    | .str z => (match atI z.cps.toList i with
      | some c => if z.length ≤ sizeLine then .ok (.str ⟨#[c]⟩) h else .bad
      | none => .bad)
    | _ => .bad)
  | _ => .bad
theorem atI_rel {K : PySem.W.Frag} {ρ : List Addr} {H : Hp} {xs : List PV} {ys : List V} {i : Int} {v : PV} (r : RPs K ρ H xs ys) (e : atI xs i = some v) : ∃ v', atI ys i = some v' ∧ RP K ρ H v v' := by
  unfold atI at e ⊢
  rw [← r.length]
  cases q : ixN xs.length i with
  | none => rw [q] at e; cases e
  | some j =>
    rw [q] at e
    exact r.get e
theorem me_ix {a b : Expr} {ma mb : Mx PV} {pos : Pos} (ha : ME X a ma) (hb : ME X b mb) (hs : PlainIx b) : ME X (.Subscript a b pos) (mBin opIx ma mb) := by
  refine PE.imp (pe_ix ix_seq ha hb hs) fun σ H Q q => ?_
  obtain ⟨ρ, σp, h, rs, rh, q⟩ := q
  refine ⟨ρ, σp, h, rs, rh, Ful.bind q fun ρ1 H1 x x' h1 _ l1 rh1 rx q1 => ⟨ρ1, σp, h1, rs.le l1, rh1, Ful.bind q1 fun ρ2 H2 y y' h2 _ l2 rh2 ry q2 => ?_⟩⟩
  have rx2 := rx.le l2
  cases ry with
  | int i =>
    cases rx2 with
    | @loc n a e =>
      obtain ⟨ob, eo, rob⟩ := rh2.obj e
      dsimp only [opIx] at q2
      rw [eo] at q2
      cases ob with
      | dic kvs => exact q2.elim
      | exc x => exact q2.elim
      | lst xs =>
        obtain ⟨ys, ey, rr⟩ := rob
        dsimp only at q2
        cases ea : atI xs i with
        | none => rw [ea] at q2; exact q2.elim
        | some v =>
          rw [ea] at q2
          obtain ⟨v', e', rv⟩ := atI_rel rr ea
          exact .inl ⟨a, ys, i, v', rfl, rfl, SqL.of ey, e', q2 ρ2 H2 _ (Le.refl _ _) rh2 rv⟩
    | @tup xs a ys s1 rr =>
      dsimp only [opIx] at q2
      cases ea : atI xs i with
      | none => rw [ea] at q2; exact q2.elim
      | some v =>
        rw [ea] at q2
        obtain ⟨v', e', rv⟩ := atI_rel rr ea
        exact .inr (.inl ⟨_, _, i, v', rfl, rfl, s1, e', q2 ρ2 H2 _ (Le.refl _ _) rh2 rv⟩)
    | @frl xs a ys s1 rr =>
      dsimp only [opIx] at q2
      cases ea : atI xs i with
      | none => rw [ea] at q2; exact q2.elim
      | some v =>
        rw [ea] at q2
        obtain ⟨v', e', rv⟩ := atI_rel rr ea
        exact .inl ⟨_, _, i, v', rfl, rfl, s1.sq, e', q2 ρ2 H2 _ (Le.refl _ _) rh2 rv⟩
    | str z =>
      dsimp only [opIx] at q2
      cases ea : atI z.cps.toList i with
      | none => rw [ea] at q2; exact q2.elim
      | some c =>
        rw [ea] at q2
        dsimp only at q2
        split at q2
        · rename_i hz
          exact .inr (.inr ⟨z, i, c, rfl, rfl, hz, ea, q2 ρ2 H2 _ (Le.refl _ _) rh2 (.str _)⟩)
        · exact q2.elim
    | _ => exact q2.elim
  | _ => exact q2.elim

/-! ### calls of Python's own -/
def mCB (f : List PV → MH → Out PV) (m : Mx (List PV)) : Mx PV := fun σ h => (m σ h).bind fun xs h1 => (f xs h1).ne
section
variable {x : Str} {id T : String} {e : Expr} {es : List Expr} {f : List PV → MH → Out PV} {m : Mx (List PV)} {p pos : Pos}
theorem tM_cb {σ : L2.St} {H : Hp} {Q : VK} (q : tM X (RV' X) (mCB f m) σ H Q) : tCB (cJ X f) (tM X (RVs' X) m) σ H Q := by
  obtain ⟨ρ, σp, h, rs, rh, q⟩ := q
  exact ⟨ρ, σp, h, rs, rh, Ful.bind q fun ρ1 H1 x x' h1 _ l1 rh1 rx q1 => ⟨ρ1, h1, x, rh1, rx, q1.zero⟩⟩
theorem me_callB (g : Good X N W G k) (j : Nat) (hj : G[j]? = some x) (hc : CallJ X (.builtin id) f) (hm : X.mg x = none) (hv : bootBuiltins x = some (.builtin id)) (ha : MA X (e :: es) m)
    (he : starEach (e :: es) X.env = (false, eval e X.env) :: starEach es X.env := by rfl) (hpl : (backTo pos (starEach es X.env)).any (·.1) = false := by rfl) : ME X (.Call (.Name x p) (e :: es) [] pos) (mCB f m) :=
  have d := g.dbg x (List.mem_append_right _ (mem_of hj))
  PE.imp (pe_callB hc (g.gl x (mem_of hj)) hm hv ha d.2.2 d.1 he hpl) fun _ _ _ q => tM_cb q
theorem me_callTy (g : Good X N W G k) (j : Nat) (hj : G[j]? = some x) (hc : CallJ X (.type T) f) (hm : X.mg x = none) (hv : bootBuiltins x = some (.type T)) (ha : MA X (e :: es) m)
    (he : starEach (e :: es) X.env = (false, eval e X.env) :: starEach es X.env := by rfl) (hpl : (backTo pos (starEach es X.env)).any (·.1) = false := by rfl) : ME X (.Call (.Name x p) (e :: es) [] pos) (mCB f m) :=
  have d := g.dbg x (List.mem_append_right _ (mem_of hj))
  PE.imp (pe_callTy hc (g.gl x (mem_of hj)) hm hv ha d.2.2 d.1 he hpl) fun _ _ _ q => tM_cb q
end
def fAbs (xs : List PV) (h : MH) : Out PV := match xs with
  | [.int i] => .ok (.int (if i < 0 then -i else i)) h
  | _ => .bad
def fMin (xs : List PV) (h : MH) : Out PV := match xs with
  | [.int i, .int j] => .ok (.int (if j < i then j else i)) h
  | _ => .bad
def fMax (xs : List PV) (h : MH) : Out PV := match xs with
  | [.int i, .int j] => .ok (.int (if j > i then j else i)) h
  | _ => .bad
def fInt (xs : List PV) (h : MH) : Out PV := match xs with
  | [.int i] => .ok (.int i) h
  | [.bl b] => .ok (.int (if b then 1 else 0)) h
  | _ => .bad
noncomputable def fStr (xs : List PV) (h : MH) : Out PV := match xs with
  | [.int i] => if i.natAbs.log2 < 1920 then .ok (.str (toString i)) h else .bad
  | _ => .bad
noncomputable def fLen (xs : List PV) (h : MH) : Out PV := match xs with
  | [.loc n] => (match h[n]? with
    | some (.lst ys) => .ok (.int ys.length) h
    | _ => .bad)
  | [.tup ys] => .ok (.int ys.length) h
  | [.frl ys] => .ok (.int ys.length) h
  | [.str z] => if z.length ≤ sizeLine then .ok (.int z.length) h else .bad
  | _ => .bad
theorem cj_abs : CallJ X (.builtin "abs") fAbs := by
  intro pins s σ H xs us Q I r ⟨ρ, h, ps, rh, rp, q⟩
  cases rp with
  | nil => exact q.elim
  | cons r1 t1 =>
    cases t1 with
    | cons _ _ => cases r1 <;> exact q.elim
    | nil =>
      cases r1 with
      | int i => exact call_abs pins s σ H _ us Q I r ⟨i, rfl, q ρ H _ (Le.refl _ _) rh (.int _)⟩
      | _ => exact q.elim
theorem two_ints {f : List PV → MH → Out PV} {F : Int → Int → Int} {r : List V → Hp → VK → Prop} {V0 : Value} (hf : ∀ i j h, f [.int i, .int j] h = .ok (.int (F i j)) h) (hb : ∀ xs h, (∀ i j, xs ≠ [.int i, .int j]) → f xs h = .bad)
    (hc : CallR X V0 (fun xs H Q => ∃ i j, xs = [.int i, .int j] ∧ Q (.int (F i j)) H)) : CallJ X V0 f := by
  intro pins s σ H xs us Q I r ⟨ρ, h, ps, rh, rp, q⟩
  by_cases z : ∃ i j, ps = [.int i, .int j]
  · obtain ⟨i, j, rfl⟩ := z
    cases rp with
    | cons r1 t1 => cases t1 with
      | cons r2 t2 =>
        cases t2
        cases r1
        cases r2
        rw [hf] at q
        exact hc pins s σ H _ us Q I r ⟨i, j, rfl, q ρ H _ (Le.refl _ _) rh (.int _)⟩
  · rw [hb ps h fun i j e => z ⟨i, j, e⟩] at q
    exact q.elim
theorem cj_min (g : Good X N W G k) : CallJ X (.builtin "min") fMin := two_ints (r := fun _ _ _ => True) (F := fun i j => if j < i then j else i) (fun _ _ _ => rfl) (fun xs h z => by unfold fMin; split <;> first | rfl | exact absurd rfl (z _ _)) (call_min2 g.calm)
theorem cj_max (g : Good X N W G k) : CallJ X (.builtin "max") fMax := two_ints (r := fun _ _ _ => True) (F := fun i j => if j > i then j else i) (fun _ _ _ => rfl) (fun xs h z => by unfold fMax; split <;> first | rfl | exact absurd rfl (z _ _)) (call_max2 g.calm)
theorem cj_int : CallJ X (.type "int") fInt := by
  intro pins s σ H xs us Q I r ⟨ρ, h, ps, rh, rp, q⟩
  cases rp with
  | nil => exact q.elim
  | cons r1 t1 =>
    cases t1 with
    | cons _ _ => cases r1 <;> exact q.elim
    | nil =>
      cases r1 with
      | int i => exact call_int1 pins s σ H _ us Q I r (.inl ⟨i, rfl, q ρ H _ (Le.refl _ _) rh (.int _)⟩)
      | bl b => exact call_int1 pins s σ H _ us Q I r (.inr ⟨b, rfl, q ρ H _ (Le.refl _ _) rh (.int _)⟩)
      | _ => exact q.elim
theorem cj_str : CallJ X (.type "str") fStr := by
  intro pins s σ H xs us Q I r ⟨ρ, h, ps, rh, rp, q⟩
  cases rp with
  | nil => exact q.elim
  | cons r1 t1 =>
    cases t1 with
    | cons _ _ => cases r1 <;> exact q.elim
    | nil =>
      cases r1 with
      | int i =>
        dsimp only [fStr] at q
        split at q
        · rename_i hz
          exact call_str_int pins s σ H _ us Q I r ⟨i, rfl, hz, q ρ H _ (Le.refl _ _) rh (.str _)⟩
        · exact q.elim
      | _ => exact q.elim
theorem cj_len : CallJ X (.builtin "len") fLen := by
  intro pins s σ H xs us Q I r ⟨ρ, h, ps, rh, rp, q⟩
  cases rp with
  | nil => exact q.elim
  | cons r1 t1 =>
    cases t1 with
    | cons _ _ => cases r1 <;> exact q.elim
    | nil =>
      cases r1 with
      | @loc n a e =>
        obtain ⟨ob, eo, rob⟩ := rh.obj e
        dsimp only [fLen] at q
        rw [eo] at q
        cases ob with
        | dic kvs => exact q.elim
        | exc x => exact q.elim
        | lst xs =>
          obtain ⟨ys, ey, rr⟩ := rob
          exact call_len pins s σ H _ us Q I r ⟨_, _, rfl, .inl ⟨ys, SqL.of ey, rfl⟩, by rw [← rr.length]; exact q ρ H _ (Le.refl _ _) rh (.int _)⟩
      | tup s1 rr => exact call_len pins s σ H _ us Q I r ⟨_, _, rfl, .inr ⟨_, s1, rfl⟩, by rw [← rr.length]; exact q ρ H _ (Le.refl _ _) rh (.int _)⟩
      | frl s1 rr => exact call_len pins s σ H _ us Q I r ⟨_, _, rfl, .inl ⟨_, s1.sq, rfl⟩, by rw [← rr.length]; exact q ρ H _ (Le.refl _ _) rh (.int _)⟩
      | str z =>
        dsimp only [fLen] at q
        split at q
        · rename_i hz
          exact call_len pins s σ H _ us Q I r ⟨_, _, rfl, ⟨hz, rfl⟩, q ρ H _ (Le.refl _ _) rh (.int _)⟩
        · exact q.elim
      | _ => exact q.elim
end
end MM

set_option Elab.async false
set_option linter.all false
set_option maxRecDepth 100000
namespace MM
open PySem PySem.Spec PyProof.Rows L2
noncomputable local instance (priority := 1) cdec5 (p : Prop) : Decidable p := Classical.propDecidable p
section
variable {X : Cx} {N W G : List Str} {k : Nat}

/-! ### isinstance -/
def tyP (h : MH) : PV → Option String
  | .non => some "NoneType"
  | .bl _ => some "bool"
  | .int _ => some "int"
  | .str _ => some "str"
  | .tup _ => some "tuple"
  | .frl _ => some "list"
  | .loc n => match h[n]? with
    | some (.lst _) => some "list"
    | some (.dic _) => some "dict"
    | _ => none
def isaT (t : String) (T : String) : Bool := t == T || (t == "bool" && T == "int")
def fIsi (Ts : List String) (x : PV) (h : MH) : Out PV := match tyP h x with
  | some t => .ok (.bl (Ts.any (isaT t))) h
  | none => .bad
def okT (T : String) : Prop := ∀ K : PySem.W.Frag, ∀ t ∈ ["NoneType", "bool", "int", "str", "tuple", "list", "dict"], PySem.W.kitOne K (.type t) (.type T) = some (isaT t T)
theorem okT_of {T : String} (h1 : ∀ K, PySem.W.kitOne K (.type "NoneType") (.type T) = some (isaT "NoneType" T)) (h2 : ∀ K, PySem.W.kitOne K (.type "bool") (.type T) = some (isaT "bool" T)) (h3 : ∀ K, PySem.W.kitOne K (.type "int") (.type T) = some (isaT "int" T))
    (h4 : ∀ K, PySem.W.kitOne K (.type "str") (.type T) = some (isaT "str" T)) (h5 : ∀ K, PySem.W.kitOne K (.type "tuple") (.type T) = some (isaT "tuple" T)) (h6 : ∀ K, PySem.W.kitOne K (.type "list") (.type T) = some (isaT "list" T))
    (h7 : ∀ K, PySem.W.kitOne K (.type "dict") (.type T) = some (isaT "dict" T)) : okT T := by
  intro K t ht
  simp only [List.mem_cons, List.not_mem_nil, or_false] at ht
  rcases ht with rfl | rfl | rfl | rfl | rfl | rfl | rfl
  · exact h1 K
  · exact h2 K
  · exact h3 K
  · exact h4 K
  · exact h5 K
  · exact h6 K
  · exact h7 K
theorem okT_int : okT "int" := okT_of (fun _ => rfl) (fun _ => rfl) (fun _ => rfl) (fun _ => rfl) (fun _ => rfl) (fun _ => rfl) (fun _ => rfl)
theorem okT_bool : okT "bool" := okT_of (fun _ => rfl) (fun _ => rfl) (fun _ => rfl) (fun _ => rfl) (fun _ => rfl) (fun _ => rfl) (fun _ => rfl)
theorem okT_str : okT "str" := okT_of (fun _ => rfl) (fun _ => rfl) (fun _ => rfl) (fun _ => rfl) (fun _ => rfl) (fun _ => rfl) (fun _ => rfl)
theorem okT_list : okT "list" := okT_of (fun _ => rfl) (fun _ => rfl) (fun _ => rfl) (fun _ => rfl) (fun _ => rfl) (fun _ => rfl) (fun _ => rfl)
theorem okT_tuple : okT "tuple" := okT_of (fun _ => rfl) (fun _ => rfl) (fun _ => rfl) (fun _ => rfl) (fun _ => rfl) (fun _ => rfl) (fun _ => rfl)
theorem okT_dict : okT "dict" := okT_of (fun _ => rfl) (fun _ => rfl) (fun _ => rfl) (fun _ => rfl) (fun _ => rfl) (fun _ => rfl) (fun _ => rfl)
/-- a value's type stands in the real heap -/
theorem kitx_of {pins : List (Addr × Obj)} {σ : L2.St} {H : Hp} {s : Shared} {ρ : List Addr} {h : MH} {x : PV} {x' : V} {u : Value} {t : String} (I : Inv X pins σ H s) (rh : RH X.K X.mg ρ H h) (rx : RP X.K ρ H x x') (ru : RelV x' u) (e : tyP h x = some t) :
    t ∈ ["NoneType", "bool", "int", "str", "tuple", "list", "dict"] ∧ u ≠ .builtin "__main__.__loader__#opaque" ∧ ∃ Hq, PySem.W.KitX X.K u (.type t) Hq ∧ Hq s.heap := by
  cases rx with
  | non => cases e; cases ru; exact ⟨by simp, (fun z => nomatch z), _, PySem.W.kitx_none, trivial⟩
  | bl b => cases e; cases ru; exact ⟨by simp, (fun z => nomatch z), _, PySem.W.kitx_bool, trivial⟩
  | int i => cases e; obtain ⟨t, rfl⟩ := ru; exact ⟨by simp, (fun z => nomatch z), _, PySem.W.kitx_int, trivial⟩
  | str i => cases e; obtain ⟨t, rfl⟩ := ru; exact ⟨by simp, (fun z => nomatch z), _, PySem.W.kitx_str, trivial⟩
  | tup s1 r1 =>
    cases e; cases ru
    obtain ⟨its, rv, ⟨o, e1, e2, _⟩, _⟩ := I.tuple s1
    exact ⟨by simp, (fun z => nomatch z), _, PySem.W.kitx_tuple, ⟨o, e1, e2⟩⟩
  | frl s1 r1 =>
    cases e; cases ru
    obtain ⟨its, rv, ⟨o, m, e1, e2, _, e3⟩, _⟩ := I.list s1.sq
    exact ⟨by simp, (fun z => nomatch z), _, PySem.W.kitx_list, ⟨o, e1, e2⟩⟩
  | @loc n a en =>
    obtain ⟨ob, eo, rob⟩ := rh.obj en
    dsimp only [tyP] at e
    rw [eo] at e
    cases ru
    cases ob with
    | lst xs =>
      cases e
      obtain ⟨ys, ey, _⟩ := rob
      obtain ⟨its, rv, ⟨o, m, e1, e2, _, e3⟩, _⟩ := I.list (SqL.of (K := X.K) ey)
      exact ⟨by simp, (fun z => nomatch z), _, PySem.W.kitx_list, ⟨o, e1, e2⟩⟩
    | dic kvs =>
      cases e
      obtain ⟨_, ey⟩ := rob
      obtain ⟨_, _, vs, _, p⟩ := (show ObjOk X.prog X.w H s.heap a (.dK []) from I.hok a _ ey)
      obtain ⟨o, es, ep, h1, h2, _⟩ := p
      exact ⟨by simp, (fun z => nomatch z), _, PySem.W.kitx_dict, ⟨o, h1, h2.1⟩⟩
    | exc x => cases e
theorem me_isi (g : Good X N W G k) {a : Expr} {m : Mx PV} {T : String} {c : Str} {i j : Nat} {p q pos : Pos} (hi : G[i]? = some "isinstance") (hm : X.mg "isinstance" = none) (hj : G[j]? = some c) (hc : X.mg c = none) (hv : bootBuiltins c = some (.type T)) (hT : okT T) (ha : ME X a m)
    (he : starEach [a, .Name c q] X.env = (false, eval a X.env) :: starEach [.Name c q] X.env := by rfl) (he2 : starEach [.Name c q] X.env = [(false, eval (.Name c q) X.env)] := by rfl) (hpl : (backTo pos (starEach [.Name c q] X.env)).any (·.1) = false := by rfl) :
    ME X (.Call (.Name "isinstance" p) [a, .Name c q] [] pos) (mUn (fIsi [T]) m) := by
  have d1 := g.dbg _ (List.mem_append_right _ (mem_of hi))
  have d := g.dbg c (List.mem_append_right _ (mem_of hj))
  have hcall : CallR X (.builtin "isinstance") (fun xs H Q => ∃ x', xs = [x', .ty T] ∧ uJ X (fIsi [T]) x' H Q) := by
    intro pins s σ H xs us Q I r ⟨x', e, ρ, h, x, rh, rx, q⟩
    subst e
    cases r with
    | cons r1 t1 => cases t1 with
      | cons r2 t2 =>
        cases t2
        obtain rfl := (show _ = Value.type T from r2)
        unfold fIsi at q
        cases et : tyP h x with
        | none => rw [et] at q; exact q.elim
        | some t =>
          rw [et] at q
          obtain ⟨ht, hne, Hq, Z, hz⟩ := kitx_of I rh rx r1 et
          exact PySem.W.kia_one Z I.kIn hz (hT X.K t ht) hne fun tk => ⟨.bl _, H, I.tok _, rfl, by
            have q' := q ρ H _ (Le.refl _ _) rh (.bl _)
            simpa using q'⟩
  refine PE.imp (pe_callB hcall (g.gl _ (mem_of hi)) hm PyProof.Rows.Boot.«isinstance» (pa_cons ha (pa_cons (pe_bltn (v := .ty T) (u := .type T) (g.gl c (mem_of hj)) hc hv rfl d.2.2 d.1) pa_nil he2) he) d1.2.2 d1.1 he hpl) fun σ H Q ⟨ρ, σp, h, rs, rh, q⟩ => ?_
  exact ⟨ρ, σp, h, rs, rh, Ful.bind q fun ρ1 H1 x x' h1 _ l1 rh1 rx q1 => ⟨x', rfl, ρ1, h1, x, rh1, rx, q1.zero⟩⟩

/-! ### own defs -/
/-- a def's promise by its mirror -/
def spM (K : PySem.W.Frag) (mg : MGl) (F : List PV → MH → Out PV) : Sp := fun vs H Q E => ∃ ρ ps h, RPs K ρ H ps vs ∧ RH K mg ρ H h ∧ match F ps h with
  | .ok v h' => ∀ ρ' H' v', Le ρ H ρ' H' → RH K mg ρ' H' h' → RP K ρ' H' v v' → Q v' H'
  | .exc x h' => ∀ C ρ' H', x.fs = [] → mg x.cls = some (.ref C) → Le ρ H ρ' H' → RH K mg ρ' H' h' → E (.ref C) none H'
  | .bad => False
/-- how an exception lies behind a call -/
def CXm (P : Program) (w : World) : CXT := fun outer H s E e s' => ∃ ea C H', e = .ref ea ∧ s'.os = s.os ∧ AllBare s'.gens ∧ Un (frs outer) [] H H' s.heap s'.heap ∧ HOk P w H' s'.heap ∧ Fly outer H' s.heap C ea s'.heap ∧ E (.ref C) none H'
structure Cal (X : Cx) (x : Str) (ps : List Str) (F : List PV → MH → Out PV) (k : Nat) : Prop where
  ex : ∃ f fd, X.mg x = some (.ref f) ∧ PySem.W.keepIn X.K (.ref f) = true ∧ Binds X.K fd ps [] ∧ FnOk X.prog X.w X.K X.mg X.base (CXm X.prog X.w) k f fd ps (spM X.K X.mg F)
theorem Cal.mono {x : Str} {ps : List Str} {F : List PV → MH → Out PV} {i j : Nat} (c : Cal X x ps F i) (h : i ≤ j) : Cal X x ps F j :=
  let ⟨f, fd, a, b, d, e⟩ := c.ex; ⟨f, fd, a, b, d, e.mono h⟩
theorem Cal.to {Y : Cx} {x : Str} {ps : List Str} {F : List PV → MH → Out PV} {i : Nat} (c : Cal X x ps F i) (e1 : Y.prog = X.prog) (e2 : Y.w = X.w) (e3 : Y.K = X.K) (e4 : Y.mg = X.mg) (e5 : Y.base = X.base) : Cal Y x ps F i := by
  obtain ⟨f, fd, a, b, d, e⟩ := c.ex
  refine ⟨f, fd, by rw [e4]; exact a, by rw [e3]; exact b, by rw [e3]; exact d, ?_⟩
  rw [e1, e2, e3, e4, e5]; exact e
def mCall (F : List PV → MH → Out PV) (m : Mx (List PV)) : Mx PV := fun σ h => (m σ h).bind F
theorem me_call (g : Good X N W G k) {x : Str} {j : Nat} (hj : G[j]? = some x) {ps : List Str} {F : List PV → MH → Out PV} (C : Cal X x ps F k) {e : Expr} {es : List Expr} {m : Mx (List PV)} {p pos : Pos} (ha : MA X (e :: es) m)
    (he : starEach (e :: es) X.env = (false, eval e X.env) :: starEach es X.env := by rfl) (hpl : (backTo pos (starEach es X.env)).any (·.1) = false := by rfl) : ME X (.Call (.Name x p) (e :: es) [] pos) (mCall F m) := by
  obtain ⟨f, fd, hm, hk, hb, F'⟩ := C.ex
  have d := g.dbg x (List.mem_append_right _ (mem_of hj))
  intro pins s σ H Q I ⟨ρ, σp, h, rs, rh, q⟩
  refine wpAny_Call_Name_kw (ld_glob I (g.gl x (mem_of hj)) hm ?_ d.1)
  refine PySem.W.callWith_K (h₀ := X.base) I.ok.mod.kin hk (thn (ha pos pins s σ H (fun vs H1 => ∃ ρ1 xs h1, Le ρ H ρ1 H1 ∧ RH X.K X.mg ρ1 H1 h1 ∧ RPs X.K ρ1 H1 xs vs ∧ Ful X (RV' X) σp ρ1 H1 (F xs h1) Q) I
    ⟨ρ, σp, h, rs, rh, Ful.bind q fun ρ1 H1 xs vs h1 _ l1 rh1 rx q1 => ⟨ρ1, xs, h1, l1, rh1, rx, q1⟩⟩) fun us s1 ⟨vs, H1, I1, r, ρ1, xs, h1, l1, rh1, rx, q1⟩ => ⟨I1.kIn, ?_⟩) he hpl
  have run : ∀ E : XK, spM X.K X.mg F vs H1 Q E → (∀ ea C H' s', s'.os = s1.os → AllBare s'.gens → Un (frs X.stack) [] H1 H' s1.heap s'.heap → HOk X.prog X.w H' s'.heap → Fly X.stack H' s1.heap C ea s'.heap → E (.ref C) none H' → X.xe (.ref ea) s') →
      wpAny (model X.prog X.w) X.A (call (.ref f) us) (EP X pins σ Q) X.xe s1 := fun E hsp hE => by
    have hl : (us ++ []).length = ps.length := by rw [List.append_nil, ← r.length]; exact F'.len _ _ _ _ hsp
    have hb1 := hb s1 us I1.kIn hl
    rw [List.append_nil] at hb1
    refine wpAny_call (codeAny_mono (F'.run X.A X.stack s1 H1 ⟨us, []⟩ us vs Q E g.room I1.env0 hb1 r hsp) fun r s' hq => ?_)
    cases r with
    | error e =>
      obtain ⟨ea, C, H', rfl, a1, a2, a3, a4, a5, a6⟩ := hq
      exact hE ea C H' s' a1 a2 a3 a4 a5 a6
    | ok fl =>
      cases fl with
      | ret u => exact I1.after hq
      | next => exact False.elim hq
      | brk => exact False.elim hq
      | cont => exact False.elim hq
  cases eF : F xs h1 with
  | bad => rw [eF] at q1; exact q1.elim
  | ok v h' =>
    rw [eF] at q1
    exact run (fun _ _ _ => False) ⟨ρ1, xs, h1, rx, rh1, by rw [eF]; exact q1⟩ fun _ _ _ _ _ _ _ _ _ z => z.elim
  | exc x' h' =>
    rw [eF] at q1
    refine run (fun c _ H' => ∃ C ρ', c = .ref C ∧ x'.fs = [] ∧ X.mg x'.cls = some (.ref C) ∧ Le ρ1 H1 ρ' H' ∧ RH X.K X.mg ρ' H' h') ⟨ρ1, xs, h1, rx, rh1, by rw [eF]; exact fun C ρ' H' a b c d => ⟨C, ρ', rfl, a, b, c, d⟩⟩ fun ea C H' s' a1 a2 a3 a4 a5 a6 => ?_
    obtain ⟨C', ρ', eC, b1, b2, b3, b4⟩ := a6
    cases eC
    have IX := I1.call' (s' := s') (ch := []) a1 a3 a4 a2 (fun b z => absurd z (by simp))
    have IX0 : Inv X [] σ H' s' := Inv.unpinned (pins := []) (pl := pins) IX
    exact q1 ea C ρ' H' σ s' s1.heap b1 b2 b3 b4 (rs.le (l1.trans b3)) IX0 (Inv.bears I1) a5
def mStart (n : Nat) (ps : List PV) : PSt := ps.map some ++ List.replicate (n - ps.length) none
noncomputable def mDef (n np : Nat) (m : Mst) : List PV → MH → Out PV := fun ps h => if ps.length = np then (match m (mStart n ps) h with
  | .nx _ h' => .ok .non h'
  | .rt v h' => .ok v h'
  | .exc x _ h' => .exc x h'
  | .rse x _ h' => .exc x h'
  | _ => .bad) else .bad
theorem rs_start {K : PySem.W.Frag} {ρ : List Addr} {H : Hp} {N : List Str} {ps : List PV} {vs : List V} (r : RPs K ρ H ps vs) : RS K ρ H (mStart N.length ps) (L2.start N vs) := by
  have hl := r.length
  refine ⟨by simp [mStart, L2.start, hl], fun i v e => ?_⟩
  unfold mStart at e
  by_cases hi : i < ps.length
  · rw [List.getElem?_append_left (by simpa using hi), List.getElem?_map] at e
    cases q : ps[i]? with
    | none => rw [q] at e; cases e
    | some x =>
      rw [q] at e
      cases e
      obtain ⟨v', e', rv⟩ := r.get q
      refine ⟨v', ?_, rv⟩
      unfold L2.start
      rw [List.getElem?_append_left (by simp; omega), List.getElem?_map, e']; rfl
  · rw [List.getElem?_append_right (by simpa using hi), List.getElem?_replicate] at e
    split at e <;> cases e
theorem Stays_eq {B h : Heap} (k : B.StaysIn h) {b : Addr} {o ob : Obj} (e1 : B.get? b = some ob) (e2 : h.get? b = some o) : ob = o := by
  have := k b ob e1
  rw [e2] at this
  exact (Option.some.inj this).symm
/-- what lies behind a frame that an exception left -/
theorem left_un {X : Cx} {σ' : L2.St} {H' : Hp} {s' : Shared} {h' B : Heap} (I : Inv X [] σ' H' s') (hex : X.ex = []) (hB : B.StaysIn s'.heap) (hB' : B.StaysIn h') (sm : s'.heap.UpToSlots h')
    (cov : ∀ b o, X.s₀.heap.get? b = some o → b ∉ X.fs → ∃ ob, B.get? b = some ob) (cvH : ∀ b o, H' b = some o → ∃ ob, B.get? b = some ob) : Un X.fs [] X.H₀ H' X.s₀.heap h' ∧ HOk X.prog X.w H' h' := by
  have nex : ∀ b : Addr, b ∉ X.ex := fun b => by rw [hex]; simp
  have kp : ∀ b o ob, B.get? b = some ob → s'.heap.get? b = some o → h'.get? b = some o := fun b o ob e1 e2 => by
    have := Stays_eq hB e1 e2
    subst this
    exact hB' b ob e1
  refine ⟨⟨fun b o e n hf _ => ?_, fun b o e n hf _ => ?_, fun b o e n _ => I.base.free b o e n (nex b), fun b o e _ => ?_, I.base.tups, I.base.frzs, I.base.tbls⟩, fun a o e => ?_⟩
  · obtain ⟨ob, eb⟩ := cov b o e hf
    exact kp b o ob eb (I.base.keep b o e n hf (nex b))
  · obtain ⟨sl, e1⟩ := I.base.slot b o e n hf (nex b)
    obtain ⟨_, oF, eF, dF⟩ := I.ok.funs.mem hf
    rw [e] at eF
    cases eF
    obtain ⟨sl', e2⟩ := sm b _ e1 (fun vs z => dF vs z)
    exact ⟨sl', e2⟩
  · by_cases hf : b ∈ X.fs
    · obtain ⟨_, oF, eF, dF⟩ := I.ok.funs.mem hf
      rw [e] at eF
      cases eF
      obtain ⟨sl, e1⟩ := I.base.slot b o e (I.ok.frf b hf) hf (nex b)
      obtain ⟨sl', e2⟩ := sm b _ e1 (fun vs z => dF vs z)
      exact ⟨_, e2⟩
    · obtain ⟨ob, eb⟩ := cov b o e hf
      exact ⟨ob, hB' b ob eb⟩
  · refine (I.hok a o e).stay (fun b u hb z => ?_) (fun _ z => z) fun _ _ z => z
    rcases hb with rfl | hb
    · obtain ⟨ob, eb⟩ := cvH _ _ e
      exact kp _ u ob eb z
    · obtain ⟨ob, eb⟩ := cvH _ _ hb
      exact kp _ u ob eb z
theorem _root_.L2.ObjOk.has {P : Program} {w : World} {H : Hp} {h : Heap} {a : Addr} {o : HO} (x : ObjOk P w H h a o) : ∃ u, h.get? a = some u := by
  cases o with
  | lst xs => obtain ⟨_, _, _, _, e⟩ := x; exact ⟨_, e⟩
  | tup xs => obtain ⟨_, _, _, o, e, _⟩ := x; exact ⟨o, e⟩
  | dK kvs => obtain ⟨_, _, _, _, o, _, _, e, _⟩ := x; exact ⟨o, e⟩
  | dT kvs => obtain ⟨_, _, _, _, o, _, _, e, _⟩ := x; exact ⟨o, e⟩
  | set S n => obtain ⟨o, _, _, _, e, _⟩ := x; exact ⟨o, e⟩
  | ins C dx fs => obtain ⟨_, _, _, e, _⟩ := x; exact ⟨_, e⟩
  | own y => obtain ⟨o, e⟩ := x; exact ⟨o, e⟩
  | xd fs => obtain ⟨_, ⟨o, _, _, e, _⟩, _⟩ := x; exact ⟨o, e⟩
  | rng lo hi => obtain ⟨_, _, _, e⟩ := x; exact ⟨_, e⟩
  | frz ob u => obtain ⟨e, _⟩ := x; exact ⟨_, e⟩
  | tbl ps => exact ⟨_, (show h.get? a = some _ from x)⟩
  | met f y => exact ⟨_, (show h.get? a = some _ from x)⟩
  | ext φ => obtain ⟨_, ⟨o, e⟩, _⟩ := x; exact ⟨o, e⟩
/-- a def's own frame -/
structure DefCx (X : Cx) : Prop where
  stk : X.stack = X.env :: X.outer
  fr : X.env.frame = some X.env.locals
  ex : X.ex = []
theorem fn_M {P : Program} {w : World} {K : PySem.W.Frag} {mg : Str → Option Value} {base : Heap} {x qual : Str} {st : Stmt} {f : Addr} {fd : FuncData} {ps : List Str} {m : Mst} (Fu : Fun K x qual st f fd) (S : FnScope N ps (defScope st))
    (hl : ∀ y ∈ N, Loc (defScope st) y) (hgl : ∀ y ∈ G, (defScope st).names.lookup y = some .globalImplicit)
    (dbg : ∀ x ∈ N ++ G, (x == ("__debug__" : Str)) = false ∧ (x == ("__classdict__" : Str)) = false ∧ x ≠ "__name__")
    (hb : ∀ X : Cx, X.prog = P → X.w = w → X.K = K → X.mg = mg → X.base = base → X.env.scope = defScope st → Good X N N G k → DefCx X → MSs X (defBody st) m) :
    FnOk P w K mg base (CXm P w) (k + 1) f fd ps (spM K mg (mDef N.length ps.length m)) := by
  have len : ∀ vs H Q E, spM K mg (mDef N.length ps.length m) vs H Q E → vs.length = ps.length := by
    rintro vs H Q E ⟨ρ, zs, h, r, rh, q⟩
    rw [← r.length]
    unfold mDef at q
    by_cases hp : zs.length = ps.length
    · exact hp
    · rw [if_neg hp] at q; exact q.elim
  obtain ⟨oc, od, kV, doc, pm, an, cdv, ct, osl, rfl, lk, hcd⟩ := Fu.ex
  refine fn_of lk hcd S len fun A outer s H vs Q E hr hsp => ?_
  obtain ⟨ρ, zs, h, r, rh, q⟩ := hsp
  refine ⟨_, hb _ rfl rfl rfl rfl rfl rfl ⟨rfl, S.nd, hl, fun _ _ => .inl rfl, hgl, dbg, rfl, hr, PassesOwn.leaving⟩ ⟨rfl, rfl, rfl⟩, ρ, mStart N.length zs, h, rs_start r, rh, ?_⟩
  unfold mDef at q
  by_cases hp : zs.length = ps.length
  · rw [if_pos hp] at q
    cases e : m (mStart N.length zs) h with
    | nx σ' h' => rw [e] at q; exact fun ρ' H' σ' l r' s' => q ρ' H' .non l r' .non
    | rt v h' => rw [e] at q; exact q
    | bk σ h' => rw [e] at q; exact q.elim
    | ct σ h' => rw [e] at q; exact q.elim
    | bad => rw [e] at q; exact q.elim
    | exc x σ h' =>
      rw [e] at q
      intro ea C ρ' H' σ' s' lim hfs hmg l rh' rs' I' brs fly
      obtain ⟨B, t, hfl, hBH, hcov, hea⟩ := fly
      refine wpAny_leaves_onW (base := B) (env := envOfC qual (defScope st) s.heap.objs.size f cdv) (outer := outer) I'.ok.frames rfl hfl fun h'' hfl' sm => ?_
      have hb1 : ∀ b o, s.heap.get? b = some o → b ∉ frs outer → ∃ ob, B.get? b = some ob := fun b o eb hf => by
        obtain ⟨o', e'⟩ := brs.old b o eb (by show b ∉ ([] : List Addr); simp)
        refine hcov b o' e' fun hm => ?_
        rcases List.mem_cons.mp (I'.stkSub b hm) with z | z
        · exact absurd (Heap.lt_size eb) (by rw [z]; exact Nat.lt_irrefl _)
        · exact hf z
      obtain ⟨un, hk'⟩ := left_un (B := B) I' rfl hfl.1 hfl'.1 sm hb1 hBH
      exact ⟨ea, C, H', rfl, I'.os, I'.bare, un, hk', ⟨B, t, hfl', hBH, hb1, hea⟩, q C ρ' H' hfs hmg l rh'⟩
    | rse x σ h' =>
      rw [e] at q
      intro ea C ρ' H' σ' s' h0 args hfs hmg l rh' rs' I' made
      have hst := I'.stack
      have hin : ∀ env ∈ (envOfC qual (defScope st) s.heap.objs.size f cdv :: outer), ∀ b, env.frame = some b → b ∈ frs (envOfC qual (defScope st) s.heap.objs.size f cdv :: outer) := fun env he b hb => List.mem_filterMap.mpr ⟨env, he, hb⟩
      refine wpAny_leaves_madeW (base := PySem.W.hideAll h0 (frs (envOfC qual (defScope st) s.heap.objs.size f cdv :: outer))) (h := h0) (env := envOfC qual (defScope st) s.heap.objs.size f cdv) (outer := outer) I'.ok.frames rfl (fun b o z => PySem.W.of_hideAll _ z)
        (PySem.W.funFrames_hide (base := base) hst hin) made fun h'' t hfl' _ _ sm => ?_
      have sub : ∀ b, b ∈ frs (envOfC qual (defScope st) s.heap.objs.size f cdv :: outer) → b = s.heap.objs.size ∨ b ∈ frs outer := fun b hm => List.mem_cons.mp (I'.stkSub b hm)
      have hb1 : ∀ b o, s.heap.get? b = some o → b ∉ frs outer → ∃ ob, (PySem.W.hideAll h0 (frs (envOfC qual (defScope st) s.heap.objs.size f cdv :: outer))).get? b = some ob := fun b o eb hf => by
        obtain ⟨o', e'⟩ := I'.base.there b o eb (by show b ∉ ([] : List Addr); simp)
        refine ⟨o', PySem.W.hideAll_get _ e' fun hm => ?_⟩
        rcases sub b hm with z | z
        · exact absurd (Heap.lt_size eb) (by rw [z]; exact Nat.lt_irrefl _)
        · exact hf z
      have hBH : ∀ b o, H' b = some o → ∃ ob, (PySem.W.hideAll h0 (frs (envOfC qual (defScope st) s.heap.objs.size f cdv :: outer))).get? b = some ob := fun b o eb => by
        have hlt := I'.hok.lt eb
        obtain ⟨u, eu⟩ : ∃ u, h0.get? b = some u := (I'.hok b o eb).has
        refine ⟨u, PySem.W.hideAll_get _ eu fun hm => ?_⟩
        have := I'.stkFree b hm
        rw [eb] at this; cases this
      have sm0 : h0.UpToSlots h'' := (Heap.UpToSlots.of_keeps made.keeps).trans sm
      obtain ⟨un, hk'⟩ := left_un (B := PySem.W.hideAll h0 (frs (envOfC qual (defScope st) s.heap.objs.size f cdv :: outer))) I' rfl (fun b o z => PySem.W.of_hideAll _ z) hfl'.1 sm0 hb1 hBH
      have hea : H' ea = none := by
        cases z : H' ea with
        | none => rfl
        | some o =>
          obtain ⟨u, eu⟩ := (I'.hok ea o z).has
          rw [made.new] at eu; cases eu
      exact ⟨ea, C, H', rfl, I'.os, I'.bare, un, hk', ⟨_, t, hfl', hBH, hb1, hea⟩, q C ρ' H' hfs hmg l rh'⟩
  · rw [if_neg hp] at q; exact q.elim
/-! ### a loop over a list or a tuple -/
noncomputable def itAny (v : PV) (h : MH) : Out MIt := match v with
  | .loc n => (match h[n]? with
    | some (.lst xs) => .ok ⟨xs, some n⟩ h
    | _ => .bad)
  | .frl xs => .ok ⟨xs, none⟩ h
  | .tup xs => .ok ⟨xs, none⟩ h
  | _ => .bad
noncomputable def mItS (m : Mx PV) : Mx MIt := fun σ h => (m σ h).bind itAny
theorem mi_seq {tg l : Expr} {m : Mx PV} (hl : ME X l m) : MI X tg l (mItS m) := by
  intro pins s σ H R I ⟨ρ, σp, h, rs, rh, q⟩
  by_cases z : ∃ xs h1, m σp h = .ok (.tup xs) h1
  · obtain ⟨xs, h1, e⟩ := z
    refine mi_tup (tg := tg) hl pins s σ H R I ⟨ρ, σp, h, rs, rh, ?_⟩
    unfold mItS at q
    unfold mItT
    rw [e] at q ⊢
    exact q
  · refine mi_list (tg := tg) hl pins s σ H R I ⟨ρ, σp, h, rs, rh, ?_⟩
    unfold mItS at q
    unfold mItL
    cases e : m σp h with
    | ok v h1 =>
      rw [e] at q
      cases v with
      | tup xs => exact absurd ⟨xs, h1, e⟩ z
      | _ => exact q
    | exc x h1 => rw [e] at q; exact q
    | bad => rw [e] at q; exact q

/-! ### an empty dict -/
theorem Inv.bigM {pins : List (Addr × Obj)} {σ : L2.St} {H : Hp} {s : Shared} (I : Inv X pins σ H s) : sysModules < s.heap.objs.size := by
  have h : mainGlobals < s.heap.objs.size := (I.mod.glob.keeps I.bk).lt
  exact Nat.lt_trans (by decide) h
def mDic : Mx PV := fun _ h => .ok (.loc h.length) (h ++ [.dic []])
theorem me_dic0 {pos : Pos} : ME X (.Dict [] [] pos) mDic := fun pins s σ H Q I ⟨ρ, σp, h, rs, rh, q⟩ => by
  have hf : H s.heap.objs.size = none := I.hok.fresh (Nat.le_refl _)
  obtain ⟨r1, l1⟩ := rh.new hf (o := .dic []) (ho := .dK []) ⟨rfl, rfl⟩
  refine wpAny_Dict_empty ⟨.ref s.heap.objs.size, _, I.laid (a := s.heap.objs.size) (o := .dK []) (t' := s.toks) (fun _ _ q => Heap.get?_push_of_some _ q) (Nat.le_refl _) ?_, rfl, q _ _ _ l1 r1 (.loc (by rw [← rh.len]; simp))⟩
  exact ⟨Nat.zero_le _, beq_eq_false_iff_ne.mpr (Ne.symm (Nat.ne_of_lt (Inv.bigM I))), [], .nil, Heap.DictOf.new s.heap⟩

/-! ### the program's defs -/
structure FnAt (P : Program) (w : World) (K : PySem.W.Frag) (mg : Str → Option Value) (base : Heap) (x : Str) (ps : List Str) (F : List PV → MH → Out PV) (k : Nat) : Prop where
  ex : ∃ f fd, mg x = some (.ref f) ∧ PySem.W.keepIn K (.ref f) = true ∧ Binds K fd ps [] ∧ FnOk P w K mg base (CXm P w) k f fd ps (spM K mg F) ∧ ∃ oc od osl, K.lookup f = some ⟨oc, od, .func fd, osl⟩
theorem FnAt.mono {P : Program} {w : World} {K : PySem.W.Frag} {mg : Str → Option Value} {base : Heap} {x : Str} {ps : List Str} {F : List PV → MH → Out PV} {i j : Nat} (c : FnAt P w K mg base x ps F i) (h : i ≤ j) : FnAt P w K mg base x ps F j :=
  let ⟨f, fd, a, b, d, e, z⟩ := c.ex; ⟨f, fd, a, b, d, e.mono h, z⟩
theorem FnAt.cal {P : Program} {w : World} {K : PySem.W.Frag} {mg : Str → Option Value} {base : Heap} {x : Str} {ps : List Str} {F : List PV → MH → Out PV} {i : Nat} (c : FnAt P w K mg base x ps F i) {X : Cx} (e1 : X.prog = P) (e2 : X.w = w) (e3 : X.K = K) (e4 : X.mg = mg) (e5 : X.base = base) : Cal X x ps F i := by
  subst e1; subst e2; subst e3; subst e4; subst e5
  obtain ⟨f, fd, a, b, d, e, _⟩ := c.ex
  exact ⟨f, fd, a, b, d, e⟩
structure DefAt (K : PySem.W.Frag) (x : Str) (st : Stmt) : Prop where
  ex : ∃ f fd, PySem.W.nsIn K mainGlobals x = some (some (.ref f)) ∧ Fun K x x st f fd
theorem defAt_mk {K : PySem.W.Frag} {x : Str} {st : Stmt} {f : Addr} {oc : Value} {od an : Option Addr} {sl : Array (Option Value)} {kV dc pm cd ct : Value}
    (a : PySem.W.nsIn K mainGlobals x = some (some (.ref f))) (l : K.lookup f = some ⟨oc, od, .func (PySem.W.fnOf x x (defArgs st) (defBody st) (defScope st) .none kV dc pm an cd ct), sl⟩) (c : PySem.W.codeIn K cd x = true) (kp : PySem.W.keepIn K (.ref f) = true) : DefAt K x st :=
  ⟨f, _, a, fun_mk l c kp⟩
def bindsOk (x : Str) (st : Stmt) (ps : List Str) : Prop := ∀ (kV doc pm : Value) (an : Option Addr) (cdv ct : Value) (us : List Value), us.length = ps.length → bindArgs (PySem.W.fnOf x x (defArgs st) (defBody st) (defScope st) .none kV doc pm an cdv ct) ⟨us, []⟩ = pure (ps.zip us)
theorem fnAt_M {P : Program} {w : World} {K : PySem.W.Frag} {mg : Str → Option Value} {base : Heap} {x : Str} {st : Stmt} {ps : List Str} {m : Mst} (kin : K.In base) (ns : base.Ns mainGlobals mg) (D : DefAt K x st) (S : FnScope N ps (defScope st)) (B : bindsOk x st ps)
    (hl : ∀ y ∈ N, (defScope st).names.lookup y = some .local ∨ (defScope st).names.lookup y = some .cell) (hgl : ∀ y ∈ G, (defScope st).names.lookup y = some .globalImplicit)
    (dbg : ∀ x ∈ N ++ G, (x == ("__debug__" : Str)) = false ∧ (x == ("__classdict__" : Str)) = false ∧ x ≠ "__name__")
    (hb : ∀ X : Cx, X.prog = P → X.w = w → X.K = K → X.mg = mg → X.base = base → X.env.scope = defScope st → Good X N N G k → DefCx X → MSs X (defBody st) m) :
    FnAt P w K mg base x ps (mDef N.length ps.length m) (k + 1) := by
  obtain ⟨f, fd, a, Fu⟩ := D.ex
  have Fx := Fu.ex
  obtain ⟨oc, od, kV, doc, pm, an, cdv, ct, osl, e1, e2, _⟩ := Fx
  exact ⟨f, fd, PySem.W.mg_of kin ns a, Fu.kp, Fu.binds B, fn_M Fu S hl hgl dbg hb, oc, od, osl, e2⟩
theorem head_M {P : Program} {w : World} {K : PySem.W.Frag} {mg : Str → Option Value} {h : Heap} {x y : Str} {st : Stmt} {F : List PV → MH → Out PV} {fa : Addr} (D : DefAt K x st) (B : bindsOk x st [y]) (hmg : mg x = some (.ref fa)) (kin : K.In h) (ns : h.Ns mainGlobals mg)
    (H : ∀ base : Heap, K.In base → base.Ns mainGlobals mg → FnAt P w K mg base x [y] F k) :
    ∃ fd : FuncData, (∀ (s : Shared) (u : Value), BindsTo s fd ⟨[u], []⟩ [(y, u)]) ∧ ∀ base : Heap, K.In base → base.Ns mainGlobals mg → FnOk P w K mg base (CXm P w) k fa fd [y] (spM K mg F) := by
  obtain ⟨f, fd, a, Fu⟩ := D.ex
  have e := hmg.symm.trans (PySem.W.mg_of kin ns a)
  cases e
  obtain ⟨oc, od, kV, doc, pm, an, cdv, ct, osl, e1, e2, e3⟩ := Fu.ex
  refine ⟨fd, fun s u => .of_eq ?_, fun base kb nb => ?_⟩
  · rw [e1]; exact B kV doc pm an cdv ct [u] rfl
  · obtain ⟨f', fd', g1, g2, g3, g4, oc', od', osl', g5⟩ := (H base kb nb).ex
    rw [hmg] at g1
    cases g1
    rw [e2] at g5
    cases g5
    exact g4
/-- what law(script) promises -/
def spLaw (K : PySem.W.Frag) : Sp := fun vs H Q _ => ∃ (a : Addr) (ns : List Int), vs = [.ref a] ∧ SqF K H a (ns.map V.int) ∧ ns.length ≤ 63 ∧ ∀ H', Q (.bl true) H'
theorem walk_M {l : PySem.W.OpenLaw} {q : Program} {loose : List Str} {XP : (Str → Option Value) → Heap → Prop} {YP : World → Heap → Prop} {d : DefRec} {K : Params → PySem.W.Frag} {x : Str} {F : List PV → MH → Out PV} (hn : l.most = some 63) (hdf : d.params.defaults = []) (hr : Room k callerA)
    (hY : ∀ (w : World) (h : Heap), YP w h → (K w.params).In h)
    (HF : ∀ (w : World) (mg : Str → Option Value) (fa : Addr) (h : Heap), (K w.params).In h → h.Ns mainGlobals mg → mg d.name = some (.ref fa) →
      ∃ fd : FuncData, (∀ (s : Shared) (u : Value), BindsTo s fd ⟨[u], []⟩ [(x, u)]) ∧ ∀ base : Heap, (K w.params).In base → base.Ns mainGlobals mg → FnOk l.prog w (K w.params) mg base (CXm l.prog w) k fa fd [x] (spM (K w.params) mg F))
    (ht : ∀ ns : List Int, ns.length ≤ 63 → ∃ h', F [.frl (ns.map .int)] [] = .ok (.bl true) h') :
    PySem.W.WalkO q loose XP YP l.row.toRowW d [] (fun f vs => PySem.call f vs) := by
  refine L2.walk_of (n := 63) (k := k) (x := x) (CX := fun w => CXm l.prog w) (sp := fun w => spLaw (K w.params)) hn (by decide) hdf hr hY (fun w mg fa h hK hns hmg => ?_) (fun w H a ns hl hO hS => ?_) fun w H s e s' z => ?_
  · obtain ⟨fd, hb, hF⟩ := HF w mg fa h hK hns hmg
    refine ⟨fd, hb, fun base kb nb => (hF base kb nb).imp fun vs H Q E z => ?_⟩
    obtain ⟨a, ns, rfl, sf, hl, hq⟩ := z
    obtain ⟨h', e⟩ := ht ns hl
    refine ⟨[], [.frl (ns.map .int)], [], .cons (.frl sf (RPs.ints ns)) .nil, ⟨rfl, List.nodup_nil, fun n a o z _ => by simp at z⟩, ?_⟩
    rw [e]
    intro ρ' H' v' _ _ r
    cases r
    exact hq H'
  · have sf : SqF (K w.params) H a (ns.map V.int) := by
      rcases hS with (z | z) | z
      · rcases hO a with y | ⟨o, xs, y⟩
        · rw [y] at z; cases z
        · rw [y] at z; cases z
      · exact .inl z
      · exact .inr z
    exact ⟨a, ns, rfl, sf, hl, fun _ => rfl⟩
  · obtain ⟨_, _, _, _, _, _, _, _, _, z⟩ := z
    exact z
end
end MM

set_option Elab.async false
set_option linter.all false
set_option maxRecDepth 100000
namespace MM
open PySem PySem.Spec PyProof.Rows L2
noncomputable local instance (priority := 1) cdec6 (p : Prop) : Decidable p := Classical.propDecidable p

/-! ### how the mirrors are run -/
section
variable {α : Type} {σ : PSt} {h : MH}
@[simp] theorem mC_ap {v : PV} : mC v σ h = .ok v h := rfl
@[simp] theorem mVar_0 {v : PV} {r : PSt} : mVar 0 (some v :: r) h = .ok v h := rfl
@[simp] theorem mVar_s {i : Nat} {o : Option PV} {r : PSt} : mVar (i + 1) (o :: r) h = mVar i r h := by simp [mVar]
@[simp] theorem mBin_ap {f : PV → PV → MH → Out PV} {a b : Mx PV} : mBin f a b σ h = (a σ h).bind fun x h1 => (b σ h1).bind fun y h2 => (f x y h2).ne := rfl
@[simp] theorem mUn_ap {f : PV → MH → Out PV} {a : Mx PV} : mUn f a σ h = (a σ h).bind fun x h1 => (f x h1).ne := rfl
@[simp] theorem mCB_ap {f : List PV → MH → Out PV} {a : Mx (List PV)} : mCB f a σ h = (a σ h).bind fun x h1 => (f x h1).ne := rfl
@[simp] theorem mCall_ap {f : List PV → MH → Out PV} {a : Mx (List PV)} : mCall f a σ h = (a σ h).bind f := rfl
@[simp] theorem mNil_ap : mNil σ h = .ok [] h := rfl
@[simp] theorem mCons_ap {a : Mx PV} {r : Mx (List PV)} : mCons a r σ h = (a σ h).bind fun x h1 => (r σ h1).bind fun xs h2 => .ok (x :: xs) h2 := rfl
@[simp] theorem mLst_ap {a : Mx (List PV)} : mLst a σ h = (a σ h).bind newL := rfl
@[simp] theorem mTup_ap {a : Mx (List PV)} : mTup a σ h = (a σ h).bind newT := rfl
@[simp] theorem mDic_ap : mDic σ h = .ok (.loc h.length) (h ++ [.dic []]) := rfl
@[simp] theorem mB_ap {a : Mx PV} : mB a σ h = (a σ h).bind fun v h1 => match v with | .bl b => .ok b h1 | _ => .bad := rfl
@[simp] theorem mNot_ap {a : Mx Bool} : mNot a σ h = (a σ h).bind fun b h1 => .ok (!b) h1 := rfl
@[simp] theorem mAnd_ap {a b : Mx Bool} : mAnd a b σ h = (a σ h).bind fun x h1 => if x = true then b σ h1 else .ok false h1 := rfl
@[simp] theorem mOr_ap {a b : Mx Bool} : mOr a b σ h = (a σ h).bind fun x h1 => if x = true then .ok true h1 else b σ h1 := rfl
@[simp] theorem mAndV_ap {a b : Mx PV} : mAndV a b σ h = (a σ h).bind fun x h1 => match x with | .bl c => if c = true then b σ h1 else .ok (.bl false) h1 | _ => .bad := rfl
@[simp] theorem mOrV_ap {a b : Mx PV} : mOrV a b σ h = (a σ h).bind fun x h1 => match x with | .bl c => if c = true then .ok (.bl true) h1 else b σ h1 | _ => .bad := rfl
@[simp] theorem mNotV_ap {a : Mx PV} : mNotV a σ h = (a σ h).bind fun x h1 => match x with | .bl c => .ok (.bl (!c)) h1 | _ => .bad := rfl
@[simp] theorem mIfE_ap {c : Mx Bool} {a b : Mx PV} : mIfE c a b σ h = (c σ h).bind fun x h1 => if x = true then a σ h1 else b σ h1 := rfl
@[simp] theorem mSkip_ap : mSkip σ h = .nx σ h := rfl
@[simp] theorem mBreak_ap : mBreak σ h = .bk σ h := rfl
@[simp] theorem mCont_ap : mCont σ h = .ct σ h := rfl
@[simp] theorem mSeq_ap {a b : Mst} : mSeq a b σ h = (a σ h).then b := rfl
@[simp] theorem then_nx {k : Mst} : (SOut.nx σ h).then k = k σ h := rfl
@[simp] theorem then_rt {k : Mst} {v : PV} : (SOut.rt v h).then k = .rt v h := rfl
@[simp] theorem then_bk {k : Mst} : (SOut.bk σ h).then k = .bk σ h := rfl
@[simp] theorem then_ct {k : Mst} : (SOut.ct σ h).then k = .ct σ h := rfl
@[simp] theorem then_rse {k : Mst} {x : MExc} : (SOut.rse x σ h).then k = .rse x σ h := rfl
@[simp] theorem then_exc {k : Mst} {x : MExc} : (SOut.exc x σ h).then k = .exc x σ h := rfl
@[simp] theorem then_bad {k : Mst} : SOut.bad.then k = .bad := rfl
def Out.rt (o : Out PV) (σ : PSt) : SOut := match o with
  | .ok v h' => .rt v h'
  | .exc x h' => .exc x σ h'
  | .bad => .bad
@[simp] theorem rt_ok {v : PV} : (Out.ok v h).rt σ = .rt v h := rfl
@[simp] theorem rt_exc {x : MExc} : (Out.exc x h : Out PV).rt σ = .exc x σ h := rfl
@[simp] theorem rt_bad : (Out.bad : Out PV).rt σ = .bad := rfl
@[simp] theorem mRet_ap {m : Mx PV} : mRet m σ h = (m σ h).rt σ := rfl
@[simp] theorem mRetN_ap : mRetN σ h = .rt .non h := rfl
/-- an expression, then a statement -/
def Out.go {α : Type} (o : Out α) (σ : PSt) (k : α → Mst) : SOut := match o with
  | .ok v h' => k v σ h'
  | .exc x h' => .exc x σ h'
  | .bad => .bad
@[simp] theorem go_ok {v : α} {k : α → Mst} : (Out.ok v h).go σ k = k v σ h := rfl
@[simp] theorem go_exc {x : MExc} {k : α → Mst} : (Out.exc x h : Out α).go σ k = .exc x σ h := rfl
@[simp] theorem go_bad {k : α → Mst} : (Out.bad : Out α).go σ k = .bad := rfl
@[simp] theorem mEx_ap {m : Mx α} {k : α → Mst} : mEx m k σ h = (m σ h).go σ k := rfl
@[simp] theorem mDrop_ap {m : Mx PV} : mDrop m σ h = (m σ h).go σ fun _ => mSkip := rfl
@[simp] theorem mIf_ap {c : Mx Bool} {a b : Mst} : mIf c a b σ h = (c σ h).go σ fun x => if x = true then a else b := rfl
@[simp] theorem mSet_ap {i : Nat} {m : Mx PV} : mSet i m σ h = (m σ h).go σ fun v σ h => .nx (σ.set i (some v)) h := rfl
@[simp] theorem mPar_ap {i j : Nat} {m : Mx (List PV)} : mPar i j m σ h = (m σ h).go σ fun vs σ h => match vs with | [v, w] => .nx ((σ.set i (some v)).set j (some w)) h | _ => .bad := rfl
@[simp] theorem mAsg_ap {m : Mx PV} {g : Mg} : mAsg m g σ h = (m σ h).go σ fun v σ h => match g v σ h with | .nx σ2 h2 => .nx σ2 h2 | .exc x σ2 h2 => .exc x σ2 h2 | _ => .bad := rfl
@[simp] theorem gNm_ap {i : Nat} {v : PV} : gNm i v σ h = .nx (σ.set i (some v)) h := rfl
@[simp] theorem gNl_ap : gNl [] σ h = .nx σ h := rfl
@[simp] theorem gCn_ap {a : Mg} {r : Mgs} {v : PV} {vs : List PV} : gCn a r (v :: vs) σ h = (a v σ h).then (r vs) := rfl
@[simp] theorem gTp_ap {r : Mgs} {n : Nat} {xs : List PV} : gTp r n (.tup xs) σ h = if xs.length = n then r xs σ h else .bad := rfl
@[simp] theorem mFor_ap {mi : Mx MIt} {g : Mg} {b : Mst} : mFor mi g b σ h = (mi σ h).go σ fun it => mGo it g b it.xs := rfl
@[simp] theorem mItS_ap {m : Mx PV} : mItS m σ h = (m σ h).bind itAny := rfl
@[simp] theorem mItR1_ap {m : Mx (List PV)} : mItR1 m σ h = (m σ h).bind fun vs h1 => match vs with
  | [.int j] => if -(2 ^ 62) ≤ j ∧ j < 2 ^ 62 then .ok ⟨rangeL 0 j.toNat, none⟩ h1 else .bad
  | _ => .bad := rfl
@[simp] theorem mItR2_ap {m : Mx (List PV)} : mItR2 m σ h = (m σ h).bind fun vs h1 => match vs with
  | [.int i, .int j] => if -(2 ^ 62) ≤ i ∧ i < 2 ^ 62 ∧ -(2 ^ 62) ≤ j ∧ j < 2 ^ 62 then .ok ⟨rangeL i (j - i).toNat, none⟩ h1 else .bad
  | _ => .bad := rfl
@[simp] theorem gSb_ap {mo mi : Mx PV} {v : PV} : gSb mo mi v σ h = (mo σ h).go σ fun o => mEx mi fun i σ h => match setL o i v h with
  | some h2 => .nx σ h2
  | none => .bad := rfl
/-- the end of a def -/
def SOut.fin (o : SOut) : Out PV := match o with
  | .nx _ h' => .ok .non h'
  | .rt v h' => .ok v h'
  | .exc x _ h' => .exc x h'
  | .rse x _ h' => .exc x h'
  | _ => .bad
@[simp] theorem fin_exc {x : MExc} : (SOut.exc x σ h).fin = .exc x h := rfl
@[simp] theorem fin_rse {x : MExc} : (SOut.rse x σ h).fin = .exc x h := rfl
@[simp] theorem fin_rt {v : PV} : (SOut.rt v h).fin = .ok v h := rfl
@[simp] theorem fin_nx : (SOut.nx σ h).fin = .ok .non h := rfl
theorem mDef_ap {n np : Nat} {m : Mst} {ps : List PV} (e : ps.length = np) : mDef n np m ps h = (m (mStart n ps) h).fin := by unfold mDef; rw [if_pos e]; rfl
end
/-! ### a while's one turn -/
theorem mWh_eq {c : Mx Bool} {b : Mst} {σ : PSt} {h : MH} : mWh c b σ h = (c σ h).go σ fun x => if x = true then (fun σ h => match b σ h with
      | .nx σ2 h2 => mWh c b σ2 h2
      | .ct σ2 h2 => mWh c b σ2 h2
      | .bk σ2 h2 => .nx σ2 h2
      | .rt v h2 => .rt v h2
      | .exc e σ2 h2 => .exc e σ2 h2
      | .rse e σ2 h2 => .rse e σ2 h2
      | .bad => .bad) else mSkip := by
  have one : ∀ n, mWhN c b (n + 1) σ h = (c σ h).go σ fun x => if x = true then (fun σ h => match b σ h with
      | .nx σ2 h2 => mWhN c b n σ2 h2
      | .ct σ2 h2 => mWhN c b n σ2 h2
      | .bk σ2 h2 => .nx σ2 h2
      | .rt v h2 => .rt v h2
      | .exc e σ2 h2 => .exc e σ2 h2
      | .rse e σ2 h2 => .rse e σ2 h2
      | .bad => .bad) else mSkip := fun n => by rw [mWhN]; rfl
  have flat : ∀ o : SOut, (∀ n, mWhN c b (n + 1) σ h = o) → mWh c b σ h = o := fun o ho => by
    by_cases z : o = .bad
    · subst z
      unfold mWh
      rw [dif_neg]
      rintro ⟨n, q⟩
      cases n with
      | zero => exact q rfl
      | succ n => exact q (ho n)
    · rw [mWh_of (n := 1) (by rw [ho 0]; exact z), ho 0]
  have step : ∀ σ2 h2, (∀ n, mWhN c b (n + 1) σ h = mWhN c b n σ2 h2) → mWh c b σ h = mWh c b σ2 h2 := fun σ2 h2 ho => by
    by_cases z : ∃ n, mWhN c b n σ2 h2 ≠ .bad
    · obtain ⟨n, q⟩ := z
      rw [mWh_of q, mWh_of (n := n + 1) (by rw [ho n]; exact q), ho n]
    · have z' : ∀ n, mWhN c b n σ2 h2 = .bad := fun n => Classical.byContradiction fun q => z ⟨n, q⟩
      have e2 : mWh c b σ2 h2 = .bad := by unfold mWh; rw [dif_neg z]
      rw [e2]
      unfold mWh
      rw [dif_neg]
      rintro ⟨n, q⟩
      cases n with
      | zero => exact q rfl
      | succ n => exact q ((ho n).trans (z' n))
  cases e : c σ h with
  | bad => exact flat _ fun n => by rw [one, e]; rfl
  | exc x h1 => exact flat _ fun n => by rw [one, e]; rfl
  | ok x h1 =>
    cases x with
    | false => exact flat _ fun n => by rw [one, e]; rfl
    | true =>
      cases em : b σ h1 with
      | nx σ2 h2 => rw [step σ2 h2 fun n => by rw [one, e]; simp [em]]; simp [em]
      | ct σ2 h2 => rw [step σ2 h2 fun n => by rw [one, e]; simp [em]]; simp [em]
      | bk σ2 h2 => exact flat _ fun n => by rw [one, e]; simp [em]
      | rt v h2 => exact flat _ fun n => by rw [one, e]; simp [em]
      | exc x σ2 h2 => exact flat _ fun n => by rw [one, e]; simp [em]
      | rse x σ2 h2 => exact flat _ fun n => by rw [one, e]; simp [em]
      | bad => exact flat _ fun n => by rw [one, e]; simp [em]
/-! ### operations on what is known -/
section
variable {h : MH} {i j : Int}
@[simp] theorem opAdd_ii : opAdd (.int i) (.int j) h = .ok (.int (i + j)) h := rfl
@[simp] theorem opSub_ii : opSub (.int i) (.int j) h = .ok (.int (i - j)) h := rfl
@[simp] theorem opNeg_i : opNeg (.int i) h = .ok (.int (-i)) h := rfl
@[simp] theorem opLt_ii : opLt (.int i) (.int j) h = .ok (.bl (decide (i < j))) h := rfl
@[simp] theorem opLe_ii : opLe (.int i) (.int j) h = .ok (.bl (decide (i ≤ j))) h := rfl
@[simp] theorem opGt_ii : opGt (.int i) (.int j) h = .ok (.bl (decide (j < i))) h := rfl
@[simp] theorem opGe_ii : opGe (.int i) (.int j) h = .ok (.bl (decide (j ≤ i))) h := rfl
@[simp] theorem opEq_ii : opEq (.int i) (.int j) h = .ok (.bl (decide (i = j))) h := by simp [opEq, rd, SeqAt.shaped, PyData.canLay0, PyData.depth, PyData.eqv, Bool.beq_eq_decide_eq]
@[simp] theorem opNe_ii : opNe (.int i) (.int j) h = .ok (.bl (!decide (i = j))) h := by simp [opNe, rd, SeqAt.shaped, PyData.canLay0, PyData.depth, PyData.eqv, Bool.beq_eq_decide_eq]
@[simp] theorem opEq_bb {a b : Bool} : opEq (.bl a) (.bl b) h = .ok (.bl (a == b)) h := by simp [opEq, rd, SeqAt.shaped, PyData.canLay0, PyData.depth, PyData.eqv]
@[simp] theorem opNe_bb {a b : Bool} : opNe (.bl a) (.bl b) h = .ok (.bl (!(a == b))) h := by simp [opNe, rd, SeqAt.shaped, PyData.canLay0, PyData.depth, PyData.eqv]
theorem opMod_ii (hj : j ≠ 0) : opMod (.int i) (.int j) h = .ok (.int (i.fmod j)) h := by simp [opMod, hj]
theorem opFd_ii (hj : j ≠ 0) (hl : j.natAbs.log2 < 9000) : opFd (.int i) (.int j) h = .ok (.int (i.fdiv j)) h := by simp [opFd, hj, PyProof.noPylong_of_log2 hl]
theorem opMul_l (hl : -(2 ^ 64) < i ∧ i < 2 ^ 64) : opMul (.int i) (.int j) h = .ok (.int (i * j)) h := by simp [opMul, IntMulOk.of_left (intBits_le_64 hl.1 hl.2)]
theorem opMul_r (hl : -(2 ^ 64) < j ∧ j < 2 ^ 64) : opMul (.int i) (.int j) h = .ok (.int (i * j)) h := by simp [opMul, IntMulOk.of_right (intBits_le_64 hl.1 hl.2)]
theorem opPow_ii (hj : 0 ≤ j ∧ j ≤ 1000000 ∧ i.natAbs < 2 ^ 64) : opPow (.int i) (.int j) h = .ok (.int (i ^ j.toNat)) h := by simp [opPow, CPow, hj]
@[simp] theorem fAbs_i : fAbs [.int i] h = .ok (.int (if i < 0 then -i else i)) h := rfl
@[simp] theorem fMin_ii : fMin [.int i, .int j] h = .ok (.int (if j < i then j else i)) h := rfl
@[simp] theorem fMax_ii : fMax [.int i, .int j] h = .ok (.int (if j > i then j else i)) h := rfl
@[simp] theorem fInt_i : fInt [.int i] h = .ok (.int i) h := rfl
@[simp] theorem fInt_b {b : Bool} : fInt [.bl b] h = .ok (.int (if b then 1 else 0)) h := rfl
@[simp] theorem fLen_frl {xs : List PV} : fLen [.frl xs] h = .ok (.int xs.length) h := rfl
@[simp] theorem fLen_tup {xs : List PV} : fLen [.tup xs] h = .ok (.int xs.length) h := rfl
theorem newT_small {xs : List PV} (hl : xs.length ≤ 1000) : newT xs h = .ok (.tup xs) h := by
  unfold newT; rw [if_pos (Nat.le_trans hl (by decide))]
theorem newL_small {xs : List PV} (hl : xs.length ≤ 1000) : newL xs h = .ok (.loc h.length) (h ++ [.lst xs]) := by
  unfold newL; rw [if_pos (Nat.le_trans hl (by decide))]
@[simp] theorem newT_0 : newT [] h = .ok (.tup []) h := newT_small (by decide)
@[simp] theorem newT_1 {a : PV} : newT [a] h = .ok (.tup [a]) h := newT_small (by simp)
@[simp] theorem newT_2 {a b : PV} : newT [a, b] h = .ok (.tup [a, b]) h := newT_small (by simp)
@[simp] theorem newT_3 {a b c : PV} : newT [a, b, c] h = .ok (.tup [a, b, c]) h := newT_small (by simp)
theorem ixN_nat {n m : Nat} (hl : m < n) : ixN n (m : Int) = some m := by unfold ixN; rw [if_pos (by omega), if_pos (by omega)]; simp
@[simp] theorem atI_0 {α : Type} {a : α} {r : List α} : atI (a :: r) 0 = some a := atI_nat (j := 0) rfl
@[simp] theorem atI_1 {α : Type} {a b : α} {r : List α} : atI (a :: b :: r) 1 = some b := atI_nat (j := 1) rfl
@[simp] theorem atI_2 {α : Type} {a b c : α} {r : List α} : atI (a :: b :: c :: r) 2 = some c := atI_nat (j := 2) rfl
@[simp] theorem atI_3 {α : Type} {a b c d : α} {r : List α} : atI (a :: b :: c :: d :: r) 3 = some d := atI_nat (j := 3) rfl
def Out.ofO (o : Option PV) (h : MH) : Out PV := match o with
  | some v => .ok v h
  | none => .bad
@[simp] theorem ofO_some {v : PV} : Out.ofO (some v) h = .ok v h := rfl
@[simp] theorem opIx_tup {xs : List PV} : opIx (.tup xs) (.int i) h = Out.ofO (atI xs i) h := rfl
@[simp] theorem opIx_frl {xs : List PV} : opIx (.frl xs) (.int i) h = Out.ofO (atI xs i) h := rfl
theorem opIx_loc {n : Nat} {xs : List PV} (e : h[n]? = some (.lst xs)) : opIx (.loc n) (.int i) h = Out.ofO (atI xs i) h := by
  simp only [opIx, e]; rfl
theorem fLen_loc {n : Nat} {xs : List PV} (e : h[n]? = some (.lst xs)) : fLen [.loc n] h = .ok (.int xs.length) h := by simp only [fLen, e]
theorem setL_loc {n : Nat} {xs : List PV} {v : PV} (e : h[n]? = some (.lst xs)) : setL (.loc n) (.int i) v h = (ixN xs.length i).map fun p => h.set n (.lst (xs.set p v)) := by simp only [setL, e]
theorem itAny_loc {n : Nat} {xs : List PV} (e : h[n]? = some (.lst xs)) : itAny (.loc n) h = .ok ⟨xs, some n⟩ h := by simp only [itAny, e]
@[simp] theorem itAny_tup {xs : List PV} : itAny (.tup xs) h = .ok ⟨xs, none⟩ h := rfl
@[simp] theorem itAny_frl {xs : List PV} : itAny (.frl xs) h = .ok ⟨xs, none⟩ h := rfl
theorem opAdd_ll {n m : Nat} {xs ys : List PV} (e1 : h[n]? = some (.lst xs)) (e2 : h[m]? = some (.lst ys)) : opAdd (.loc n) (.loc m) h = newL (xs ++ ys) h := by simp only [opAdd, e1, e2]
@[simp] theorem ok_none {xs : List PV} : (⟨xs, none⟩ : MIt).ok h ↔ True := Iff.rfl
@[simp] theorem ok_some {xs : List PV} {n : Nat} : (⟨xs, some n⟩ : MIt).ok h ↔ h[n]? = some (.lst xs) := Iff.rfl
end
/-! ### loops -/
/-- what a body's end means for the next turn -/
def SOut.turn (o : SOut) (k : Mst) : SOut := match o with
  | .nx σ2 h2 => k σ2 h2
  | .ct σ2 h2 => k σ2 h2
  | .bk σ2 h2 => .nx σ2 h2
  | .rt v h2 => .rt v h2
  | .exc e σ2 h2 => .exc e σ2 h2
  | .rse e σ2 h2 => .rse e σ2 h2
  | .bad => .bad
@[simp] theorem turn_rse {σ : PSt} {h : MH} {x : MExc} {k : Mst} : (SOut.rse x σ h).turn k = .rse x σ h := rfl
@[simp] theorem turn_exc {σ : PSt} {h : MH} {x : MExc} {k : Mst} : (SOut.exc x σ h).turn k = .exc x σ h := rfl
@[simp] theorem turn_nx {σ : PSt} {h : MH} {k : Mst} : (SOut.nx σ h).turn k = k σ h := rfl
@[simp] theorem turn_ct {σ : PSt} {h : MH} {k : Mst} : (SOut.ct σ h).turn k = k σ h := rfl
@[simp] theorem turn_bk {σ : PSt} {h : MH} {k : Mst} : (SOut.bk σ h).turn k = .nx σ h := rfl
@[simp] theorem turn_rt {v : PV} {h : MH} {k : Mst} : (SOut.rt v h).turn k = .rt v h := rfl
theorem mGo_nil {it : MIt} {g : Mg} {b : Mst} {σ : PSt} {h : MH} (e : it.ok h) : mGo it g b [] σ h = .nx σ h := by
  rw [mGo]; dsimp only; rw [if_pos e]
theorem mGo_cons {it : MIt} {g : Mg} {b : Mst} {x : PV} {r : List PV} {σ σ1 : PSt} {h h1 : MH} (e : it.ok h) (eg : g x σ h = .nx σ1 h1) : mGo it g b (x :: r) σ h = (b σ1 h1).turn (mGo it g b r) := by
  rw [mGo]; dsimp only; rw [if_pos e, eg]; rfl
theorem mWh_turn {c : Mx Bool} {b : Mst} {σ : PSt} {h : MH} : mWh c b σ h = (c σ h).go σ fun x => if x = true then (fun σ h => (b σ h).turn (mWh c b)) else mSkip := mWh_eq
/-- a loop whose body goes on from each item, by an invariant over what is done -/
theorem mGo_inv {it : MIt} {i : Nat} {b : Mst} (I : Nat → PSt → MH → Prop) : ∀ (xs : List PV) (j : Nat) (σ : PSt) (h : MH), I j σ h → (∀ j σ h, I j σ h → it.ok h) →
    (∀ j σ h x, I j σ h → xs[j]? = some x → True) → (∀ m σ h x, I (j + m) σ h → xs[m]? = some x → ∃ σ' h', (b (σ.set i (some x)) h = .nx σ' h' ∨ b (σ.set i (some x)) h = .ct σ' h') ∧ I (j + m + 1) σ' h') →
    ∃ σ' h', mGo it (gNm i) b xs σ h = .nx σ' h' ∧ I (j + xs.length) σ' h'
  | [], j, σ, h, hI, hok, _, _ => ⟨σ, h, mGo_nil (hok _ _ _ hI), hI⟩
  | x :: r, j, σ, h, hI, hok, _, st => by
    obtain ⟨σ1, h1, e, I1⟩ := st 0 σ h x hI rfl
    obtain ⟨σ2, h2, e2, I2⟩ := mGo_inv I r (j + 1) σ1 h1 I1 hok (fun _ _ _ _ _ _ => trivial) fun m σ' h' y q z => by
      have := st (m + 1) σ' h' y (by rw [show j + (m + 1) = j + 1 + m by omega]; exact q) (by simpa using z)
      rw [show j + (m + 1) + 1 = j + 1 + m + 1 by omega] at this
      exact this
    refine ⟨σ2, h2, ?_, by rw [List.length_cons, show j + (r.length + 1) = j + 1 + r.length by omega]; exact I2⟩
    rw [mGo_cons (hok _ _ _ hI) gNm_ap]
    rcases e with e | e
    · rw [e]; exact e2
    · rw [e]; exact e2
end MM

set_option Elab.async false
set_option linter.all false
set_option maxRecDepth 100000
namespace MM
open PySem PySem.Spec PyProof.Rows L2
noncomputable local instance (priority := 1) cdec7 (p : Prop) : Decidable p := Classical.propDecidable p
/-! ### list comprehensions -/
theorem codeAny_comp {prog : Program} {w : World} {A : Around} {R : Result → Shared → Prop} {s : Shared} {elt target iter : Expr} {ifs : List Expr} {scope : Scope} {pos : Pos} {it acc : Value} {env : Env} (I : Nat → Shared → Prop)
    (turn : ∀ n s, I n s → wpAny (model prog w) A (pyNext it) (fun r s₁ => match r with
      | none => R (.ok .next) s₁
      | some v => wpAny (model prog w) A (letOwnedTupleGo target it v) (fun _ s₂' => wpAny (model prog w) A (assign target env v) (fun _ s₂ =>
          wpAny (model prog w) A (forIn ifs true fun c r => if r = true then do let ok ← isTrue c env (eval c env); pure (ForInStep.yield ok) else pure (ForInStep.yield r)) (fun ok s₃ =>
            if ok = true then wpAny (model prog w) A (eval elt env) (fun x s₄ =>
              wpAny (model prog w) A (call (.builtin "list.append") [acc, x]) (fun _ s₅ => ∃ m, m < n ∧ I m s₅) (fun _ _ => False) s₄) (fun _ _ => False) s₃
            else ∃ m, m < n ∧ I m s₃) (fun _ _ => False) s₂) (fun _ _ => False) s₂') (fun _ _ => False) s₁) (fun _ _ => False) s)
    (n : Nat) (h : I n s) :
    codeAny (model prog w) A (.compLoop (.ListComp elt [⟨target, iter, ifs, 0⟩] scope pos) 0 it acc env) R s := by
  refine codeAny_loop rfl I (fun n s hI => ?_) n h
  show wpAny _ A ((compTurn (.ListComp elt [⟨target, iter, ifs, 0⟩] scope pos) 0 it acc env).onRaise (fun x => do noteFrame x env; theTreesLotGoes x)) _ _ s
  refine wpAny_noted ?_
  rw [compTurn_list]
  have no : ∀ (e : Value) (s' : Shared), False → notedBy (model prog w) A env (fun e s' => R (.error e) s') e s' := fun _ _ z => z.elim
  refine wpAny_bind (wpAny_standAt (wpAny_bind (wpAny_mono (turn n s hI) (fun r s₁ h₁ => ?_) fun _ _ h' => h'.elim)))
  cases r with
  | none => exact wpAny_pure h₁
  | some v =>
    refine wpAny_bind (wpAny_mono h₁ (fun _ s₂' h₂' => ?_) fun _ _ h' => h'.elim)
    refine wpAny_bind (wpAny_mono h₂' (fun _ s₂ h₂ => wpAny_bind (wpAny_mono h₂ (fun ok s₃ h₃ => ?_) fun _ _ h' => h'.elim)) fun _ _ h' => h'.elim)
    cases ok with
    | false => exact wpAny_pure ⟨rfl, h₃⟩
    | true =>
      exact wpAny_bind (wpAny_bind (wpAny_mono h₃ (fun x s₄ h₄ => wpAny_bind (wpAny_mono h₄ (fun _ s₅ h₅ => wpAny_pure (wpAny_pure ⟨rfl, h₅⟩)) fun _ _ h' => h'.elim)) fun _ _ h' => h'.elim))

/-! ### the block's names -/
def clOf (env : Env) : List (Str × NameKind) → List (Str × Addr) → List (Str × Addr)
  | [], cs => cs
  | (n, k) :: r, cs => clOf env r (if (k == NameKind.free) = true then (n, (env.cells.lookup n).getD 0) :: cs else cs)
theorem closureFor_is {scope : Scope} {env : Env} (h : ∀ y ∈ scope.names, y.2 = .free → ∃ c, env.cells.lookup y.1 = some c) : closureFor scope env = pure (clOf env scope.names []) := by
  have key : ∀ (l : List (Str × NameKind)) (cs : List (Str × Addr)), (∀ y ∈ l, y.2 = .free → ∃ c, env.cells.lookup y.1 = some c) →
      (forIn l cs fun (x : Str × NameKind) (r : List (Str × Addr)) => if (x.2 == NameKind.free) = true then (do let a ← cellOf env x.1; pure (ForInStep.yield ((x.1, a) :: r)) : Sem _) else pure (ForInStep.yield r)) = (pure (clOf env l cs) : Sem _) := by
    intro l
    induction l with
    | nil => intro cs _; rfl
    | cons y l ih =>
      intro cs hh
      obtain ⟨n, k⟩ := y
      rw [List.forIn_cons]
      have hl := fun z hz => hh z (List.mem_cons_of_mem _ hz)
      by_cases hk : (k == NameKind.free) = true
      · obtain ⟨c, hc⟩ := hh (n, k) List.mem_cons_self (by simpa using hk)
        dsimp only at hc ⊢
        rw [if_pos hk]
        have hco : cellOf env n = pure c := by unfold cellOf; rw [hc]
        rw [hco]
        refine (ih ((n, c) :: cs) hl).trans ?_
        simp only [clOf, hk, if_true, hc, Option.getD_some]
      · dsimp only
        rw [if_neg hk]
        refine (ih cs hl).trans ?_
        simp [clOf, hk]
  unfold closureFor
  exact (congrArg (fun z => z >>= fun r => pure r) (key scope.names [] h)).trans rfl
theorem clOf_lookup {env : Env} {x : Str} : ∀ (l : List (Str × NameKind)) (cs : List (Str × Addr)), (∀ a, cs.lookup x = some a → a = (env.cells.lookup x).getD 0) → (∀ a, (clOf env l cs).lookup x = some a → a = (env.cells.lookup x).getD 0) ∧ ((∃ k, (x, k) ∈ l ∧ k = .free) ∨ (∃ a, cs.lookup x = some a) → ∃ a, (clOf env l cs).lookup x = some a)
  | [], cs, h => ⟨h, fun z => by
    rcases z with ⟨k, z, _⟩ | z
    · cases z
    · exact z⟩
  | (n, k) :: r, cs, h => by
    have h' : ∀ a, (if (k == NameKind.free) = true then (n, (env.cells.lookup n).getD 0) :: cs else cs).lookup x = some a → a = (env.cells.lookup x).getD 0 := fun a ha => by
      split at ha
      · rw [List.lookup_cons] at ha
        split at ha
        · rename_i e
          have : x = n := by simpa using e
          subst this
          exact (Option.some.inj ha).symm
        · exact h a ha
      · exact h a ha
    obtain ⟨i1, i2⟩ := clOf_lookup r _ h'
    refine ⟨i1, fun z => i2 ?_⟩
    rcases z with ⟨k', z, hk⟩ | ⟨a, z⟩
    · rcases List.mem_cons.mp z with e | e
      · cases e
        right
        subst hk
        exact ⟨(env.cells.lookup x).getD 0, by simp⟩
      · exact .inl ⟨k', e, hk⟩
    · right
      split
      · rw [List.lookup_cons]
        split
        · exact ⟨_, rfl⟩
        · exact ⟨a, z⟩
      · exact ⟨a, z⟩
theorem relabel_look {env : Env} (hk : env.scope.kind = .function) : ∀ {names : List (Str × NameKind)} {x : Str} {k : NameKind}, names.lookup x = some k →
    (names.map fun (n, k) => if (k == NameKind.free && env.scope.kind == .function && env.kindOf n == some .cell) then (n, NameKind.cell) else (n, k)).lookup x = some (if k = .free ∧ env.kindOf x = some .cell then .cell else k)
  | [], _, _, h => by simp at h
  | (n, k') :: r, x, k, h => by
    have ih := @relabel_look env hk r x k
    show List.lookup x ((if (k' == NameKind.free && env.scope.kind == .function && env.kindOf n == some .cell) = true then (n, NameKind.cell) else (n, k')) :: _) = _
    cases hx : x == n with
    | true =>
      have e : x = n := by simpa using hx
      subst e
      simp only [List.lookup_cons, hx] at h
      cases h
      by_cases z : k' = .free ∧ env.kindOf x = some .cell
      · rw [if_pos (by simp [z.1, z.2, hk]), if_pos z]; simp [List.lookup_cons]
      · rw [if_neg (by simp [hk]; intro q1 q2; exact z ⟨q1, q2⟩), if_neg z]; simp [List.lookup_cons]
    | false =>
      simp only [List.lookup_cons, hx] at h
      by_cases hc : (k' == NameKind.free && env.scope.kind == .function && env.kindOf n == some .cell) = true
      · rw [if_pos hc]; simp only [List.lookup_cons, hx]; exact ih h
      · rw [if_neg hc]; simp only [List.lookup_cons, hx]; exact ih h
end MM

set_option Elab.async false
set_option linter.all false
set_option maxRecDepth 100000
namespace MM
open PySem PySem.Spec PyProof.Rows L2
noncomputable local instance (priority := 1) cdec8 (p : Prop) : Decidable p := Classical.propDecidable p
def cxComp (X : Cx) (scope : Scope) (cl : List (Str × Addr)) (s₃ : Shared) (H₃ : Hp) (fp : List Addr) (N' : List Str) : Cx :=
  { X with N := N', s₀ := s₃, H₀ := H₃, env := compEnvC scope cl s₃.heap.objs.size X.env, outer := X.stack, ex := fp, fn := fun _ => false, pn := [], xe := fun _ _ => False }
/-- what is read off the block's names -/
structure CompOk (X : Cx) (N : List Str) (scope : Scope) (vars frees : List Str) (fm : List Nat) : Prop where
  kind : scope.kind = .function
  cell : ∀ y ∈ scope.names, y.2 ≠ .cell
  names : ∀ y ∈ scope.names, y.2 = .local → scope.names.lookup y.1 = some .local
  hv : ∀ x ∈ vars, scope.names.lookup x = some .local
  hf : ∀ x ∈ frees, scope.names.lookup x = some .free
  all : ∀ y ∈ scope.names, y.2 = .free → y.1 ∈ frees
  fm : fm.map (fun i => N[i]?) = frees.map some
  cl : ∀ x ∈ frees, X.env.kindOf x = some .cell
def cSt (nv : Nat) (fm : List Nat) (σ : PSt) : PSt := List.replicate nv none ++ fm.map fun i => (σ[i]?).getD none
noncomputable def cGo (it : MIt) (n : Nat) (gt : Mg) (mt : Mx Bool) (me : Mx PV) : List PV → PSt → MH → Out Unit
  | [], _, h => if it.ok h then .ok () h else .bad
  | x :: r, σ, h => if it.ok h then (match gt x σ h with
    | .nx σ1 h1 => (mt σ1 h1).ne.bind fun b h2 => if b = true then (me σ1 h2).ne.bind fun v h3 => (match h3[n]? with
        | some (.lst ys) => if ys.length < sizeLine then cGo it n gt mt me r σ1 (h3.set n (.lst (ys ++ [v]))) else .bad
        | _ => .bad) else cGo it n gt mt me r σ1 h2
    | _ => .bad) else .bad
noncomputable def mComp (nv : Nat) (fm : List Nat) (mi : Mx MIt) (gt : Mg) (mt : Mx Bool) (me : Mx PV) : Mx PV := fun σ h =>
  (mi σ h).bind fun it h1 => (cGo it h1.length gt mt me it.xs (cSt nv fm σ) (h1 ++ [.lst []])).bind fun _ h3 => .ok (.loc h1.length) h3
/-- the tests of a comprehension: none, or one -/
def MTs (X : Cx) (ifs : List Expr) (m : Mx Bool) : Prop :=
  ∀ (pins : List (Addr × Obj)) (s : Shared) (σ : L2.St) (H : Hp) (Q : Bool → Hp → Prop), Inv X pins σ H s → tM X REq m σ H Q →
    wpAny (model X.prog X.w) X.A (forIn ifs true fun c r => if r = true then do let ok ← isTrue c X.env (eval c X.env); pure (ForInStep.yield ok) else pure (ForInStep.yield r)) (TP X pins σ Q) X.xe s
def mTrue : Mx Bool := fun _ h => .ok true h
theorem mts_nil {X : Cx} : MTs X [] mTrue := fun pins s σ H Q I ⟨ρ, σp, h, rs, rh, q⟩ => wpAny_tests_nil ⟨H, I, q ρ H true (Le.refl _ _) rh rfl⟩
theorem mts_one {X : Cx} {c : Expr} {m : Mx Bool} (h : MT X c m) : MTs X [c] m := fun pins s σ H Q I q => wpAny_tests_one (h pins s σ H Q I q)
section
variable {X : Cx} {N W G : List Str} {k : Nat}
theorem comp_core (g : Good X N W G k) {tg iter elt : Expr} {ifs : List Expr} {scope : Scope} {pos : Pos} {vars frees G' : List Str} {fm : List Nat} {mi : Mx MIt} {gt : Mg} {mt : Mx Bool} {me : Mx PV} (C : CompOk X N scope vars frees fm)
    (nd : (vars ++ frees).Nodup) (hgl : ∀ x ∈ G', scope.names.lookup x = some .globalImplicit) (dbg : ∀ x ∈ (vars ++ frees) ++ G', (x == ("__debug__" : Str)) = false ∧ (x == ("__classdict__" : Str)) = false ∧ x ≠ "__name__")
    (hi : MI X tg iter mi)
    (hY : ∀ Y : Cx, Y.prog = X.prog → Y.w = X.w → Y.K = X.K → Y.mg = X.mg → Y.base = X.base → Y.env.scope = relabel scope X.env → Good Y (vars ++ frees) vars G' k → MG Y tg gt ∧ MTs Y ifs mt ∧ ME Y elt me)
    (hs : ∀ x, foldedSetIterable iter X.env x = pure x) {use : Option (Value → Sem Unit)} {Qv : Value → Shared → Prop} {pp : Pos} {pins : List (Addr × Obj)} {s : Shared} {σ : L2.St} {H : Hp} {Q : VK} (I : Inv X pins σ H s) (tm : tM X (RV' X) (mComp vars.length fm mi gt mt me) σ H Q)
    (fin : ∀ (acc C : Addr) (H6 : Hp) (s7 : Shared) (m7 : Str → Option Value), Inv X pins σ H6 s7 → H6 C = none → s7.heap.Ns C m7 → C ≠ X.env.locals → X.s₀.heap.objs.size ≤ C → C ∉ X.fs → (∀ x c, X.env.cells.lookup x = some c → c ≠ C) → (∀ p ∈ X.pn ++ pins, p.1 ≠ C) → Q (.ref acc) H6 →
      compPost (model X.prog X.w) X.A X.xe use Qv (.ref acc) C (.ok .next) s7) :
    wpAny (model X.prog X.w) X.A (comprehension (.ListComp elt [⟨tg, iter, ifs, 0⟩] scope pos) scope X.env pp (newList []) false (eval iter X.env) use) Qv X.xe s := by
  obtain ⟨ρ, σp, h, rs, rh, q⟩ := tm
  have hfree : ∀ y ∈ scope.names, y.2 = .free → ∃ c, X.env.cells.lookup y.1 = some c := fun y hy e => I.ok.has y.1 (.inl (C.cl _ (C.all y hy e)))
  refine wpAny_comprehension_free (use := use) rfl hs (closureFor_is hfree) C.kind C.names ?_
  generalize hcl : clOf X.env scope.names [] = cl
  have clk : ∀ x a, cl.lookup x = some a → X.env.cells.lookup x = some a ∨ ((X.env.cells.lookup x) = none ∧ a = 0) := fun x a e => by
    rw [← hcl] at e
    have := (clOf_lookup (env := X.env) (x := x) scope.names [] (fun a z => by simp at z)).1 a e
    cases z : X.env.cells.lookup x with
    | none => right; rw [z] at this; exact ⟨rfl, this⟩
    | some c => left; rw [z] at this; rw [this]; rfl
  have clf : ∀ x ∈ frees, ∃ c, cl.lookup x = some c ∧ X.env.cells.lookup x = some c := fun x hx => by
    obtain ⟨c, hc⟩ := I.ok.has x (.inl (C.cl x hx))
    have hm : (∃ kk, (x, kk) ∈ scope.names ∧ kk = .free) := ⟨.free, PySem.mem_of_lookup (C.hf x hx), rfl⟩
    obtain ⟨a, ha⟩ := (clOf_lookup (env := X.env) (x := x) scope.names [] (fun a z => by simp at z)).2 (.inl hm)
    rw [hcl] at ha
    rcases clk x a ha with z | ⟨z, _⟩
    · rw [hc] at z; cases z; exact ⟨c, ha, hc⟩
    · rw [hc] at z; cases z
  -- only the free names have cells
  have clin : ∀ x a, cl.lookup x = some a → X.env.cells.lookup x = some a := fun x a e => by
    rcases clk x a e with z | ⟨z, _⟩
    · exact z
    · exfalso
      have only : ∀ (l : List (Str × NameKind)) (cs : List (Str × Addr)) (x : Str) (a : Addr), (clOf X.env l cs).lookup x = some a → (x, NameKind.free) ∈ l ∨ cs.lookup x = some a := by
        intro l
        induction l with
        | nil => intro cs x a e; exact .inr e
        | cons y l ih =>
          intro cs x a e
          obtain ⟨n, kk⟩ := y
          rcases ih _ x a e with z | z
          · exact .inl (List.mem_cons_of_mem _ z)
          · split at z
            · rename_i hk
              have hk' : kk = NameKind.free := by simpa using hk
              rw [List.lookup_cons] at z
              split at z
              · rename_i e'
                have : x = n := by simpa using e'
                subst this; subst hk'
                exact .inl List.mem_cons_self
              · exact .inr z
            · exact .inr z
      rw [← hcl] at e
      rcases only _ _ x a e with z' | z'
      · obtain ⟨c, hc⟩ := hfree _ z' rfl
        rw [z] at hc; cases hc
      · simp at z'
  have start := hi pins s σ H (fun J H1 => ∃ ρ1 it h1, Le ρ H ρ1 H1 ∧ RH X.K X.mg ρ1 H1 h1 ∧ JRel X ρ1 H1 it J ∧ Ful X (RV' X) σp ρ1 H1 ((cGo it h1.length gt mt me it.xs (cSt vars.length fm σp) (h1 ++ [.lst []])).bind fun _ h3 => .ok (.loc h1.length) h3) Q) I
    ⟨ρ, σp, h, rs, rh, Ful.bind q fun ρ1 H1 it J h1 _ l1 rh1 jr q1 => ⟨ρ1, it, h1, l1, rh1, jr, q1⟩⟩
  refine wpAny_mono start (fun x s₁ h₁ => wpAny_mono h₁ (fun itv s₂ h₂ => ?_) fun _ _ e => e) fun _ _ e => e
  obtain ⟨ita, fp, tn, J, H2, rfl, I2, T, st2, f2, ρ1, it, h1, l1, rh1, jr, q1⟩ := h₂
  -- the new list
  refine wpAny_newObj_type ?_
  have hf2 : H2 s₂.heap.objs.size = none := I2.hok.fresh (Nat.le_refl _)
  have I3 := I2.lnew (ys := []) (its := []) (t' := s₂.toks) .nil (Nat.zero_le _)
  obtain ⟨rh3, l3⟩ := rh1.new hf2 (o := .lst []) (ho := .lst []) ⟨[], rfl, .nil⟩
  generalize hs3 : ({ s₂ with heap := s₂.heap.push { cls := .type "list", data := .seq ([] : List Value).toArray }, toks := s₂.toks } : Shared) = s₃ at I3
  generalize hH3 : upd H2 s₂.heap.objs.size (.lst []) = H₃ at I3 rh3 l3
  have hacc : H₃ s₂.heap.objs.size = some (.lst []) := by rw [← hH3]; exact upd_same
  have es3 : s₃.heap = s₂.heap.push { cls := .type "list", data := .seq ([] : List Value).toArray } := by rw [← hs3]
  have st3 : tn 0 s₃.heap := T.keep _ _ _ st2 fun b _ o e => by rw [es3]; exact Heap.get?_push_of_some _ e
  have fp3 : ∀ b ∈ fp, FpOk X pins H₃ b := fun b hb => by
    obtain ⟨a0, a1⟩ := f2 b hb
    refine ⟨?_, a1⟩
    obtain ⟨o, eo, _⟩ := T.obj _ _ st2 b hb
    rw [← hH3, upd_ne (Nat.ne_of_lt (Heap.lt_size eo))]; exact a0
  have goal3 : wpAny (model X.prog X.w) X.A (newFunctionEnv scope X.env.globals cl [] X.env.qual none .none (some X.env)) (fun cenv s₄ =>
        codeAny (model X.prog X.w) X.A (.compStart (.ListComp elt [⟨tg, iter, ifs, 0⟩] scope pos) 0 (.ref ita) (.ref s₂.heap.objs.size) { cenv with scope := relabel scope X.env }) (compPost (model X.prog X.w) X.A X.xe use Qv (.ref s₂.heap.objs.size) cenv.locals) s₄) X.xe s₃ := by
    refine wpAny_newFunctionEnv C.cell (by intro y hy; simp at hy) (fun h' hns hsb => ?_) C.kind
    dsimp only [newEnv]
    -- the block's context
    have keep4 : ∀ b o, s₃.heap.get? b = some o → h'.get? b = some o := fun b o e => hsb.extBut b o (Nat.ne_of_lt (Heap.lt_size e)) (Heap.get?_push_of_some _ e)
    have ok : (cxComp X scope cl s₃ H₃ fp (vars ++ frees)).Ok := by
      refine ⟨I3.ok.mod, C.kind, I3.ok.glob, I3.ok.blt, Nat.le_refl _, fun x y c h1 h2 => I3.ok.inj x y c (clin x c h1) (clin y c h2), fun x hx => ?_, fun x c hx => absurd hx Bool.false_ne_true, I3.ok.hd, I3.ok.frames, .inl rfl,
        fun b hb => ⟨?_, fun x c e z => ?_⟩, I3.bs, Nat.le_trans I3.ok.bsz I3.sz, fun b o e hb => ?_, fun b hb z => ?_, I3.stack, I3.stkFree⟩
      · -- a cell or free name of the block is one of frees
        have hx' : (relabel scope X.env).names.lookup x = some .cell ∨ (relabel scope X.env).names.lookup x = some .free := hx
        cases e : scope.names.lookup x with
        | none =>
          exfalso
          have nn : ∀ (l : List (Str × NameKind)), l.lookup x = none → (l.map fun (n, k) => if (k == NameKind.free && X.env.scope.kind == .function && X.env.kindOf n == some .cell) then (n, NameKind.cell) else (n, k)).lookup x = none := by
            intro l
            induction l with
            | nil => intro _; rfl
            | cons y l ih =>
              intro hl
              obtain ⟨n, kk⟩ := y
              rw [List.lookup_cons] at hl
              split at hl
              · cases hl
              · rename_i hx2
                rw [List.map_cons]
                dsimp only
                split <;> (rw [List.lookup_cons]; simp only [hx2]; exact ih hl)
          have e2 := nn scope.names e
          rcases hx' with z | z
          · rw [show (relabel scope X.env).names.lookup x = none from e2] at z; cases z
          · rw [show (relabel scope X.env).names.lookup x = none from e2] at z; cases z
        | some kk =>
          have e2 := relabel_look (env := X.env) I3.ok.kind e
          have hk : kk = .free := by
            rcases hx' with z | z
            · rw [show (relabel scope X.env).names.lookup x = _ from e2] at z
              have z' := Option.some.inj z
              by_cases zz : kk = .free ∧ X.env.kindOf x = some .cell
              · exact zz.1
              · rw [if_neg zz] at z'
                exact absurd z' (C.cell _ (PySem.mem_of_lookup e))
            · rw [show (relabel scope X.env).names.lookup x = _ from e2] at z
              have z' := Option.some.inj z
              by_cases zz : kk = .free ∧ X.env.kindOf x = some .cell
              · exact zz.1
              · rw [if_neg zz] at z'; exact z'
          subst hk
          obtain ⟨c, h1, _⟩ := clf x (C.all _ (PySem.mem_of_lookup e) rfl)
          exact ⟨c, h1⟩
      · obtain ⟨o, eo, _⟩ := T.obj _ _ st3 b hb
        exact Nat.ne_of_lt (Heap.lt_size eo)
      · exact (fp3 b hb).2.2.2.2.1 x c (clin x c e) z
      · obtain ⟨_, _, _, h4, _⟩ := fp3 b hb
        rcases h4 with h4 | h4
        · exact I3.ok.noex b o e h4
        · exact absurd (Nat.lt_of_lt_of_le (Heap.lt_size e) (Nat.le_trans I3.ok.bsz h4)) (Nat.lt_irrefl _)
      · obtain ⟨_, h2, h3, _⟩ := fp3 b hb
        rcases List.mem_cons.mp (I3.stkSub b z) with e | e
        · exact h2 e
        · exact h3 e
    -- the free names' values
    obtain ⟨mX, nsX, lX⟩ := I3.loc
    have l13 : Le ρ H (ρ1 ++ [s₂.heap.objs.size]) H₃ := l1.trans l3
    let σY : L2.St := List.replicate vars.length none ++ fm.map fun i => (σ[i]?).getD none
    have fml : fm.length = frees.length := by have := congrArg List.length C.fm; simpa using this
    have invY : Inv (cxComp X scope cl s₃ H₃ fp (vars ++ frees)) [] σY H₃ { s₃ with heap := h', toks := s₃.toks } := by
      refine ⟨ok, rfl, I3.bare, Un.kept keep4, ⟨_, hns, fun i x v hN hv hvis => ?_⟩, fun x c e => ?_, ?_, fun x c e => I3.freeC x c (clin x c e), fun p hp => absurd (show p ∈ ([] : List (Addr × Obj)) from hp) (by simp), I3.hok.kept keep4, ?_⟩
      · have hN' : (vars ++ frees)[i]? = some x := hN
        have hiv : vars.length ≤ i := by
          by_cases z : vars.length ≤ i
          · exact z
          · exfalso
            have hv' : σY[i]? = some (some v) := hv
            rw [List.getElem?_append_left (by simp; omega), List.getElem?_replicate] at hv'
            split at hv' <;> cases hv'
        have hv' : σY[i]? = some (some v) := hv
        rw [List.getElem?_append_right (by simpa using hiv), List.length_replicate, List.getElem?_map] at hv'
        rw [List.getElem?_append_right hiv] at hN'
        cases ej : fm[i - vars.length]? with
        | none => rw [ej] at hv'; cases hv'
        | some j =>
          rw [ej] at hv'
          have ef := congrArg (fun l => l[i - vars.length]?) C.fm
          simp only [List.getElem?_map, ej, hN', Option.map_some] at ef
          have ef' : N[j]? = some x := by simpa using ef
          have ev : σ[j]? = some (some v) := by
            have : (σ[j]?).getD none = some v := by simpa using hv'
            cases z : σ[j]? with
            | none => rw [z] at this; cases this
            | some o => rw [z] at this; simp at this; rw [this]
          have hx : x ∈ frees := List.mem_of_getElem? hN'
          have vis : Vis X.env.scope x := .inr (.inl (C.cl x hx))
          obtain ⟨u, ru, look⟩ := lX j x v (by rw [g.hN]; exact ef') ev vis
          refine ⟨u, ru, .inr ⟨?_, ?_⟩⟩
          · left
            show (relabel scope X.env).names.lookup x = some .cell
            have := relabel_look (env := X.env) I3.ok.kind (C.hf x hx)
            rw [if_pos ⟨rfl, C.cl x hx⟩] at this
            exact this
          · rcases look with ⟨hk, _⟩ | ⟨_, c, hc, hcell⟩
            · rw [C.cl x hx] at hk; cases hk
            · obtain ⟨c', h1, h2⟩ := clf x hx
              rw [hc] at h2; cases h2
              obtain ⟨o, eo, ed⟩ := hcell
              exact ⟨c, h1, o, keep4 _ _ eo, ed⟩
      · obtain ⟨v, o, eo, ed⟩ := I3.cell x c (clin x c e)
        exact ⟨v, o, keep4 _ _ eo, ed⟩
      · exact I3.hok.fresh (Nat.le_refl _)
      · show σY.length = (vars ++ frees).length
        simp [σY, fml]
    have gY : Good (cxComp X scope cl s₃ H₃ fp (vars ++ frees)) (vars ++ frees) vars G' k := by
      refine ⟨rfl, nd, fun x hx => ?_, fun x hx => .inr ?_, fun x hx => ?_, dbg, g.calm, g.room, PassesOwn.never⟩
      · rcases List.mem_append.mp hx with z | z
        · left
          have := relabel_look (env := X.env) I3.ok.kind (C.hv x z)
          rw [if_neg (fun q => nomatch q.1)] at this
          exact this
        · right
          have := relabel_look (env := X.env) I3.ok.kind (C.hf x z)
          rw [if_pos ⟨rfl, C.cl x z⟩] at this
          exact this
      · have := relabel_look (env := X.env) I3.ok.kind (C.hv x hx)
        rw [if_neg (fun q => nomatch q.1)] at this
        exact this
      · have := relabel_look (env := X.env) I3.ok.kind (hgl x hx)
        rw [if_neg (fun q => nomatch q.1)] at this
        exact this
    obtain ⟨hg, ht, he⟩ := hY (cxComp X scope cl s₃ H₃ fp (vars ++ frees)) rfl rfl rfl rfl rfl rfl gY
    have rsY : RS X.K (ρ1 ++ [s₂.heap.objs.size]) H₃ (cSt vars.length fm σp) σY := by
      refine ⟨by simp [σY, cSt], fun i v e => ?_⟩
      unfold cSt at e
      by_cases z : vars.length ≤ i
      · rw [List.getElem?_append_right (by simpa using z), List.length_replicate, List.getElem?_map] at e
        cases ej : fm[i - vars.length]? with
        | none => rw [ej] at e; cases e
        | some j =>
          rw [ej] at e
          have ev : σp[j]? = some (some v) := by
            have : (σp[j]?).getD none = some v := by simpa using e
            cases z : σp[j]? with
            | none => rw [z] at this; cases this
            | some o => rw [z] at this; simp at this; rw [this]
          obtain ⟨v', e', rv⟩ := rs.2 j v ev
          refine ⟨v', ?_, rv.le l13⟩
          show σY[i]? = _
          rw [List.getElem?_append_right (by simpa using z), List.length_replicate, List.getElem?_map, ej]
          simp [e']
      · rw [List.getElem?_append_left (by simp; omega), List.getElem?_replicate] at e
        split at e <;> cases e
    have q3 : Ful X (RV' X) σp (ρ1 ++ [s₂.heap.objs.size]) H₃ ((cGo it h1.length gt mt me it.xs (cSt vars.length fm σp) (h1 ++ [.lst []])).bind fun _ h3 => .ok (.loc h1.length) h3) Q := Ful.le l3 q1
    have hrho : (ρ1 ++ [s₂.heap.objs.size])[h1.length]? = some s₂.heap.objs.size := by rw [← rh1.len]; simp
    -- the walk
    have loop : ∀ s₅ : Shared, s₅ = { s₃ with heap := h', toks := s₃.toks } → codeAny (model X.prog X.w) X.A (.compLoop (.ListComp elt [⟨tg, iter, ifs, 0⟩] scope pos) 0 (.ref ita) (.ref s₂.heap.objs.size) (compEnvC scope cl s₃.heap.objs.size X.env))
        (compPost (model X.prog X.w) X.A X.xe use Qv (.ref s₂.heap.objs.size) s₃.heap.objs.size) s₅ := by
      rintro s₅ rfl
      refine codeAny_comp (fun n s6 => ∃ i σ6 H6 ρ6 σp6 h6, n = it.xs.length - i ∧ i ≤ it.xs.length ∧ Inv (cxComp X scope cl s₃ H₃ fp (vars ++ frees)) [] σ6 H6 s6 ∧ tn i s6.heap ∧ (∀ b ∈ fp, H6 b = none) ∧ Le (ρ1 ++ [s₂.heap.objs.size]) H₃ ρ6 H6 ∧ RS X.K ρ6 H6 σp6 σ6 ∧ RH X.K X.mg ρ6 H6 h6 ∧
        Ful X (RV' X) σp ρ6 H6 ((cGo it h1.length gt mt me (it.xs.drop i) σp6 h6).bind fun _ h3 => .ok (.loc h1.length) h3) Q) ?_ it.xs.length
        ⟨0, σY, H₃, _, _, _, rfl, Nat.zero_le _, invY, T.keep _ _ _ st3 (fun b _ o e => keep4 b o e), fun b hb => (fp3 b hb).1, Le.refl _ _, rsY, rh3, by simpa using q3⟩
      rintro n s6 ⟨i, σ6, H6, ρ6, σp6, h6, rfl, hi6, I6, st6, fr6, l6, rs6, rh6, q6⟩
      have stat : ∀ {H' : Hp}, (∀ b ∈ fp, H' b = none) → ∀ b ∈ fp, FpOk (cxComp X scope cl s₃ H₃ fp (vars ++ frees)) [] H' b := fun {H'} hn b hb =>
        ⟨hn b hb, (ok.exf b hb).1, ok.exfs b hb, .inl hb, (ok.exf b hb).2, fun p hp => absurd (show p ∈ ([] : List (Addr × Obj)) from hp) (by simp)⟩
      by_cases hlt : i < it.xs.length
      · have ed : it.xs.drop i = it.xs[i] :: it.xs.drop (i + 1) := List.drop_eq_getElem_cons hlt
        rw [ed] at q6
        simp only [cGo] at q6
        by_cases hok : it.ok h6
        · rw [if_pos hok] at q6
          obtain ⟨j1, _⟩ := jr ρ6 H6 h6 i (l3.trans l6) rh6 hok
          obtain ⟨go, yl⟩ := j1 hlt
          refine thn (T.item (cxComp X scope cl s₃ H₃ fp (vars ++ frees)) rfl rfl rfl g.calm i [] s6 σ6 H6 (fun _ _ => False) I6 (stat fr6) st6 go) fun r s7 ⟨u, hr, h7⟩ => ?_
          subst hr
          refine thn h7 fun _ s8 ⟨x8, H8, I8, r8, y8, st8, fr8⟩ => ?_
          obtain ⟨ρ8, x, l8, rh8, ex, rx⟩ := yl x8 H8 y8
          have ex' : x = it.xs[i] := by rw [List.getElem?_eq_getElem hlt] at ex; exact (Option.some.inj ex).symm
          subst ex'
          have I8p := I8.pinned (stat fr8) (T.obj _ _ st8)
          have q8 := Ful.le l8 q6
          -- behind the block's parts the iterator stands
          have back : ∀ {σ9 : L2.St} {H9 : Hp} {s9 : Shared}, Inv (cxComp X scope cl s₃ H₃ fp (vars ++ frees)) ([] ++ pinsAt fp s8.heap) σ9 H9 s9 → Inv (cxComp X scope cl s₃ H₃ fp (vars ++ frees)) [] σ9 H9 s9 ∧ tn (i + 1) s9.heap ∧ ∀ b ∈ fp, H9 b = none := fun {σ9 H9 s9} I9 => by
            refine ⟨I9.unpinned, T.keep _ _ _ st8 fun b hb o e => (I9.pin (b, o) (List.mem_append_right _ (List.mem_append_right _ (mem_pinsAt hb e)))).1, fun b hb => ?_⟩
            obtain ⟨o, e, d⟩ := T.obj _ _ st8 b hb
            exact (I9.pin (b, o) (List.mem_append_right _ (List.mem_append_right _ (mem_pinsAt hb e)))).2.1
          cases eg : gt it.xs[i] σp6 h6 with
          | nx σp9 h9 =>
            rw [eg] at q8
            dsimp only at q8
            refine thn (hg _ s8 σ6 H8 x8 u (fun σ' H' => ∃ ρ', Le ρ8 H8 ρ' H' ∧ RH X.K X.mg ρ' H' h9 ∧ RS X.K ρ' H' σp9 σ') I8p r8 ⟨ρ8, σp6, h6, _, rs6.le l8, rh8, rx, by
              show FulG _ _ _ (gt it.xs[i] σp6 h6) _
              rw [eg]; exact fun ρ' H' σ' l r s => ⟨ρ', l, r, s⟩⟩) fun _ s9 ⟨σ9, H9, I9, ρ9, l9, rh9, rs9⟩ => ?_
            have q9 := Ful.le l9 q8
            cases em : mt σp9 h9 with
            | ok b h10 =>
              rw [em, Out.ne_ok] at q9
              rw [Out.bind_ok] at q9
              refine thn (ht _ s9 σ9 H9 (fun b' H' => b' = b ∧ ∃ ρ', Le ρ9 H9 ρ' H' ∧ RH X.K X.mg ρ' H' h10) I9 ⟨ρ9, σp9, h9, rs9, rh9, by
                show Ful _ _ _ _ _ (mt σp9 h9) _
                rw [em]; exact fun ρ' H' v' l r e => ⟨e.symm, ρ', l, r⟩⟩) fun b' s10 ⟨H10, I10, eb, ρ10, l10, rh10⟩ => ?_
              subst eb
              have q10 := Ful.le l10 q9
              cases b' with
              | false =>
                rw [if_neg Bool.false_ne_true] at q10 ⊢
                obtain ⟨I10', st10, fr10⟩ := back I10
                exact ⟨_, by omega, i + 1, σ9, H10, ρ10, σp9, h10, rfl, hlt, I10', st10, fr10, l6.trans (l8.trans (l9.trans l10)), rs9.le l10, rh10, q10⟩
              | true =>
                rw [if_pos rfl] at q10 ⊢
                cases ee : me σp9 h10 with
                | ok v h11 =>
                  rw [ee, Out.ne_ok] at q10
                  rw [Out.bind_ok] at q10
                  refine thn (he _ s10 σ9 H10 (fun v' H' => ∃ ρ', Le ρ10 H10 ρ' H' ∧ RH X.K X.mg ρ' H' h11 ∧ RP X.K ρ' H' v v') I10 ⟨ρ10, σp9, h10, rs9.le l10, rh10, by
                    show Ful _ _ _ _ _ (me σp9 h10) _
                    rw [ee]; exact fun ρ' H' v' l r e => ⟨ρ', l, r, e⟩⟩) fun u11 s11 ⟨v', H11, I11, ru11, ρ11, l11, rh11, rv11⟩ => ?_
                  have q11 := Ful.le l11 q10
                  have lall : Le (ρ1 ++ [s₂.heap.objs.size]) H₃ ρ11 H11 := l6.trans (l8.trans (l9.trans (l10.trans l11)))
                  obtain ⟨oa, eoa, roa⟩ := rh11.obj (lall.get hrho)
                  rw [eoa] at q11
                  cases oa with
                  | dic kvs => exact q11.elim
                  | exc x => exact q11.elim
                  | lst ys =>
                    dsimp only at q11
                    by_cases hl11 : ys.length < sizeLine
                    · rw [if_pos hl11] at q11
                      obtain ⟨ys', ey', ry⟩ := roa
                      obtain ⟨rh12, l12⟩ := rh11.put (lall.get hrho) (o := .lst (ys ++ [v])) (ho := .lst (ys' ++ [v'])) ⟨_, rfl, ry.append (.cons rv11 .nil)⟩
                      have ap := mt_append (X := cxComp X scope cl s₃ H₃ fp (vars ++ frees)) _ s11 σ9 H11 (.ref s₂.heap.objs.size) [v'] (.ref s₂.heap.objs.size) [u11] (fun _ H' => H' = upd H11 s₂.heap.objs.size (.lst (ys' ++ [v']))) I11 rfl (.cons ru11 .nil) ⟨s₂.heap.objs.size, ys', v', rfl, rfl, ey', by rw [← ry.length]; exact hl11, rfl⟩
                      refine thn ap fun _ s12 ⟨_, H12, I12, _, eH⟩ => ?_
                      subst eH
                      obtain ⟨I12', st12, fr12⟩ := back I12
                      exact ⟨_, by omega, i + 1, σ9, _, ρ11, σp9, _, rfl, hlt, I12', st12, fr12, lall.trans l12, (rs9.le l10).le (l11.trans l12), rh12, Ful.le l12 q11⟩
                    · rw [if_neg hl11] at q11; exact q11.elim
                | exc x h11 => rw [ee] at q10; exact q10.elim
                | bad => rw [ee] at q10; exact q10.elim
            | exc x h10 => rw [em] at q9; exact q9.elim
            | bad => rw [em] at q9; exact q9.elim
          | _ => rw [eg] at q8; exact q8.elim
        · rw [if_neg hok] at q6; exact q6.elim
      · have e : i = it.xs.length := by omega
        rw [e, List.drop_length] at q6
        simp only [cGo] at q6
        by_cases hok : it.ok h6
        · rw [if_pos hok] at q6
          obtain ⟨_, j2⟩ := jr ρ6 H6 h6 i (l3.trans l6) rh6 hok
          refine thn (T.done (cxComp X scope cl s₃ H₃ fp (vars ++ frees)) rfl rfl rfl g.calm i [] s6 σ6 H6 (fun _ _ => False) I6 (stat fr6) st6 (j2 (by omega))) fun r s7 ⟨hr, I7⟩ => ?_
          subst hr
          obtain ⟨m7, ns7, _⟩ := I7.loc
          have IX := I3.call' (s' := s7) (ch := fp) I7.os I7.base I7.hok I7.bare fun b hb => by
            obtain ⟨_, a2, _, a4, a5, a6⟩ := fp3 b hb
            exact ⟨a4, a2, a5, a6⟩
          exact fin _ _ H6 s7 m7 IX I7.free ns7 (Nat.ne_of_gt I3.lt) I3.sz (I3.nofs (Nat.le_refl _)) (fun x c e z => by
            obtain ⟨v, qc⟩ := I3.cell x c e
            exact absurd qc.lt (by rw [z]; exact Nat.lt_irrefl _)) (fun p hp z => absurd (Heap.lt_size (I3.pin p hp).1) (by rw [z]; exact Nat.lt_irrefl _)) (q6 ρ6 H6 _ (Le.refl _ _) rh6 (.loc (l6.get hrho)))
        · rw [if_neg hok] at q6; exact q6.elim
    exact codeAny_compStart_list (loop _ rfl) (T.self X.A 0 _ _ _ (T.keep _ _ _ st3 (fun b _ o e => keep4 b o e)) (loop _ rfl))
  exact goal3
theorem me_comp (g : Good X N W G k) {tg iter elt : Expr} {ifs : List Expr} {scope : Scope} {pos : Pos} {vars frees G' : List Str} {fm : List Nat} {mi : Mx MIt} {gt : Mg} {mt : Mx Bool} {me : Mx PV} (C : CompOk X N scope vars frees fm)
    (nd : (vars ++ frees).Nodup) (hgl : ∀ x ∈ G', scope.names.lookup x = some .globalImplicit) (dbg : ∀ x ∈ (vars ++ frees) ++ G', (x == ("__debug__" : Str)) = false ∧ (x == ("__classdict__" : Str)) = false ∧ x ≠ "__name__")
    (hi : MI X tg iter mi)
    (hY : ∀ Y : Cx, Y.prog = X.prog → Y.w = X.w → Y.K = X.K → Y.mg = X.mg → Y.base = X.base → Y.env.scope = relabel scope X.env → Good Y (vars ++ frees) vars G' k → MG Y tg gt ∧ MTs Y ifs mt ∧ ME Y elt me)
    (hs : ∀ x, foldedSetIterable iter X.env x = pure x := by intro _; rfl) : ME X (.ListComp elt [⟨tg, iter, ifs, 0⟩] scope pos) (mComp vars.length fm mi gt mt me) := by
  intro pins s σ H Q I tm
  rw [eval_ListComp]
  refine comp_core g C nd hgl dbg hi hY hs I tm fun acc D H6 s7 m7 IX hC ns hL hz hfs hcl hp q => ?_
  refine ⟨m7, ns, fun h'' hsb => ⟨.ref acc, H6, ?_, rfl, q⟩⟩
  exact IX.turned (it := D) (t' := s7.toks) (fun b o hb e => hsb.extBut b o hb e) hC hL (.inr hz) hcl hp
theorem ms_setC (g : Good X N W G k) (i : Nat) {y : Str} {py spos : Pos} {tg iter elt : Expr} {ifs : List Expr} {scope : Scope} {pos : Pos} {vars frees G' : List Str} {fm : List Nat} {mi : Mx MIt} {gt : Mg} {mt : Mx Bool} {me : Mx PV} (hyi : N[i]? = some y) (hw : W[i]? = some y)
    (hsw : swapsWith (.ListComp elt [⟨tg, iter, ifs, 0⟩] scope pos) (some (.Name y py)) spos.line X.env = pure true) (C : CompOk X N scope vars frees fm)
    (nd : (vars ++ frees).Nodup) (hgl : ∀ x ∈ G', scope.names.lookup x = some .globalImplicit) (dbg : ∀ x ∈ (vars ++ frees) ++ G', (x == ("__debug__" : Str)) = false ∧ (x == ("__classdict__" : Str)) = false ∧ x ≠ "__name__")
    (hi : MI X tg iter mi)
    (hY : ∀ Y : Cx, Y.prog = X.prog → Y.w = X.w → Y.K = X.K → Y.mg = X.mg → Y.base = X.base → Y.env.scope = relabel scope X.env → Good Y (vars ++ frees) vars G' k → MG Y tg gt ∧ MTs Y ifs mt ∧ ME Y elt me)
    (hs : ∀ x, foldedSetIterable iter X.env x = pure x := by intro _; rfl) : MS X (.Assign [.Name y py] (.ListComp elt [⟨tg, iter, ifs, 0⟩] scope pos) spos) (mSet i (mComp vars.length fm mi gt mt me)) := by
  intro pins s σ H D I tm
  obtain ⟨ρ, σp, h, rs, rh, q⟩ := tm
  rw [exec_Assign_Name_used _ _ _ _ hsw]
  refine wpAny_bind (wpAny_standAt (wpAny_bind ?_))
  show wpAny _ X.A (do let _ ← comprehension (.ListComp elt [⟨tg, iter, ifs, 0⟩] scope pos) scope X.env _ (newList []) false (eval iter X.env) (some (assign (.Name y py) X.env))) _ _ s
  refine wpAny_bind (wpAny_mono (comp_core (pos := pos) g C nd hgl dbg hi hY hs (use := some (assign (.Name y py) X.env)) (Qv := fun _ s' => SP X pins D .next s') (pp := firstIterPos [⟨tg, iter, ifs, 0⟩] pos) (Q := fun v H' => D.nx (σ.set i (some v)) H') I
    ⟨ρ, σp, h, rs, rh, FulS.ex q fun ρ1 H1 v v' h1 l r z w => w ρ1 H1 _ (Le.refl _ _) r ((rs.le l).set i z)⟩ fun acc D' H6 s7 m7 IX hC ns hL hz hfs hcl hp q6 => ?_) (fun _ s' hq => wpAny_pure (wpAny_pure hq)) fun _ _ e => e)
  · obtain ⟨o, es, ep, ho, hd, hr⟩ := id ns
    have IP : Inv X (pins ++ [(D', o)]) σ H6 s7 := IX.pins_of fun p hp' => (List.mem_append.mp hp').elim (fun z => IX.pin p (List.mem_append_right _ z)) fun z => by
      have e : p = (D', o) := by simpa using z
      subst e
      exact ⟨ho, hC, hL, hfs, fun v z => by rw [hd] at z; cases z⟩
    have st := pg_name (X := X) (pos := py) (by rw [g.hN]; exact g.nd) (g.x hyi) (g.loc y (mem_of hyi)) (g.fn y (mem_of hw)) (pins ++ [(D', o)]) s7 σ H6 (.ref acc) (.ref acc) (fun σ' H' => σ' = σ.set i (some (.ref acc)) ∧ H' = H6) IP rfl ⟨rfl, rfl⟩
    refine thn st fun _ s8 ⟨σ8, H8, I8, e1, e2⟩ => ?_
    subst e1; subst e2
    have pn := I8.pin (D', o) (List.mem_append_right _ (List.mem_append_right _ (by simp)))
    refine ⟨m7, ⟨o, es, ep, pn.1, hd, hr⟩, fun h'' hsb => ⟨_, _, ?_, q6⟩⟩
    exact (I8.unpinned).turned (it := D') (t' := s8.toks) (fun b o hb e => hsb.extBut b o hb e) hC hL (.inr hz) hcl hp
end
end MM

set_option Elab.async false
set_option linter.all false
set_option maxRecDepth 100000
namespace MM
open PySem PySem.Spec PyProof.Rows L2
noncomputable local instance (priority := 1) cdec9 (p : Prop) : Decidable p := Classical.propDecidable p
abbrev bmVE : List Value := [.type "ValueError", .type "Exception", .type "BaseException", .type "object"]
/-- an error class of the text, somewhere under ValueError, without an __init__ of its own -/
structure ExcK (K : PySem.W.Frag) (mg : MGl) (x : Str) (C : Addr) : Prop where
  bd : mg x = some (.ref C)
  ok : PySem.W.excIn K C bmVE "ValueError.__new__" = true
abbrev ExcC (X : Cx) (x : Str) (C : Addr) : Prop := ExcK X.K X.mg x C
theorem exc_obj {K : PySem.W.Frag} {h : Heap} {C : Addr} {bmB : List Value} {newId : String} (hK : K.In h) (q : PySem.W.excIn K C bmB newId = true) :
    ∃ bm N nm q bs hdct sn sub ab col dd k0 k1 k2 k3 k5 mN, h.get? C = some (excClassObj nm q C N bs bm hdct sn sub ab col dd k0 k1 k2 k3 k5 newId) ∧ h.Ns N mN ∧ mN "__init__" = none ∧ OwnTail h bmB bm ∧ ∀ base r, PySem.W.mroIn K C base = some r → (Value.ref C :: bm).contains base = r := by
  unfold PySem.W.excIn at q
  split at q
  · rename_i dd cd sl ho
    split at q
    · rename_i C' bm k0 k1 k2 k3 n k5 hm hs
      simp only [Bool.and_eq_true, beq_iff_eq, Bool.not_eq_true'] at q
      obtain ⟨⟨⟨⟨⟨rfl, rfl⟩, hdel⟩, ht⟩, hok⟩, hni⟩ := q
      obtain ⟨nm, bs, mro, ns, qn, hd, sn, sub, ab, col, del⟩ := cd
      dsimp only at hm hdel hok hni
      subst hm hdel
      have hsl : sl = #[k0, k1, k2, k3, some (.builtin n), k5] := by
        obtain ⟨l⟩ := sl
        simp only at hs
        rw [hs]
      subst hsl
      exact ⟨bm, ns, nm, qn, bs, hd, sn, sub, ab, col, dd, k0, k1, k2, k3, k5, _, hK _ _ ho, .of_isNs (PySem.W.isNs_of_in hK hok), PySem.W.nsMap_none_of_in hK hok hni, PySem.W.tail_of_in hK ht, fun base r e => by
        unfold PySem.W.mroIn PySem.W.clsIn at e
        rw [ho] at e
        simpa using e⟩
    · cases q
  · cases q
section
variable {X : Cx} {N W G : List Str} {k : Nat}
/-- raise C(e) -/
noncomputable def mRaise (x : Str) (m : Mx (List PV)) : Mst := mEx m fun vs σ h => if vs.length ≤ sizeLine then .rse ⟨x, []⟩ σ h else .bad
theorem ms_raise (g : Good X N W G k) {x : Str} {j : Nat} {C : Addr} (hj : G[j]? = some x) (EC : ExcC X x C) {e : Expr} {es : List Expr} {m : Mx (List PV)} {np cpos pos : Pos} (ha : MA X (e :: es) m)
    (he : starEach (e :: es) X.env = (false, eval e X.env) :: starEach es X.env := by rfl) (hpl : (backTo cpos (starEach es X.env)).any (·.1) = false := by rfl) :
    MS X (.Raise (some (.Call (.Name x np) (e :: es) [] cpos)) none pos) (mRaise x m) := by
  intro pins s σ H D I ⟨ρ, σp, h, rs, rh, q⟩
  have d := g.dbg x (List.mem_append_right _ (mem_of hj))
  obtain ⟨bm, Nn, nm, qn, bs, hdct, sn, sub, ab, col, dd, k0, k1, k2, k3, k5, mN, hC, hN, hni, T, _⟩ := exc_obj I.mod.kin EC.ok
  refine wpAny_Raise_call_subT (C := C) (nm := nm) (q := qn) (N := Nn) (bs := bs) (bm := bm) (hdct := hdct) (sn := sn) (sub := sub) (ab := ab) (col := col) (dd := dd) (k0 := k0) (k1 := k1) (k2 := k2) (k3 := k3) (k5 := k5)
    PySem.F.excBase_ValueError (mN := mN) (T.hasType PySem.F.excBase_ValueError.hasBase) (I.ok.hd g.calm) (by rw [he]; show (false || (backTo cpos (starEach es X.env)).any (·.1)) = false; rw [hpl]; rfl) hni (ld_glob I (g.gl x (mem_of hj)) EC.bd ⟨rfl, ?_⟩ d.1)
  have A := ha cpos pins s σ H (fun vs H1 => ∃ ρ1 xs h1, Le ρ H ρ1 H1 ∧ RH X.K X.mg ρ1 H1 h1 ∧ RPs X.K ρ1 H1 xs vs ∧ FulS X ρ1 H1 (if xs.length ≤ sizeLine then .rse ⟨x, []⟩ σp h1 else .bad) D) I
    ⟨ρ, σp, h, rs, rh, FulS.ex q fun ρ1 H1 v v' h1 l r z w => ⟨ρ1, v, h1, l, r, z, w⟩⟩
  rw [he] at A ⊢
  refine Calls.evalArgs_plain (wpAny_mono A (fun us s2 ⟨vs, H1, I1, rv, ρ1, xs, h1, l1, rh1, rx, w⟩ => ?_) fun _ _ y => y)
  by_cases hl : xs.length ≤ sizeLine
  · rw [if_pos hl] at w
    refine ⟨rfl, by rw [← rv.length, ← rx.length]; exact hl, I1.bk _ _ hC, hN.keeps I1.bk, T.keeps I1.bk, fun h' ea made => ?_⟩
    have I0 : Inv X [] σ H1 { ({ s2 with heap := h' } : Shared) with heap := s2.heap } := Inv.unpinned (pins := []) (pl := pins) I1
    exact w ea C ρ1 H1 σ { s2 with heap := h' } s2.heap us rfl EC.bd (Le.refl _ _) rh1 (rs.le l1) I0 made
  · rw [if_neg hl] at w; exact w.elim

theorem excMatches_own {M : Model} {A : Around} {E : Value → Shared → Prop} {h : Heap} {gn : Array GenState} {d : Drawn} {t : Nat} {os : OsState} {ea C D N1 N2 : Addr} {oe : Obj} {nm1 q1 nm2 q2 : Str} {bs1 bm1 bs2 bm2 : List Value} {hd1 hd2 : Bool} {sn1 sn2 : List Str} {sub1 sub2 : List Value} {ab1 ab2 : Bool} {col1 col2 : Option Bool} {dd1 dd2 : Option Addr}
    {a0 a1 a2 a3 a5 b0 b1 b2 b3 b5 : Option Value} {n1 n2 : String} {Q : Bool → Shared → Prop} (hC : h.get? C = some (excClassObj nm1 q1 C N1 bs1 bm1 hd1 sn1 sub1 ab1 col1 dd1 a0 a1 a2 a3 a5 n1)) (hD : h.get? D = some (excClassObj nm2 q2 D N2 bs2 bm2 hd2 sn2 sub2 ab2 col2 dd2 b0 b1 b2 b3 b5 n2))
    (he : h.get? ea = some oe) (hcls : oe.cls = .ref C) (hB : bm2.contains (.type "BaseException") = true) (hsub : (Value.ref C :: bm1).contains (.ref D) = true) (hq : Q true ⟨h, gn, d, t, os⟩) : wpAny M A (excMatches (.ref ea) (.ref D)) Q E ⟨h, gn, d, t, os⟩ := by
  have hcB : (Value.ref D :: bm2).contains (.type "BaseException") = true := by rw [List.contains_cons, hB, Bool.or_true]
  have f := tc_notTuple
  unfold excMatches
  repeat (first | (with_reducible refine wpAny_loadPart_at he ?_; rw [hcls]) | with_reducible refine wpAny_loadPart_at hD ?_ | (with_reducible refine wpAny_isSubtype_exc hD ?_; rw [hcB]) | (with_reducible refine wpAny_isSubtype_exc hC ?_; rw [hsub]) | wp_step)
  exact hq
end
end MM

set_option Elab.async false
set_option linter.all false
set_option maxRecDepth 100000
namespace MM
open PySem PySem.Spec PyProof.Rows L2
noncomputable local instance (priority := 1) cdec10 (p : Prop) : Decidable p := Classical.propDecidable p
section
variable {X : Cx} {N W G : List Str} {k : Nat} {σ : L2.St} {H : Hp} {s : Shared}
/-- another wish, more pins -/
abbrev xPin (X : Cx) (pins : List (Addr × Obj)) (E : Value → Shared → Prop) : Cx := { X with pn := X.pn ++ pins, xe := E }
theorem ok_pin {pins : List (Addr × Obj)} {E : Value → Shared → Prop} (ok : X.Ok) : (xPin X pins E).Ok :=
  ⟨ok.mod, ok.kind, ok.glob, ok.blt, ok.above, ok.inj, ok.has, ok.cab, ok.hd, ok.frames, ok.stk, ok.exf, ok.bs, ok.bsz, ok.noex, ok.exfs, ok.funs, ok.frf⟩
theorem ok_unpin {pins : List (Addr × Obj)} {E : Value → Shared → Prop} (ok : (xPin X pins E).Ok) : X.Ok :=
  ⟨ok.mod, ok.kind, ok.glob, ok.blt, ok.above, ok.inj, ok.has, ok.cab, ok.hd, ok.frames, ok.stk, ok.exf, ok.bs, ok.bsz, ok.noex, ok.exfs, ok.funs, ok.frf⟩
theorem Inv.toPin {pins : List (Addr × Obj)} {E : Value → Shared → Prop} (I : Inv X pins σ H s) : Inv (xPin X pins E) [] σ H s :=
  ⟨ok_pin I.ok, I.os, I.bare, I.base, I.loc, I.cell, I.free, I.freeC, fun p hp => I.pin p (by simpa using hp), I.hok, I.len⟩
theorem Inv.ofPin {pins : List (Addr × Obj)} {E : Value → Shared → Prop} (I : Inv (xPin X pins E) [] σ H s) : Inv X pins σ H s :=
  ⟨ok_unpin I.ok, I.os, I.bare, I.base, I.loc, I.cell, I.free, I.freeC, fun p hp => I.pin p (by simpa using hp), I.hok, I.len⟩
theorem cell_slots {h h' : Heap} {c : Addr} {v : Option Value} (sm : h.UpToSlots h') (q : h.IsCell c v) : h'.IsCell c v := by
  obtain ⟨o, e, d⟩ := q
  obtain ⟨sl, e'⟩ := sm c o e (fun vs z => by rw [d] at z; cases z)
  exact ⟨_, e', d⟩
/-- a flying exception was looked at -/
theorem Inv.flown (I : Inv X [] σ H s) {B h' lim : Heap} (hB : B.StaysIn s.heap) (hB' : B.StaysIn h') (sm : s.heap.UpToSlots h') (brs : Bears X lim) (cov : Cov B (frs X.stack) lim) (cvH : ∀ b o, H b = some o → ∃ ob, B.get? b = some ob) : Inv X [] σ H { s with heap := h' } := by
  have kp : ∀ b o ob, B.get? b = some ob → s.heap.get? b = some o → h'.get? b = some o := fun b o ob e1 e2 => by
    have := Stays_eq hB e1 e2
    subst this
    exact hB' b ob e1
  have nl : ∀ b o, X.s₀.heap.get? b = some o → b ≠ X.env.locals := fun b o e z => absurd (Nat.lt_of_lt_of_le (Heap.lt_size e) I.ok.above) (by rw [z]; exact Nat.lt_irrefl _)
  have inB : ∀ b o, X.s₀.heap.get? b = some o → b ∉ X.fs → b ∉ X.ex → ∃ ob, B.get? b = some ob := fun b o e hf hx => by
    obtain ⟨o', e'⟩ := brs.old b o e hx
    refine cov b o' e' fun hm => ?_
    rcases List.mem_cons.mp (I.stkSub b hm) with z | z
    · exact nl b o e z
    · exact hf z
  obtain ⟨m, hn, hl⟩ := I.loc
  have nfr : ∀ b o, X.s₀.heap.get? b = some o → b ∈ X.fs → ∀ vs, o.data ≠ .fields vs := fun b o e hf vs z => by
    obtain ⟨_, oF, eF, dF⟩ := I.ok.funs.mem hf
    rw [e] at eF
    cases eF
    exact dF vs z
  refine ⟨I.ok, I.os, I.bare, ⟨fun b o e n hf hx => ?_, fun b o e n hf hx => ?_, I.base.free, fun b o e hx => ?_, I.base.tups, I.base.frzs, I.base.tbls⟩, ⟨m, sm.ns hn, fun i x v e1 e2 e3 => ?_⟩, fun x c e => ?_, I.free, I.freeC, fun p hp => ?_, fun a o e => ?_, I.len⟩
  · obtain ⟨ob, eb⟩ := inB b o e hf hx
    exact kp b o ob eb (I.base.keep b o e n hf hx)
  · obtain ⟨sl, e1⟩ := I.base.slot b o e n hf hx
    obtain ⟨sl', e2⟩ := sm b _ e1 (fun vs z => nfr b o e hf vs z)
    exact ⟨sl', e2⟩
  · by_cases hf : b ∈ X.fs
    · obtain ⟨sl, e1⟩ := I.base.slot b o e (I.ok.frf b hf) hf hx
      obtain ⟨sl', e2⟩ := sm b _ e1 (fun vs z => nfr b o e hf vs z)
      exact ⟨_, e2⟩
    · obtain ⟨ob, eb⟩ := inB b o e hf hx
      exact ⟨ob, hB' b ob eb⟩
  · obtain ⟨u, ru, look⟩ := hl i x v e1 e2 e3
    refine ⟨u, ru, ?_⟩
    rcases look with z | ⟨z1, c, z2, z3⟩
    · exact .inl z
    · exact .inr ⟨z1, c, z2, cell_slots sm z3⟩
  · obtain ⟨v, q⟩ := I.cell x c e
    exact ⟨v, cell_slots sm q⟩
  · obtain ⟨e, n, ne, nf, d⟩ := I.pin p hp
    refine ⟨?_, n, ne, nf, d⟩
    have hp' : p ∈ X.pn := by simpa using hp
    obtain ⟨o', e'⟩ := brs.pin p hp'
    obtain ⟨ob, eb⟩ := cov p.1 o' e' fun hm => by
      rcases List.mem_cons.mp (I.stkSub p.1 hm) with z | z
      · exact ne z
      · exact nf z
    exact kp p.1 p.2 ob eb e
  · refine (I.hok a o e).stay (fun b u hb z => ?_) (fun _ z => z) fun _ _ z => z
    rcases hb with rfl | hb
    · obtain ⟨ob, eb⟩ := cvH _ _ e
      exact kp _ u ob eb z
    · obtain ⟨ob, eb⟩ := cvH _ _ hb
      exact kp _ u ob eb z
/-- an object that nothing of ours leans on is tracked from here on -/
theorem Inv.track {pins : List (Addr × Obj)} (I : Inv X pins σ H s) {a : Addr} {φ : Heap → Prop} (ha : H a = none) (h0 : X.s₀.heap.get? a = none) (hL : a ≠ X.env.locals) (hc : ∀ x c, X.env.cells.lookup x = some c → c ≠ a) (hp : ∀ p ∈ X.pn ++ pins, p.1 ≠ a)
    (hφ : ObjOk X.prog X.w (upd H a (.ext φ)) s.heap a (.ext φ)) : Inv X pins σ (upd H a (.ext φ)) s := by
  have ne0 : ∀ b o, X.s₀.heap.get? b = some o → b ≠ a := fun b o e z => by rw [z, h0] at e; cases e
  have t : ∀ b u, H b = some u → upd H a (.ext φ) b = some u := fun b u e => by rw [upd_ne (ne_of_none e ha)]; exact e
  refine ⟨I.ok, I.os, I.bare, ⟨I.base.keep, I.base.slot, fun b o e n hx => by rw [upd_ne (ne0 b o e)]; exact I.base.free b o e n hx, I.base.there, fun b xs e => t b _ (I.base.tups b xs e), fun b o u e => t b _ (I.base.frzs b o u e), fun b ps e => ?_⟩,
    I.loc, I.cell, by rw [upd_ne (Ne.symm hL)]; exact I.free, fun x c e => by rw [upd_ne (hc x c e)]; exact I.freeC x c e, fun p hp' => ?_, fun b u e => ?_, I.len⟩
  · obtain ⟨more, e'⟩ := I.base.tbls b ps e
    exact ⟨more, t b _ e'⟩
  · obtain ⟨a1, a2, a3⟩ := I.pin p hp'
    exact ⟨a1, by rw [upd_ne (hp p hp')]; exact a2, a3⟩
  · by_cases hb : b = a
    · subst hb; rw [upd_same] at e; cases e; exact hφ
    · rw [upd_ne hb] at e
      exact (I.hok b u e).stay (fun c v _ q => q) (fun c q => t c _ q) fun c xs q => t c _ q
theorem ns_inj {h : Heap} {a : Addr} {m m0 : Str → Option Value} (x : h.Ns a m) (y : h.Ns a m0) : m = m0 := by
  obtain ⟨o, es, ep, e, d, _, f⟩ := x
  obtain ⟨o', es', ep', e', d', _, f'⟩ := y
  rw [e] at e'; cases e'
  rw [d] at d'; cases d'
  funext z
  rw [← f z, ← f' z]
/-- a local name is taken away -/
theorem Inv.unbound {pins : List (Addr × Obj)} (I : Inv X pins σ H s) (hN : X.N.Nodup) {i : Nat} {n : Str} (hi : X.N[i]? = some n) {m : Str → Option Value} (hm : s.heap.Ns X.env.locals m) {h' : Heap} {v : Option Value} {t' : Nat} (hn' : h'.Ns X.env.locals (fun x => if x = n then v else m x)) (hs : Heap.SameBut X.env.locals s.heap h') :
    Inv X pins (σ.set i none) H { s with heap := h', toks := t' } := by
  obtain ⟨m0, hn0, hl⟩ := I.loc
  have em : m = m0 := ns_inj hm hn0
  subst em
  have lt : ∀ b o, X.s₀.heap.get? b = some o → b ≠ X.env.locals := fun b o e => Nat.ne_of_lt (Nat.lt_of_lt_of_le (Heap.lt_size e) I.ok.above)
  refine ⟨I.ok, I.os, I.bare, ⟨fun b o e n hb hx => ?_, fun b o e n hb hx => ?_, I.base.free, fun b o e hx => ?_, I.base.tups, I.base.frzs, I.base.tbls⟩, ⟨_, hn', fun j y v' e1 e2 e3 => ?_⟩, fun y c e => ?_, I.free, I.freeC, fun p hp => ?_, fun a o e => ?_, by simpa using I.len⟩
  · exact (hs.2 b (lt b o e)).trans (I.base.keep b o e n hb hx)
  · obtain ⟨sl, e1⟩ := I.base.slot b o e n hb hx
    exact ⟨sl, (hs.2 b (lt b o e)).trans e1⟩
  · obtain ⟨o', e1⟩ := I.base.there b o e hx
    exact ⟨o', (hs.2 b (lt b o e)).trans e1⟩
  · by_cases hj : j = i
    · subst hj
      exfalso
      by_cases hlt : j < σ.length
      · rw [List.getElem?_set_self hlt] at e2; cases e2
      · rw [List.getElem?_eq_none (by simp; omega)] at e2; cases e2
    · rw [List.getElem?_set_ne (Ne.symm hj)] at e2
      obtain ⟨u', r', q⟩ := hl j y v' e1 e2 e3
      refine ⟨u', r', ?_⟩
      rcases q with ⟨k, e⟩ | ⟨k, c, e, z⟩
      · refine .inl ⟨k, ?_⟩
        have : y ≠ n := fun e => hj (nodup_ix hN e1 (e ▸ hi))
        simp [this, e]
      · exact .inr ⟨k, c, e, z.sameBut hs (I.cne y c e)⟩
  · obtain ⟨w', z⟩ := I.cell y c e
    exact ⟨w', z.sameBut hs (I.cne y c e)⟩
  · obtain ⟨e, n, ne, nf, d⟩ := I.pin p hp
    exact ⟨(hs.2 p.1 ne).trans e, n, ne, nf, d⟩
  · have na : a ≠ X.env.locals := fun z => by rw [z, I.free] at e; cases e
    refine (I.hok a o e).stay (fun b u hb z => (hs.2 b ?_).trans z) (fun _ z => z) fun _ _ z => z
    rcases hb with rfl | hb
    · exact na
    · intro z; rw [z, I.free] at hb; cases hb

/-- try: .. except C as n: y = n -/
noncomputable def mTry (cs : List Str) (iy inn : Nat) (mb : Mst) : Mst := fun σ h => match mb σ h with
  | .exc x σ1 h1 => if x.fs = [] ∧ x.cls ∈ cs then .nx (((σ1.set inn (some (.loc h1.length))).set iy (some (.loc h1.length))).set inn none) (h1 ++ [.exc x]) else .bad
  | .rse _ _ _ => .bad
  | o => o
theorem RS.unset {K : PySem.W.Frag} {ρ : List Addr} {H : Hp} {σp : PSt} {σ : L2.St} (r : RS K ρ H σp σ) (i : Nat) : RS K ρ H (σp.set i none) (σ.set i none) := by
  refine ⟨by simp [r.1], fun j u e => ?_⟩
  by_cases hj : j = i
  · subst hj
    exfalso
    by_cases hlt : j < σp.length
    · rw [List.getElem?_set_self hlt] at e; cases e
    · rw [List.getElem?_eq_none (by simp; omega)] at e; cases e
  · rw [List.getElem?_set_ne (fun z => hj z.symm)] at e ⊢
    exact r.2 j u e
theorem ms_try (g : Good X N W G k) (dc : DefCx X) {c : Str} {j : Nat} {D : Addr} (hj : G[j]? = some c) (ED : ExcC X c D) {cs : List Str} (hcs : ∀ x ∈ cs, ∃ C, ExcC X x C ∧ PySem.W.mroIn X.K C (.ref D) = some true) (iy inn : Nat) {y n : Str} (hyi : N[iy]? = some y) (hyw : W[iy]? = some y) (hni : N[inn]? = some n) (hnw : W[inn]? = some n)
    (hnl : X.env.scope.names.lookup n = some .local) {body : List Stmt} {mb : Mst} {cp yp np sp hp pos : Pos}
    (hb : ∀ Y : Cx, Y.prog = X.prog → Y.w = X.w → Y.K = X.K → Y.mg = X.mg → Y.base = X.base → Y.env = X.env → Good Y N W G k → DefCx Y → MSs Y body mb) (hsw : swapsWith (.Name n np) (some (.Name y yp)) sp.line X.env = pure false := by rfl) :
    MS X (.Try body [.ExceptHandler (some (.Name c cp)) (some n) [.Assign [.Name y yp] (.Name n np) sp] hp] [] [] pos) (mTry cs iy inn mb) := by
  intro pins s σ H Dd I ⟨ρ, σp, h, rs, rh, q⟩
  refine wpAny_Try_except ?_
  have gY : ∀ E, PassesOwn (model X.prog X.w) X.A X.env E → Good (xPin X pins E) N W G k := fun E po => ⟨g.hN, g.nd, g.loc, g.fn, g.gl, g.dbg, g.calm, g.room, po⟩
  have run := hb (xPin X pins _) rfl rfl rfl rfl rfl rfl (gY _ (PassesOwn.looking (M := model X.prog X.w) (A := X.A) (env := X.env) (K := fun e s₂ => wpAny (model X.prog X.w) X.A (setFlight e none) (fun _ s₃ => wpAny (model X.prog X.w) X.A (handleBy e X.env [.ExceptHandler (some (.Name c cp)) (some n) [.Assign [.Name y yp] (.Name n np) sp] hp]) (SP X pins Dd) X.xe s₃) X.xe s₂) (E₁ := X.xe))) ⟨dc.stk, dc.fr, dc.ex⟩
  refine wpAny_mono (run [] s σ H Dd (Inv.toPin I) ⟨ρ, σp, h, rs, rh, ?_⟩) (fun f s₁ z => ?_) fun _ _ z => z
  · unfold mTry at q
    cases em : mb σp h with
    | nx σ1 h1 => rw [em] at q; exact q
    | rt v h1 => rw [em] at q; exact q
    | bk σ1 h1 => rw [em] at q; exact q
    | ct σ1 h1 => rw [em] at q; exact q
    | bad => rw [em] at q; exact q.elim
    | rse x σ1 h1 => rw [em] at q; exact q.elim
    | exc x σ1 h1 =>
      rw [em] at q
      dsimp only at q
      by_cases hx : x.fs = [] ∧ x.cls ∈ cs
      · rw [if_pos hx] at q
        intro ea C ρ' H' σ' s' lim hfs hmg l rh' rs' I' brs fly
        obtain ⟨C', EC, hsubm⟩ := hcs x.cls hx.2
        have eC : C' = C := by
          have := EC.bd
          rw [show X.mg x.cls = some (.ref C) from hmg] at this
          cases this; rfl
        subst eC
        obtain ⟨B, t, hfl, hBH, hcov, hea⟩ := fly
        have hst : X.stack = X.env :: X.outer := dc.stk
        have hfl : Heap.FlyingW B (X.env :: X.outer) ea (.ref C') (.ref t) s'.heap := by rw [← hst]; exact hfl
        have hfrm : X.A.frames = some (X.env :: X.outer) := by rw [← hst]; exact I'.ok.frames
        refine wpAny_looks_onW (base := B) hfrm dc.fr hfl fun h₄ held₄ sm₄ => ?_
        refine wpAny_landsW held₄ fun h₅ fl₅ sm₅ => ?_
        have sm45 := sm₄.trans sm₅
        have I5 := Inv.flown I' hfl.1 fl₅.1 sm45 brs hcov hBH
        have I5x := Inv.ofPin I5
        refine wpAny_handleBy_cons (codeAny_handlers_test (Calls.Name_function_global I5x.ok.kind (g.gl c (mem_of hj)) (Calls.loadGlobal_global (by rw [I5x.ok.glob]; exact I5x.mod.glob.keeps I5x.bk) ED.bd ?_) (g.dbg c (List.mem_append_right _ (mem_of hj))).1)) (by intro z; cases z)
        obtain ⟨bm1, N1, nm1, q1, bs1, hd1, sn1, sub1, ab1, col1, dd1, a0, a1, a2, a3, a5, mN1, hC1, _, _, _, mro1⟩ := exc_obj I5x.kIn EC.ok
        obtain ⟨bm2, N2, nm2, q2, bs2, hd2, sn2, sub2, ab2, col2, dd2, b0, b1, b2, b3, b5, mN2, hD2, _, _, T2, _⟩ := exc_obj I5x.kIn ED.ok
        obtain ⟨ob, hob, hobc⟩ := fl₅.there
        obtain ⟨hp5, g5, d5, t5, os5⟩ := s'
        refine excMatches_own hC1 hD2 hob hobc (T2.hasType PySem.F.excBase_ValueError.hasBase) (mro1 _ _ hsubm) ?_
        refine codeAny_handlers_suite_as ?_
        refine lands_againW fl₅ fun h₆ fl₆ sm₆ => ?_
        have I6 := Inv.flown I5 fl₅.1 fl₆.1 sm₆ brs hcov hBH
        have I6x := Inv.ofPin I6
        -- the exception is tracked from here
        obtain ⟨oe, vs, T, oT, ts, he6, ⟨hcls6, hv0⟩, hd6, _, _, _, _, _, _⟩ := fl₆.2.2.2
        have eaB : B.get? ea = none := fl₆.2.1
        have nfr : ea ∉ frs X.stack := fun hm => by
          obtain ⟨_, o, eo, dn⟩ := I6x.stack.mem hm
          rw [show h₆.get? ea = some oe from he6] at eo
          cases eo
          exact dn vs hd6
        have eL : ea ≠ X.env.locals := fun z => nfr (by rw [hst, z]; exact List.mem_filterMap.mpr ⟨X.env, List.mem_cons_self, dc.fr⟩)
        have e0 : X.s₀.heap.get? ea = none := by
          cases z : X.s₀.heap.get? ea with
          | none => rfl
          | some o =>
            obtain ⟨o', e'⟩ := brs.old ea o z (by rw [dc.ex]; simp)
            obtain ⟨ob', eb⟩ := hcov ea o' e' nfr
            rw [eaB] at eb; cases eb
        have ec : ∀ z cc, X.env.cells.lookup z = some cc → cc ≠ ea := fun z cc e w => by
          obtain ⟨v, o, eo, ed⟩ := I6x.cell z cc e
          rw [w, show h₆.get? ea = some oe from he6] at eo
          cases eo
          rw [hd6] at ed; cases ed
        have ep : ∀ p ∈ X.pn ++ pins, p.1 ≠ ea := fun p hp' w => by
          obtain ⟨o', e'⟩ := brs.pin p hp'
          rw [w] at e'
          obtain ⟨ob', eb⟩ := hcov ea o' e' nfr
          rw [eaB] at eb; cases eb
        have I7 := Inv.track (φ := ExcAt ea C') I6x hea e0 eL ec ep ⟨⟨oe, vs, he6, hcls6, hd6⟩, ⟨oe, he6⟩, fun h1 h2 ⟨o, ws, z1, z2, z3⟩ kk => ⟨o, ws, kk o z1, z2, z3⟩⟩
        obtain ⟨rh7, l7⟩ := rh'.new hea (o := .exc x) (ho := .ext (ExcAt ea C')) ⟨hx.1, C', hmg, rfl⟩
        have rv : RP X.K (ρ' ++ [ea]) (upd H' ea (.ext (ExcAt ea C'))) (.loc h1.length) (.ref ea) := .loc (by rw [← rh'.len]; simp)
        have rs7 := RS.le l7 rs'
        have hNn : X.N.Nodup := by rw [g.hN]; exact g.nd
        refine store_ok I7 hNn (g.x hni) (g.loc n (mem_of hni)) (v := .ref ea) rfl (fun s8 I8 => ?_) (g.fn n (mem_of hnw))
        have rs8 := rs7.set inn rv
        -- the suite, with the exception handled
        let X' : Cx := { X with A := X.A.mark (some (.ref ea)), calm := false, xe := fun _ _ => False }
        have ok' : X'.Ok := ⟨I8.ok.mod, I8.ok.kind, I8.ok.glob, I8.ok.blt, I8.ok.above, I8.ok.inj, I8.ok.has, I8.ok.cab, (fun z => nomatch z), I8.ok.frames, I8.ok.stk, I8.ok.exf, I8.ok.bs, I8.ok.bsz, I8.ok.noex, I8.ok.exfs, I8.ok.funs, I8.ok.frf⟩
        have I8' : Inv X' pins _ _ s8 := ⟨ok', I8.os, I8.bare, I8.base, I8.loc, I8.cell, I8.free, I8.freeC, I8.pin, I8.hok, I8.len⟩
        have hlenn : inn < σ'.length := by rw [I'.len]; exact (List.getElem?_eq_some_iff.mp (g.x hni)).1
        have dn := g.dbg n (List.mem_append_left _ (mem_of hni))
        have st := pss_one (ps_set (X := X') (i := iy) (pos := sp) (pos' := yp) hNn (g.x hyi) (g.loc y (mem_of hyi)) (pe_var (X := X') (i := inn) (pos := np) (g.x hni) (.inl hnl) dn.1 dn.2.1) hsw (g.fn y (mem_of hyw))) pins s8 _ _
          { nx := fun σ9 H9 => σ9 = (σ'.set inn (some (.ref ea))).set iy (some (.ref ea)) ∧ H9 = upd H' ea (.ext (ExcAt ea C')), rt := fun _ _ => False } I8' ⟨.ref ea, by rw [List.getElem?_set_self hlenn], rfl, rfl⟩
        refine wpAny_mono st (fun fl s9 z9 => ?_) fun _ _ z => z.elim
        cases fl with
        | ret u => obtain ⟨_, _, _, _, _, z⟩ := z9; exact z.elim
        | brk => obtain ⟨_, _, _, z⟩ := z9; exact z.elim
        | cont => obtain ⟨_, _, _, z⟩ := z9; exact z.elim
        | next =>
          obtain ⟨σ9, H9, I9', e9, e9'⟩ := z9
          subst e9; subst e9'
          have I9 : Inv X pins ((σ'.set inn (some (.ref ea))).set iy (some (.ref ea))) (upd H' ea (.ext (ExcAt ea C'))) s9 := ⟨I8.ok, I9'.os, I9'.bare, I9'.base, I9'.loc, I9'.cell, I9'.free, I9'.freeC, I9'.pin, I9'.hok, I9'.len⟩
          obtain ⟨m9, hn9, _⟩ := I9.loc
          refine wpAny_nameGoes_keeps hnl hn9 (by rw [I9.ok.kind]; rfl) fun h10 v10 ns10 sb10 => ?_
          have I10 := Inv.unbound I9 hNn (g.x hni) hn9 (t' := s9.toks + 1) ns10 sb10
          refine ⟨_, _, I10, ?_⟩
          exact q (ρ' ++ [ea]) _ _ (l.trans l7) rh7 (RS.unset (rs8.set iy rv) inn)
      · rw [if_neg hx] at q; exact q.elim
  · cases f with
    | next =>
      obtain ⟨σ', H', I', z⟩ := z
      exact wpAny_execs_nil ⟨σ', H', Inv.ofPin I', z⟩
    | brk => obtain ⟨σ', H', I', z⟩ := z; exact ⟨σ', H', Inv.ofPin I', z⟩
    | cont => obtain ⟨σ', H', I', z⟩ := z; exact ⟨σ', H', Inv.ofPin I', z⟩
    | ret u => obtain ⟨v, σ', H', I', r, z⟩ := z; exact ⟨v, σ', H', Inv.ofPin I', r, z⟩
end
end MM

set_option Elab.async false
set_option linter.all false
set_option maxRecDepth 100000
namespace MM
open PySem PySem.Spec PyProof.Rows L2
noncomputable local instance (priority := 1) cdec11 (p : Prop) : Decidable p := Classical.propDecidable p
/-- the class at C as an error class that isinstance may ask -/
structure ExcQ (K : PySem.W.Frag) (C : Addr) : Prop where
  ga : PySem.W.findIn K (.ref C) "__getattribute__" = some (some (.builtin "BaseException.__getattribute__"))
  cl : PySem.W.findIn K (.ref C) "__class__" = some (some (.builtin "object.__class__"))
  gt : PySem.W.findIn K (.ref C) "__getattr__" = some none
  mo : PySem.W.mroIn K C (.type "object") = some true
  mb : PySem.W.mroIn K C (.type "BaseException") = some true
section
variable {prog : Program} {w : World} {A : Around} {E : Value → Shared → Prop} {h : Heap} {g : Array GenState} {d : Drawn} {t : Nat} {os : OsState} {a C : Addr} {o : Obj} {K : PySem.W.Frag}
theorem x_get {R : Result → Shared → Prop} (hK : K.In h) (q : ExcQ K C) (hx : h.get? a = some o) (hc : o.cls = .ref C) (hq : R (.ok (.ret (.ref C))) ⟨h, g, d, t, os⟩) :
    codeAny (model prog w) A (.call (.builtin "getset_descriptor.__get__") ⟨[.builtin "object.__class__", .ref a, .ref C], []⟩) R ⟨h, g, d, t, os⟩ := by
  have hT5 : (⟨h, g, d, t, os⟩ : Shared).TypeIs (.builtin "object.__class__") "getset_descriptor" := PySem.F.typeOf_object_class
  have f8 : ∀ {A' : Around} {E' : Value → Shared → Prop} {Q' : Bool → Shared → Prop}, Q' true ⟨h, g, d, t, os⟩ → wpAny (model prog w) A' (isSubtype (.ref C) (.type (".".intercalate ("object.__class__".cutAt '.').dropLast))) Q' E' ⟨h, g, d, t, os⟩ := fun z => by
    rw [PySem.F.owner_object_class]
    exact (PySem.W.looks_mroIn (M := model prog w) hK q.mo).at z
  refine codeAny_call_builtin PySem.F.slot_gs_get.plain PySem.F.entry_gs_get (PySem.F.slot_gs_get.check _ _ _ _ _ _ _ _ hT5 (PySem.F.args_gs_get _ _ _) ?_)
  repeat (any_goals (first | assumption | (with_reducible refine wpAny_loadPart_at hx ?_; rw [hc]) | with_reducible refine f8 ?_ | wp_step))
  refine ⟨Code.quiet_builtin _ (by decide +kernel), codeAny_builtin PySem.F.entry_object_class ?_⟩
  repeat (any_goals (first | assumption | (with_reducible refine wpAny_loadPart_at hx ?_; rw [hc]) | wp_step))
theorem x_entry {tk : Tok} {Q : Fin → Shared → Prop} (hK : K.In h) (q : ExcQ K C) (hx : h.get? a = some o) (hc : o.cls = .ref C) (hq : Q (.done (.ret (.ref C))) ⟨h, g, d, t, os⟩) :
    wpAny (model prog w) A (Builtin.«object.__getattribute__» ⟨[.ref a, .str "__class__" tk], []⟩) Q E ⟨h, g, d, t, os⟩ := by
  have hT5 : (⟨h, g, d, t, os⟩ : Shared).TypeIs (.builtin "object.__class__") "getset_descriptor" := PySem.F.typeOf_object_class
  have f4 : ∀ {A' : Around} {E' : Value → Shared → Prop} {Q' : Option Value → Shared → Prop}, Q' (some (.builtin "object.__class__")) ⟨h, g, d, t, os⟩ → wpAny (model prog w) A' (typeLookup (.ref C) "__class__") Q' E' ⟨h, g, d, t, os⟩ := fun z => (PySem.W.looks_findIn (M := model prog w) hK q.cl).at z
  have f5 := PySem.F.typeOf_object_class
  have f6 := PySem.F.slot_gs_get.lookup
  have f7 := PySem.F.slot_gs_set.lookup
  repeat (any_goals (first | assumption | (with_reducible refine wpAny_loadPart_at hx ?_; rw [hc]) | with_reducible refine f4 ?_ | wp_step))
  refine x_get hK q hx hc ?_
  repeat (any_goals (first | assumption | wp_step))
theorem x_call {tk : Tok} {R : Result → Shared → Prop} (hK : K.In h) (q : ExcQ K C) (hx : h.get? a = some o) (hc : o.cls = .ref C) (hq : R (.ok (.ret (.ref C))) ⟨h, g, d, t, os⟩) :
    codeAny (model prog w) A (.call (.builtin "BaseException.__getattribute__") ⟨[.ref a, .str "__class__" tk], []⟩) R ⟨h, g, d, t, os⟩ := by
  have hk : builtinKind "BaseException.__getattribute__" = some .slot := by decide +kernel
  have hsplit : splitId "BaseException.__getattribute__" = some ("BaseException", "__getattribute__") := by decide +kernel
  have ha := PySem.F.args_bexc_ga (.ref a) (.str "__class__" tk)
  have f8 : ∀ {A' : Around} {E' : Value → Shared → Prop} {Q' : Bool → Shared → Prop}, Q' true ⟨h, g, d, t, os⟩ → wpAny (model prog w) A' (isSubtype (.ref C) (.type "BaseException")) Q' E' ⟨h, g, d, t, os⟩ := fun z => (PySem.W.looks_mroIn (M := model prog w) hK q.mb).at z
  have chk : ∀ {A' : Around} {E' : Value → Shared → Prop} {Q' : Unit → Shared → Prop}, Q' () ⟨h, g, d, t, os⟩ → wpAny (model prog w) A' (checkBuiltinCall "BaseException.__getattribute__" ⟨[.ref a, .str "__class__" tk], []⟩) Q' E' ⟨h, g, d, t, os⟩ := fun z => by
    simp only [checkBuiltinCall, hk, hsplit]
    refine wpAny_bind ?_
    · unfold isInstance
      repeat (first | (with_reducible refine wpAny_loadPart_at hx ?_; rw [hc]) | with_reducible refine f8 ?_ | wp_step)
      exact z
  exact codeAny_call_builtin PySem.F.excAttr_ValueError.ga.plain PySem.F.entry_bexc_ga (chk (x_entry hK q hx hc hq))
theorem x_by {tk : Tok} {Q : Value → Shared → Prop} (hK : K.In h) (q : ExcQ K C) (hx : h.get? a = some o) (hc : o.cls = .ref C) (hq : Q (.ref C) ⟨h, g, d, t, os⟩) : wpAny (model prog w) A (getAttrBy (.ref a) (.str "__class__" tk) false) Q E ⟨h, g, d, t, os⟩ := by
  have f3 := PySem.F.excAttr_ValueError.ga.bind (.ref a)
  have hx2 : (Value.builtin "BaseException.__getattribute__" == Value.builtin "object.__getattribute__") = false := by decide +kernel
  have hx1 : (onTheHeap (Value.ref C) && Value.builtin "BaseException.__getattribute__" == Value.builtin "object.__getattribute__") = false := by rw [hx2]; rfl
  have f1 : ∀ {A' : Around} {E' : Value → Shared → Prop} {Q' : Option Value → Shared → Prop}, Q' (some (.builtin "BaseException.__getattribute__")) ⟨h, g, d, t, os⟩ → wpAny (model prog w) A' (typeLookup (.ref C) "__getattribute__") Q' E' ⟨h, g, d, t, os⟩ := fun z => (PySem.W.looks_findIn (M := model prog w) hK q.ga).at z
  have f2 : ∀ {A' : Around} {E' : Value → Shared → Prop} {Q' : Option Value → Shared → Prop}, Q' none ⟨h, g, d, t, os⟩ → wpAny (model prog w) A' (typeLookup (.ref C) "__getattr__") Q' E' ⟨h, g, d, t, os⟩ := fun z => (PySem.W.looks_findIn (M := model prog w) hK q.gt).at z
  repeat (any_goals (first | assumption | (with_reducible refine wpAny_loadPart_at hx ?_; rw [hc]) | with_reducible refine f1 ?_ | with_reducible refine f2 ?_ | wp_step))
  refine x_call hK q hx hc ?_
  repeat (any_goals (first | assumption | wp_step))
theorem x_attr {Q : Option Value → Shared → Prop} (hK : K.In h) (q : ExcQ K C) (hx : h.get? a = some o) (hc : o.cls = .ref C) (hq : Q (some (.ref C)) ⟨h, g, d, t + 1, os⟩) : wpAny (model prog w) A (getAttr? (.ref a) "__class__") Q E ⟨h, g, d, t, os⟩ := by
  unfold getAttr? getAttrBy?
  repeat (any_goals (first | assumption | with_reducible apply x_by hK q hx hc | wp_step))
end
/-- an exception object as isinstance sees it -/
theorem kitx_exc {K : PySem.W.Frag} {a C : Addr} (q : ExcQ K C) (hc : ∃ cd, PySem.W.clsIn K C = some cd) : PySem.W.KitX K (.ref a) (.ref C) (ExcAt a C) where
  ty := fun M h _ ⟨o, vs, e, c, _⟩ => c ▸ (PySem.W.Looks.ld e).andThen .now
  it := fun _ _ X _ => by
    obtain ⟨cdD, hcD⟩ := hc
    unfold PySem.W.clsIn at hcD
    split at hcD
    · rename_i c' d' cd' sl' ho
      intro A' Q' E' s' k q
      unfold isType loadHead
      exact wpAny_bind (wpAny_loadPart (k _ _ (X _ _ ho)) (wpAny_pure q))
    · cases hcD
  ne := fun h tp dd its n sl X htp => by
    obtain ⟨cdD, hcD⟩ := hc
    refine Bool.eq_false_iff.mpr fun z => ?_
    have e : C = tp := Value.ref.inj (beq_iff_eq.mp z)
    subst e
    unfold PySem.W.clsIn at hcD
    split at hcD
    · rename_i c' d' cd' sl' ho
      have z := (X _ _ ho).symm.trans htp
      cases z
    · cases hcD
  ca := fun {prog w A E Q s} X ⟨o, vs, e, c, _⟩ k => by
    obtain ⟨hh, gg, dd, tt, oo⟩ := s
    exact x_attr X q e c k
end MM

set_option Elab.async false
set_option linter.all false
set_option maxRecDepth 100000
namespace MM
open PySem PySem.Spec PyProof.Rows L2
noncomputable local instance (priority := 1) cdec12 (p : Prop) : Decidable p := Classical.propDecidable p
/-! ### isinstance of error classes -/
def fIsiC (cs sup : List Str) (x : PV) (h : MH) : Out PV := match x with
  | .loc n => (match h[n]? with
    | some (.exc e) => if cs.contains e.cls = true then .ok (.bl (sup.contains e.cls)) h else .bad
    | some _ => .ok (.bl false) h
    | none => .bad)
  | _ => .ok (.bl false) h
/-- the class T asked of the error classes cs, of which sup are its own -/
structure IsiC (K : PySem.W.Frag) (mg : MGl) (T : Value) (cs sup : List Str) : Prop where
  ty : ∀ t ∈ ["NoneType", "bool", "int", "str", "tuple", "list", "dict"], PySem.W.kitOne K (.type t) T = some false
  ex : ∀ x ∈ cs, ∃ C, mg x = some (.ref C) ∧ ExcQ K C ∧ (∃ cd, PySem.W.clsIn K C = some cd) ∧ PySem.W.kitOne K (.ref C) T = some (sup.contains x)
section
variable {X : Cx} {N W G : List Str} {k : Nat}
theorem isi_run {T : Value} {cs sup : List Str} (IC : IsiC X.K X.mg T cs sup) {v : V} (hv : ∀ u, RelV v u → u = T) : CallR X (.builtin "isinstance") (fun xs H Q => ∃ x', xs = [x', v] ∧ uJ X (fIsiC cs sup) x' H Q) := by
  intro pins s σ H xs us Q I r ⟨x', e, ρ, h, x, rh, rx, q⟩
  subst e
  cases r with
  | cons r1 t1 => cases t1 with
    | cons r2 t2 =>
      cases t2
      obtain rfl := hv _ r2
      have plain : ∀ t, tyP h x = some t → fIsiC cs sup x h = .ok (.bl false) h → wpAny (model X.prog X.w) X.A (call (.builtin "isinstance") [_, _]) (EP X pins σ Q) X.xe s := fun t et ef => by
        rw [ef] at q
        obtain ⟨ht, hne, Hq, Z, hz⟩ := kitx_of I rh rx r1 et
        exact PySem.W.kia_one Z I.kIn hz (IC.ty t ht) hne fun tk => ⟨.bl _, H, I.tok _, rfl, q ρ H _ (Le.refl _ _) rh (.bl _)⟩
      cases x with
      | non => exact plain _ rfl rfl
      | bl b => exact plain _ rfl rfl
      | int i => exact plain _ rfl rfl
      | str i => exact plain _ rfl rfl
      | tup i => exact plain _ rfl rfl
      | frl i => exact plain _ rfl rfl
      | loc n =>
        cases en : h[n]? with
        | none => simp only [fIsiC, en] at q; exact q.elim
        | some o =>
          cases o with
          | lst xs => exact plain "list" (by simp [tyP, en]) (by simp [fIsiC, en])
          | dic xs => exact plain "dict" (by simp [tyP, en]) (by simp [fIsiC, en])
          | exc ex =>
            simp only [fIsiC, en] at q
            by_cases hc : cs.contains ex.cls = true
            · rw [if_pos hc] at q
              obtain ⟨C, hm, EQ, hcd, hk⟩ := IC.ex ex.cls (by simpa using hc)
              cases rx with
              | @loc n a e =>
                cases r1
                obtain ⟨o', eo', ro⟩ := rh.obj e
                rw [en] at eo'
                cases eo'
                obtain ⟨_, C', hm', hH⟩ := ro
                rw [hm] at hm'
                cases hm'
                obtain ⟨hz, _, _⟩ := (show ObjOk X.prog X.w H s.heap a (.ext (ExcAt a C)) from I.hok a _ hH)
                exact PySem.W.kia_one (kitx_exc EQ hcd) I.kIn hz hk (fun z => nomatch z) fun tk => ⟨.bl _, H, I.tok _, rfl, q ρ H _ (Le.refl _ _) rh (.bl _)⟩
            · rw [if_neg hc] at q; exact q.elim
theorem me_isiC (g : Good X N W G k) {a : Expr} {m : Mx PV} {c : Str} {D : Addr} {cs sup : List Str} {i j : Nat} {p q pos : Pos} (hi : G[i]? = some "isinstance") (hm : X.mg "isinstance" = none) (hj : G[j]? = some c) (hc : X.mg c = some (.ref D)) (IC : IsiC X.K X.mg (.ref D) cs sup) (ha : ME X a m)
    (he : starEach [a, .Name c q] X.env = (false, eval a X.env) :: starEach [.Name c q] X.env := by rfl) (he2 : starEach [.Name c q] X.env = [(false, eval (.Name c q) X.env)] := by rfl) (hpl : (backTo pos (starEach [.Name c q] X.env)).any (·.1) = false := by rfl) :
    ME X (.Call (.Name "isinstance" p) [a, .Name c q] [] pos) (mUn (fIsiC cs sup) m) := by
  have d1 := g.dbg _ (List.mem_append_right _ (mem_of hi))
  have d := g.dbg c (List.mem_append_right _ (mem_of hj))
  refine PE.imp (pe_callB (isi_run IC (v := .ref D) fun u r => (show u = Value.ref D from r)) (g.gl _ (mem_of hi)) hm PyProof.Rows.Boot.«isinstance» (pa_cons ha (pa_cons (pe_glob (v := .ref D) (u := .ref D) (g.gl c (mem_of hj)) hc rfl d.1) pa_nil he2) he) d1.2.2 d1.1 he hpl) fun σ H Q ⟨ρ, σp, h, rs, rh, q⟩ => ?_
  exact ⟨ρ, σp, h, rs, rh, Ful.bind q fun ρ1 H1 x x' h1 _ l1 rh1 rx q1 => ⟨x', rfl, ρ1, h1, x, rh1, rx, q1.zero⟩⟩
theorem me_isiB (g : Good X N W G k) {a : Expr} {m : Mx PV} {c : Str} {T : String} {cs sup : List Str} {i j : Nat} {p q pos : Pos} (hi : G[i]? = some "isinstance") (hm : X.mg "isinstance" = none) (hj : G[j]? = some c) (hc : X.mg c = none) (hv : bootBuiltins c = some (.type T)) (IC : IsiC X.K X.mg (.type T) cs sup) (ha : ME X a m)
    (he : starEach [a, .Name c q] X.env = (false, eval a X.env) :: starEach [.Name c q] X.env := by rfl) (he2 : starEach [.Name c q] X.env = [(false, eval (.Name c q) X.env)] := by rfl) (hpl : (backTo pos (starEach [.Name c q] X.env)).any (·.1) = false := by rfl) :
    ME X (.Call (.Name "isinstance" p) [a, .Name c q] [] pos) (mUn (fIsiC cs sup) m) := by
  have d1 := g.dbg _ (List.mem_append_right _ (mem_of hi))
  have d := g.dbg c (List.mem_append_right _ (mem_of hj))
  refine PE.imp (pe_callB (isi_run IC (v := .ty T) fun u r => (show u = Value.type T from r)) (g.gl _ (mem_of hi)) hm PyProof.Rows.Boot.«isinstance» (pa_cons ha (pa_cons (pe_bltn (v := .ty T) (u := .type T) (g.gl c (mem_of hj)) hc hv rfl d.2.2 d.1) pa_nil he2) he) d1.2.2 d1.1 he hpl) fun σ H Q ⟨ρ, σp, h, rs, rh, q⟩ => ?_
  exact ⟨ρ, σp, h, rs, rh, Ful.bind q fun ρ1 H1 x x' h1 _ l1 rh1 rx q1 => ⟨x', rfl, ρ1, h1, x, rh1, rx, q1.zero⟩⟩
end
end MM

set_option Elab.async false
set_option linter.all false
set_option maxRecDepth 100000
namespace MM
open PySem PySem.Spec PyProof.Rows L2
noncomputable local instance (priority := 1) cdec13 (p : Prop) : Decidable p := Classical.propDecidable p
/-! ### repr -/
noncomputable def fRepr (xs : List PV) (h : MH) : Out PV := match xs with
  | [x] => (match x with
    | .tup _ => (match rd 60 h x with
      | some d => if d.showable = true ∧ d.shown.length ≤ sizeLine then .ok (.str d.shown) h else .bad
      | none => .bad)
    | .frl _ => (match rd 60 h x with
      | some d => if d.showable = true ∧ d.shown.length ≤ sizeLine then .ok (.str d.shown) h else .bad
      | none => .bad)
    | .loc _ => (match rd 60 h x with
      | some d => if d.showable = true ∧ d.shown.length ≤ sizeLine then .ok (.str d.shown) h else .bad
      | none => .bad)
    | _ => .bad)
  | _ => .bad
theorem rdAll_facts {f : PV → Option PyData} {n : Nat} (hf : ∀ v d, f v = some d → d.depth ≤ n ∧ d.hasDict = false) : ∀ {xs : List PV} {ds : List PyData}, rdAll f xs = some ds → PyData.depthAll ds ≤ n ∧ PyData.hasDictAll ds = false
  | [], ds, e => by cases e; simp [PyData.depthAll, PyData.hasDictAll]
  | x :: r, ds, e => by
    simp only [rdAll] at e
    split at e
    · rename_i d ds' e1 e2
      cases e
      obtain ⟨a1, a2⟩ := hf _ _ e1
      obtain ⟨b1, b2⟩ := rdAll_facts hf e2
      simp only [PyData.depthAll, PyData.hasDictAll, a2, b2]
      exact ⟨by omega, rfl⟩
    · cases e
theorem rd_facts {h : MH} : ∀ (n : Nat) (v : PV) (d : PyData), rd n h v = some d → d.depth ≤ n ∧ d.hasDict = false
  | 0, v, d, e => by
    cases v <;> simp only [rd] at e <;> cases e <;> simp [PyData.depth, PyData.hasDict]
  | n + 1, v, d, e => by
    have key : ∀ xs, (∀ ds, rdAll (rd n h) xs = some ds → PyData.depthAll ds ≤ n ∧ PyData.hasDictAll ds = false) := fun xs ds => rdAll_facts (rd_facts n)
    cases v with
    | non => simp only [rd] at e; cases e; simp [PyData.depth, PyData.hasDict]
    | bl b => simp only [rd] at e; cases e; simp [PyData.depth, PyData.hasDict]
    | int b => simp only [rd] at e; cases e; simp [PyData.depth, PyData.hasDict]
    | str b => simp only [rd] at e; cases e; simp [PyData.depth, PyData.hasDict]
    | tup xs =>
      simp only [rd, Option.map_eq_some_iff] at e
      obtain ⟨ds, e1, rfl⟩ := e
      obtain ⟨a, b⟩ := key xs ds e1
      exact ⟨by simp only [PyData.depth]; omega, by simp only [PyData.hasDict, b]⟩
    | frl xs =>
      simp only [rd, Option.map_eq_some_iff] at e
      obtain ⟨ds, e1, rfl⟩ := e
      obtain ⟨a, b⟩ := key xs ds e1
      exact ⟨by simp only [PyData.depth]; omega, by simp only [PyData.hasDict, b]⟩
    | loc m =>
      simp only [rd] at e
      split at e
      · rename_i xs _
        simp only [Option.map_eq_some_iff] at e
        obtain ⟨ds, e1, rfl⟩ := e
        obtain ⟨a, b⟩ := key xs ds e1
        exact ⟨by simp only [PyData.depth]; omega, by simp only [PyData.hasDict, b]⟩
      · cases e
section
variable {X : Cx} {N W G : List Str} {k : Nat}
theorem repr_run {pins : List (Addr × Obj)} {σ : L2.St} {H : Hp} {s : Shared} {ρ : List Addr} {h : MH} {x : PV} {a : Addr} {Q : VK} (hr : Room k X.A) (I : Inv X pins σ H s) (rh : RH X.K X.mg ρ H h) (rx : RP X.K ρ H x (.ref a))
    (q : Ful0 X (RV' X) ρ H (match rd 60 h x with
      | some d => if d.showable = true ∧ d.shown.length ≤ sizeLine then .ok (.str d.shown) h else .bad
      | none => .bad) Q) : wpAny (model X.prog X.w) X.A (call (.builtin "repr") [.ref a]) (EP X pins σ Q) X.xe s := by
  cases e : rd 60 h x with
  | none => rw [e] at q; exact q.elim
  | some d =>
    rw [e] at q
    dsimp only at q
    by_cases z : d.showable = true ∧ d.shown.length ≤ sizeLine
    · rw [if_pos z] at q
      obtain ⟨as, rd1⟩ := rd_reads I rh 60 x (.ref a) (.ref a) d rx rfl e
      obtain ⟨f1, f2⟩ := rd_facts 60 x d e
      refine repr_of_reads' rd1 z.1 (PyData.noDict_hsm f2) hr.gd (by have := hr.un; omega) (fun _ _ e => e) (fun h' u tk hk => ⟨.str d.shown, H, I.kept hk, ⟨u, rfl⟩, q ρ H _ (Le.refl _ _) rh (.str _)⟩) z.2
    · rw [if_neg z] at q; exact q.elim
theorem cj_repr (g : Good X N W G k) : CallJ X (.builtin "repr") fRepr := by
  intro pins s σ H xs us Q I r ⟨ρ, h, ps, rh, rp, q⟩
  cases rp with
  | nil => exact q.elim
  | cons r1 t1 =>
    cases t1 with
    | cons _ _ => cases r1 <;> exact q.elim
    | nil =>
      cases r with
      | cons ru tu =>
        cases tu
        cases r1 with
        | tup s1 rr => cases ru; exact repr_run g.room I rh (.tup s1 rr) q
        | frl s1 rr => cases ru; exact repr_run g.room I rh (.frl s1 rr) q
        | loc e => cases ru; exact repr_run g.room I rh (.loc e) q
        | _ => exact q.elim
end
end MM

set_option Elab.async false
set_option linter.all false
set_option maxRecDepth 100000
namespace MM
open PySem PySem.Spec PyProof.Rows L2
noncomputable local instance (priority := 1) cdec14 (p : Prop) : Decidable p := Classical.propDecidable p
/-! ### the classes of a program -/
theorem ty_ref {K : PySem.W.Frag} {D : Addr} (h : PySem.W.kitOne K (.type "NoneType") (.ref D) = some false) : ∀ t ∈ ["NoneType", "bool", "int", "str", "tuple", "list", "dict"], PySem.W.kitOne K (.type t) (.ref D) = some false := by
  have hb : ((PySem.W.clsIn K D).isSome && PySem.W.typeIn K (.ref D) == some (.type "type")) = true := by
    cases z : ((PySem.W.clsIn K D).isSome && PySem.W.typeIn K (.ref D) == some (.type "type")) with
    | true => rfl
    | false =>
      have e : PySem.W.kitOne K (.type "NoneType") (.ref D) = PySem.W.kitCls K (.type "NoneType") (.ref D) := rfl
      rw [e] at h
      unfold PySem.W.kitCls at h
      dsimp only at h
      rw [z] at h
      cases h
  have key : ∀ t, PySem.W.kitOne K (.type t) (.ref D) = (if ((PySem.W.clsIn K D).isSome && PySem.W.typeIn K (.ref D) == some (.type "type")) = true then PySem.W.subIn K (.type t) (.ref D) else none) := fun t => rfl
  intro t ht
  rw [key, if_pos hb]
  simp only [List.mem_cons, List.not_mem_nil, or_false] at ht
  rcases ht with rfl | rfl | rfl | rfl | rfl | rfl | rfl <;> rfl
theorem ty_VE : ∀ (K : PySem.W.Frag), ∀ t ∈ ["NoneType", "bool", "int", "str", "tuple", "list", "dict"], PySem.W.kitOne K (.type t) (.type "ValueError") = some false := by
  intro K t ht
  simp only [List.mem_cons, List.not_mem_nil, or_false] at ht
  rcases ht with rfl | rfl | rfl | rfl | rfl | rfl | rfl <;> rfl
theorem cls_of_mro {K : PySem.W.Frag} {C : Addr} {b : Value} {r : Bool} (h : PySem.W.mroIn K C b = some r) : ∃ cd, PySem.W.clsIn K C = some cd := by
  unfold PySem.W.mroIn at h
  cases z : PySem.W.clsIn K C with
  | none => rw [z] at h; cases h
  | some cd => exact ⟨cd, rfl⟩
theorem isiC_mk {K : PySem.W.Frag} {mg : MGl} {T : Value} {cs sup : List Str} (ty : ∀ t ∈ ["NoneType", "bool", "int", "str", "tuple", "list", "dict"], PySem.W.kitOne K (.type t) T = some false)
    (ex : ∀ x ∈ cs, ∃ C, mg x = some (.ref C) ∧ ExcQ K C ∧ PySem.W.kitOne K (.ref C) T = some (sup.contains x)) : IsiC K mg T cs sup :=
  ⟨ty, fun x hx => let ⟨C, a, b, c⟩ := ex x hx; ⟨C, a, b, cls_of_mro b.mo, c⟩⟩
theorem all_nil {p : Str → Prop} : ∀ x ∈ ([] : List Str), p x := fun _ h => nomatch h
theorem all_cons {p : Str → Prop} {a : Str} {l : List Str} (h : p a) (t : ∀ x ∈ l, p x) : ∀ x ∈ a :: l, p x := fun x hx => by
  rcases List.mem_cons.mp hx with rfl | z
  · exact h
  · exact t x z
section
variable {X : Cx} {N W G : List Str} {k : Nat}
theorem ms_raiseE (g : Good X N W G k) {x : Str} {j : Nat} (hj : G[j]? = some x) (EC : ∃ C, ExcC X x C) {e : Expr} {es : List Expr} {m : Mx (List PV)} {np cpos pos : Pos} (ha : MA X (e :: es) m)
    (he : starEach (e :: es) X.env = (false, eval e X.env) :: starEach es X.env := by rfl) (hpl : (backTo cpos (starEach es X.env)).any (·.1) = false := by rfl) :
    MS X (.Raise (some (.Call (.Name x np) (e :: es) [] cpos)) none pos) (mRaise x m) := let ⟨_, h⟩ := EC; ms_raise g hj h ha he hpl
theorem ms_tryE (g : Good X N W G k) (dc : DefCx X) {c : Str} {j : Nat} (hj : G[j]? = some c) {cs : List Str} (ED : ∃ D, ExcC X c D ∧ ∀ x ∈ cs, ∃ C, ExcC X x C ∧ PySem.W.mroIn X.K C (.ref D) = some true) (iy inn : Nat) {y n : Str} (hyi : N[iy]? = some y) (hyw : W[iy]? = some y) (hni : N[inn]? = some n) (hnw : W[inn]? = some n)
    (hnl : X.env.scope.names.lookup n = some .local) {body : List Stmt} {mb : Mst} {cp yp np sp hp pos : Pos}
    (hb : ∀ Y : Cx, Y.prog = X.prog → Y.w = X.w → Y.K = X.K → Y.mg = X.mg → Y.base = X.base → Y.env = X.env → Good Y N W G k → DefCx Y → MSs Y body mb) (hsw : swapsWith (.Name n np) (some (.Name y yp)) sp.line X.env = pure false := by rfl) :
    MS X (.Try body [.ExceptHandler (some (.Name c cp)) (some n) [.Assign [.Name y yp] (.Name n np) sp] hp] [] [] pos) (mTry cs iy inn mb) := let ⟨_, h, h'⟩ := ED; ms_try g dc hj h h' iy inn hyi hyw hni hnw hnl hb hsw
theorem me_isiE (g : Good X N W G k) {a : Expr} {m : Mx PV} {c : Str} {cs sup : List Str} {i j : Nat} {p q pos : Pos} (hi : G[i]? = some "isinstance") (hm : X.mg "isinstance" = none) (hj : G[j]? = some c) (IC : ∃ D, X.mg c = some (.ref D) ∧ IsiC X.K X.mg (.ref D) cs sup) (ha : ME X a m)
    (he : starEach [a, .Name c q] X.env = (false, eval a X.env) :: starEach [.Name c q] X.env := by rfl) (he2 : starEach [.Name c q] X.env = [(false, eval (.Name c q) X.env)] := by rfl) (hpl : (backTo pos (starEach [.Name c q] X.env)).any (·.1) = false := by rfl) :
    ME X (.Call (.Name "isinstance" p) [a, .Name c q] [] pos) (mUn (fIsiC cs sup) m) := let ⟨_, h, h'⟩ := IC; me_isiC g hi hm hj h h' ha he he2 hpl
theorem Cal.at {Y : Cx} {x : Str} {ps : List Str} {F : List PV → MH → Out PV} {i : Nat} (e1 : Y.prog = X.prog) (e2 : Y.w = X.w) (e3 : Y.K = X.K) (e4 : Y.mg = X.mg) (e5 : Y.base = X.base) (c : Cal X x ps F i) : Cal Y x ps F i := c.to e1 e2 e3 e4 e5
end
end MM

set_option Elab.async false
set_option linter.all false
set_option maxRecDepth 100000
namespace MM
open PySem PySem.Spec PyProof.Rows L2
theorem compOk {X : Cx} {N : List Str} {scope sc : Scope} {vars frees : List Str} {fm : List Nat} (hsc : X.env.scope = sc) (h1 : scope.kind = .function) (h2 : ∀ y ∈ scope.names, y.2 ≠ .cell) (h3 : ∀ y ∈ scope.names, y.2 = .local → scope.names.lookup y.1 = some .local) (h4 : ∀ x ∈ vars, scope.names.lookup x = some .local)
    (h5 : ∀ x ∈ frees, scope.names.lookup x = some .free) (h6 : ∀ y ∈ scope.names, y.2 = .free → y.1 ∈ frees) (h7 : fm.map (fun i => N[i]?) = frees.map some) (h8 : ∀ x ∈ frees, sc.names.lookup x = some .cell) : CompOk X N scope vars frees fm :=
  ⟨h1, h2, h3, h4, h5, h6, h7, fun x hx => by rw [← hsc] at h8; exact h8 x hx⟩
end MM

set_option Elab.async false
set_option linter.all false
set_option maxRecDepth 100000
namespace MM
open PySem PySem.Spec PyProof.Rows L2
noncomputable local instance (priority := 1) cdec16 (p : Prop) : Decidable p := Classical.propDecidable p
/-! ### how the newer mirrors are run -/
section
variable {σ : PSt} {h : MH}
@[simp] theorem mRaise_ap {x : Str} {m : Mx (List PV)} : mRaise x m σ h = (m σ h).go σ fun vs σ h => if vs.length ≤ sizeLine then .rse ⟨x, []⟩ σ h else .bad := rfl
theorem size_1 : (1 : Nat) ≤ sizeLine := by decide
def SOut.caught (o : SOut) (cs : List Str) (iy inn : Nat) : SOut := match o with
  | .exc x σ1 h1 => if x.fs = [] ∧ x.cls ∈ cs then .nx (((σ1.set inn (some (.loc h1.length))).set iy (some (.loc h1.length))).set inn none) (h1 ++ [.exc x]) else .bad
  | .rse _ _ _ => .bad
  | o => o
@[simp] theorem mTry_ap {cs : List Str} {iy inn : Nat} {mb : Mst} : mTry cs iy inn mb σ h = (mb σ h).caught cs iy inn := rfl
@[simp] theorem caught_nx {cs : List Str} {iy inn : Nat} : (SOut.nx σ h).caught cs iy inn = .nx σ h := rfl
@[simp] theorem caught_rt {cs : List Str} {iy inn : Nat} {v : PV} : (SOut.rt v h).caught cs iy inn = .rt v h := rfl
theorem caught_exc {cs : List Str} {iy inn : Nat} {c : Str} (hc : c ∈ cs) : (SOut.exc ⟨c, []⟩ σ h).caught cs iy inn = .nx (((σ.set inn (some (.loc h.length))).set iy (some (.loc h.length))).set inn none) (h ++ [.exc ⟨c, []⟩]) := by
  unfold SOut.caught; dsimp only; rw [if_pos ⟨rfl, hc⟩]
@[simp] theorem mComp_ap {nv : Nat} {fm : List Nat} {mi : Mx MIt} {gt : Mg} {mt : Mx Bool} {me : Mx PV} : mComp nv fm mi gt mt me σ h =
  (mi σ h).bind fun it h1 => (cGo it h1.length gt mt me it.xs (cSt nv fm σ) (h1 ++ [.lst []])).bind fun _ h3 => .ok (.loc h1.length) h3 := rfl
theorem cGo_nil {it : MIt} {n : Nat} {gt : Mg} {mt : Mx Bool} {me : Mx PV} (e : it.ok h) : cGo it n gt mt me [] σ h = .ok () h := by rw [cGo, if_pos e]
/-- one item that is let by -/
theorem cGo_yes {it : MIt} {n : Nat} {gt : Mg} {mt : Mx Bool} {me : Mx PV} {x v : PV} {r ys : List PV} {σ1 : PSt} {h1 h2 h3 : MH} (e : it.ok h) (eg : gt x σ h = .nx σ1 h1) (et : mt σ1 h1 = .ok true h2) (ee : me σ1 h2 = .ok v h3) (el : h3[n]? = some (.lst ys)) (hl : ys.length < 1000) :
    cGo it n gt mt me (x :: r) σ h = cGo it n gt mt me r σ1 (h3.set n (.lst (ys ++ [v]))) := by
  rw [cGo, if_pos e, eg]
  simp only [et, Out.ne_ok, Out.bind_ok, if_true, ee, el]
  rw [if_pos (Nat.lt_of_lt_of_le hl (by decide))]
theorem cGo_no {it : MIt} {n : Nat} {gt : Mg} {mt : Mx Bool} {me : Mx PV} {x : PV} {r : List PV} {σ1 : PSt} {h1 h2 : MH} (e : it.ok h) (eg : gt x σ h = .nx σ1 h1) (et : mt σ1 h1 = .ok false h2) :
    cGo it n gt mt me (x :: r) σ h = cGo it n gt mt me r σ1 h2 := by
  rw [cGo, if_pos e, eg]
  simp only [et, Out.ne_ok, Out.bind_ok, Bool.false_eq_true, if_false]
theorem fIsiC_exc {n : Nat} {x : MExc} {cs sup : List Str} (e : h[n]? = some (.exc x)) (hc : cs.contains x.cls = true) : fIsiC cs sup (.loc n) h = .ok (.bl (sup.contains x.cls)) h := by
  simp only [fIsiC, e]; rw [if_pos hc]
/-! ### a heap that has grown -/
theorem app_r {g : MH} {k : Nat} : (h ++ g)[h.length + k]? = g[k]? := by rw [List.getElem?_append_right (by omega)]; congr 1; omega
theorem app_0 {o : MO} {g : MH} : (h ++ o :: g)[h.length]? = some o := by simp
theorem app_l {g : MH} {n : Nat} {o : MO} (e : h[n]? = some o) : (h ++ g)[n]? = some o := by
  rw [List.getElem?_append_left (List.getElem?_eq_some_iff.mp e).1]; exact e
theorem newL_app {g : MH} {xs : List PV} (hl : xs.length ≤ 1000) : newL xs (h ++ g) = .ok (.loc (h.length + g.length)) (h ++ (g ++ [.lst xs])) := by
  rw [newL_small hl, List.length_append, List.append_assoc]
theorem set_app {g : MH} {k : Nat} {o : MO} : (h ++ g).set (h.length + k) o = h ++ g.set k o := by
  rw [List.set_append_right _ _ (by omega)]; congr 2; omega
theorem fRepr_tup {xs : List PV} {d : PyData} (e : rd 60 h (.tup xs) = some d) (h1 : d.showable = true) (h2 : d.shown.length ≤ sizeLine) : fRepr [.tup xs] h = .ok (.str d.shown) h := by
  simp only [fRepr, e]; rw [if_pos ⟨h1, h2⟩]
/-! ### looked up in the heap -/
theorem opIx_locM {n : Nat} {i : Int} : opIx (.loc n) (.int i) h = match h[n]? with
    | some (.lst xs) => Out.ofO (atI xs i) h
    | _ => .bad := by
  show (match h[n]? with
      | some (.lst xs) => (match atI xs i with
        | some v => Out.ok v h
        | none => .bad)
      | _ => .bad) = _
  cases h[n]? with
  | none => rfl
  | some o => cases o <;> rfl
theorem opAdd_llM {n m : Nat} : opAdd (.loc n) (.loc m) h = match h[n]?, h[m]? with
    | some (.lst xs), some (.lst ys) => newL (xs ++ ys) h
    | _, _ => .bad := rfl
theorem opMul_lM {n : Nat} {j : Int} (hj : -(2 ^ 63) ≤ j ∧ j < 2 ^ 63) : opMul (.loc n) (.int j) h = match h[n]? with
    | some (.lst xs) => newL (List.flatten (List.replicate j.toNat xs)) h
    | _ => .bad := by
  simp only [opMul]
  cases h[n]? with
  | none => rfl
  | some o => cases o <;> first | rfl | (dsimp only; rw [if_pos hj])
theorem fLen_locM {n : Nat} : fLen [.loc n] h = match h[n]? with
    | some (.lst xs) => .ok (.int xs.length) h
    | _ => .bad := rfl
/-! ### statement by statement -/
theorem fin_step {a b : Mst} {σ' : PSt} {h' : MH} {R : Out PV} (e : a σ h = .nx σ' h') (k : (b σ' h').fin = R) : (mSeq a b σ h).fin = R := by rw [mSeq_ap, e]; exact k
theorem fin_ex {a b : Mst} {σ' : PSt} {h' : MH} {p : Out PV → Prop} (e : a σ h = .nx σ' h') (k : p (b σ' h').fin) : p (mSeq a b σ h).fin := by rw [mSeq_ap, e]; exact k
/-- what was there stays, more came -/
def OkExt (h0 : MH) (v : PV) (o : Out PV) : Prop := ∃ g, o = .ok v (h0 ++ g)
theorem ext_step {h0 : MH} {v : PV} {a b : Mst} {σ' : PSt} {h' : MH} (e : a σ h = .nx σ' h') (k : OkExt h0 v (b σ' h').fin) : OkExt h0 v (mSeq a b σ h).fin := by rw [mSeq_ap, e]; exact k
theorem rangeL_0 {i : Int} : rangeL i 0 = [] := rfl
theorem rangeL_s {i : Int} {n : Nat} : rangeL i (n + 1) = .int i :: rangeL (i + 1) n := by
  unfold rangeL
  rw [List.range_succ_eq_map]
  simp only [List.map_cons, List.map_map]
  refine congr (congrArg _ (by simp)) (List.map_congr_left fun k _ => ?_)
  simp
  omega
end
end MM

set_option Elab.async false
set_option linter.all false
set_option maxRecDepth 100000
namespace MM
open PySem PySem.Spec PyProof.Rows L2
/-! ### texts -/
theorem strOk_of (s : String) : PyData.strOk (Str.ofString s) = true := by
  rw [Str.ofString_eq_toList]
  unfold PyData.strOk
  simp only [List.all_toArray, List.all_map, List.all_eq_true]
  intro c _
  simp only [Function.comp]
  have := c.valid
  have h2 : c.toNat < 0x110000 := by
    rcases this with z | z
    · have : c.toNat < 0xd800 := z; omega
    · exact z.2
  simpa using h2
theorem strOk_app {a b : Str} (ha : PyData.strOk a = true) (hb : PyData.strOk b = true) : PyData.strOk (a ++ b) = true := by
  unfold PyData.strOk at *
  rw [Str.cps_append, Array.all_append, ha, hb]; rfl
theorem opEq_str {a b : Str} {h : MH} (ha : PyData.strOk a = true) (hb : PyData.strOk b = true) : opEq (.str a) (.str b) h = .ok (.bl (a == b)) h := by
  simp [opEq, rd, SeqAt.shaped, PyData.canLay0, PyData.depth, PyData.eqv, ha, hb]
theorem opNe_str {a b : Str} {h : MH} (ha : PyData.strOk a = true) (hb : PyData.strOk b = true) : opNe (.str a) (.str b) h = .ok (.bl (!(a == b))) h := by
  simp [opNe, rd, SeqAt.shaped, PyData.canLay0, PyData.depth, PyData.eqv, ha, hb]
/-- the text of two numbers -/
abbrev twoText (a b : Int) : Str := tupleText [Str.ofString (toString a), Str.ofString (toString b)]
theorem twoText_ok {a b : Int} : PyData.strOk (twoText a b) = true := by
  unfold twoText tupleText Str.join Str.join
  exact strOk_app (strOk_app (strOk_of _) (strOk_app (strOk_app (strOk_of _) (strOk_of _)) (strOk_of _))) (strOk_of _)
theorem twoText_len {a b : Int} (ha : a.natAbs.log2 < 1920) (hb : b.natAbs.log2 < 1920) : (twoText a b).length ≤ sizeLine := by
  have l1 := PySem.int_text_length_le (by decide) ha
  have l2 := PySem.int_text_length_le (by decide) hb
  have e1 : (Str.ofString (toString a)).length = (toString a).length := by rw [Str.ofString_eq_toList]; simp only [Str.length, List.size_toArray, List.length_map]; exact String.length_toList
  have e2 : (Str.ofString (toString b)).length = (toString b).length := by rw [Str.ofString_eq_toList]; simp only [Str.length, List.size_toArray, List.length_map]; exact String.length_toList
  unfold twoText tupleText Str.join Str.join
  rw [Str.length_append, Str.length_append, Str.length_append, Str.length_append, e1, e2]
  have s1 : ("(" : Str).length = 1 := by decide
  have s2 : (", " : Str).length = 2 := by decide
  have s3 : (Str.ofString (if ([Str.ofString (toString a), Str.ofString (toString b)].length == 1) = true then ",)" else ")")).length = 1 := by
    show (Str.ofString ")").length = 1
    decide
  have s4 : 5000 ≤ sizeLine := by decide
  rw [s1, s2, s3]
  omega
theorem fRepr_2 {a b : Int} {h : MH} (ha : a.natAbs.log2 < 1920) (hb : b.natAbs.log2 < 1920) : fRepr [.tup [.int a, .int b]] h = .ok (.str (twoText a b)) h := by
  refine (fRepr_tup (d := .tuple [.int a, .int b]) (by simp [rd, rdAll]) (by simp [PyData.showable, PyData.showableAll, ha, hb]) ?_).trans ?_
  · simp only [PyData.shown, PyData.shownAll]; exact twoText_len ha hb
  · simp only [PyData.shown, PyData.shownAll]
theorem log_lt {i : Int} {k : Nat} (hk : 0 < k) (h : i.natAbs < 2 ^ k) : i.natAbs.log2 < k := by
  by_cases z : i.natAbs = 0
  · rw [z]; simpa using hk
  · exact (Nat.log2_lt z).mpr h
end MM

set_option Elab.async false
set_option linter.all false
set_option maxRecDepth 100000
namespace Law
open PySem PySem.Spec PyProof.Rows L2 MM
set_option maxHeartbeats 4000000
/- is_whole: ['thing'] -/
noncomputable def m_is_whole : Mst := (mRet (mAndV (mUn (fIsi ["int"]) (mVar 0)) (mNotV (mUn (fIsi ["bool"]) (mVar 0)))))
noncomputable def f_is_whole : List PV → MH → Out PV := mDef 1 1 m_is_whole
/- greatest_shared: ['a', 'b', 'rest'] -/
noncomputable def m_greatest_shared : Mst := (mSeq (mWh (mB (mBin opNe (mVar 1) (mC (.int 0)))) (mSeq (mSet 2 (mBin opMod (mVar 0) (mVar 1)))
  (mSeq (mSet 0 (mVar 1))
  (mSet 1 (mVar 2)))))
  (mRet (mVar 0)))
noncomputable def f_greatest_shared : List PV → MH → Out PV := mDef 3 2 m_greatest_shared
/- number_of: ['top', 'bottom', 'shared'] -/
noncomputable def m_number_of : Mst := (mSeq (mIf (mOr (mNot (mB (mCall f_is_whole (mCons (mVar 0) mNil)))) (mNot (mB (mCall f_is_whole (mCons (mVar 1) mNil))))) (mRaise "NoNumber" (mCons (mC (.str "a number is made of two whole numbers")) mNil)) mSkip)
  (mSeq (mIf (mB (mBin opEq (mVar 1) (mC (.int 0)))) (mRaise "NoNumber" (mCons (mC (.str "nothing is told over nought")) mNil)) mSkip)
  (mSeq (mSet 2 (mCall f_greatest_shared (mCons (mCB fAbs (mCons (mVar 0) mNil)) (mCons (mCB fAbs (mCons (mVar 1) mNil)) mNil))))
  (mSeq (mIf (mB (mBin opLt (mVar 1) (mC (.int 0)))) (mSet 2 (mUn opNeg (mVar 2))) mSkip)
  (mRet (mTup (mCons (mBin opFd (mVar 0) (mVar 2)) (mCons (mBin opFd (mVar 1) (mVar 2)) mNil))))))))
noncomputable def f_number_of : List PV → MH → Out PV := mDef 3 2 m_number_of
/- l_pen: ['_law_script', '_law_k', '_law_cell'] -/
noncomputable def m_l_pen : Mst := (mSeq (mSet 2 (mBin opAdd (mBin opMul (mC (.int 7919)) (mVar 1)) (mC (.int 11))))
  (mSeq (mIf (mB (mBin opLt (mVar 1) (mCB fMin (mCons (mCB fLen (mCons (mVar 0) mNil)) (mCons (mC (.int 63)) mNil))))) (mSet 2 (mBin opIx (mVar 0) (mVar 1))) (mIf (mB (mBin opGt (mCB fLen (mCons (mVar 0) mNil)) (mC (.int 0)))) (mSet 2 (mBin opAdd (mBin opMod (mBin opIx (mVar 0) (mBin opMod (mVar 1) (mCB fMin (mCons (mCB fLen (mCons (mVar 0) mNil)) (mCons (mC (.int 63)) mNil))))) (mBin opPow (mC (.int 10)) (mC (.int 15)))) (mBin opMul (mC (.int 48271)) (mVar 1)))) mSkip))
  (mSeq (mIf (mB (mBin opGe (mCB fAbs (mCons (mVar 2) mNil)) (mBin opPow (mC (.int 10)) (mC (.int 18))))) (mRet (mLst (mCons (mC (.int 1)) (mCons (mCB fAbs (mCons (mVar 2) mNil)) (mCons (mC (.int 0)) mNil))))) mSkip)
  (mRet (mLst (mCons (mC (.int 0)) (mCons (mBin opAdd (mBin opMod (mVar 2) (mC (.int 2147483587))) (mBin opMul (mC (.int 40009)) (mVar 1))) (mCons (mC (.int 0)) mNil))))))))
noncomputable def f_l_pen : List PV → MH → Out PV := mDef 3 2 m_l_pen
/- l_draw: ['_law_pen_here', '_law_size', '_law_number', '_law_drawn'] -/
noncomputable def m_l_draw : Mst := (mSeq (mAsg (mBin opAdd (mBin opIx (mVar 0) (mC (.int 2))) (mC (.int 1))) (gSb (mVar 0) (mC (.int 2))))
  (mSeq (mIf (mB (mBin opEq (mBin opIx (mVar 0) (mC (.int 0))) (mC (.int 1)))) (mSeq (mSet 3 (mBin opMod (mBin opIx (mVar 0) (mC (.int 1))) (mVar 1)))
  (mSeq (mAsg (mBin opFd (mBin opIx (mVar 0) (mC (.int 1))) (mVar 1)) (gSb (mVar 0) (mC (.int 1))))
  (mRet (mVar 3)))) mSkip)
  (mSeq (mSet 2 (mBin opMod (mBin opMul (mBin opAdd (mBin opAdd (mBin opIx (mVar 0) (mC (.int 1))) (mBin opMul (mC (.int 40503)) (mBin opIx (mVar 0) (mC (.int 2))))) (mC (.int 1))) (mC (.int 48271))) (mC (.int 2147483647))))
  (mSeq (mSet 2 (mBin opMod (mBin opMul (mVar 2) (mBin opAdd (mBin opAdd (mBin opMod (mVar 2) (mC (.int 65521))) (mBin opIx (mVar 0) (mC (.int 2)))) (mC (.int 3)))) (mC (.int 2147483629))))
  (mRet (mBin opMod (mBin opFd (mBin opMod (mBin opMul (mVar 2) (mBin opAdd (mBin opMod (mVar 2) (mC (.int 8191))) (mC (.int 7)))) (mC (.int 2147483563))) (mC (.int 64))) (mVar 1)))))))
noncomputable def f_l_draw : List PV → MH → Out PV := mDef 4 2 m_l_draw
/- l_lowest: ['_law_top', '_law_bottom', '_law_one', '_law_other'] -/
noncomputable def m_l_lowest : Mst := (mSeq (mPar 2 3 (mCons (mCB fAbs (mCons (mVar 0) mNil)) (mCons (mCB fAbs (mCons (mVar 1) mNil)) mNil)))
  (mSeq (mWh (mB (mBin opGt (mVar 3) (mC (.int 0)))) (mPar 2 3 (mCons (mVar 3) (mCons (mBin opMod (mVar 2) (mVar 3)) mNil))))
  (mSeq (mIf (mB (mBin opLt (mVar 1) (mC (.int 0)))) (mSet 2 (mUn opNeg (mVar 2))) mSkip)
  (mRet (mTup (mCons (mBin opFd (mVar 0) (mVar 2)) (mCons (mBin opFd (mVar 1) (mVar 2)) mNil)))))))
noncomputable def f_l_lowest : List PV → MH → Out PV := mDef 4 2 m_l_lowest
/- l_word: ['_law_caught', '_law_words', '_law_marks', '_law_some'] -/
noncomputable def m_l_word : Mst := (mSeq (mSet 1 (mLst (mCons (mC (.str "NoNumber")) (mCons (mC (.str "NoWeb")) (mCons (mC (.str "NoPlace")) (mCons (mC (.str "NoOrder")) (mCons (mC (.str "NoParting")) (mCons (mC (.str "TooMany")) (mCons (mC (.str "NoSheet")) (mCons (mC (.str "NoPivot")) (mCons (mC (.str "NoRow")) mNil)))))))))))
  (mSeq (mSet 2 (mLst (mCons (mUn (fIsiC ["NoNumber"] ["NoNumber"]) (mVar 0)) (mCons (mUn (fIsiC ["NoNumber"] []) (mVar 0)) (mCons (mUn (fIsiC ["NoNumber"] []) (mVar 0)) mNil)))))
  (mSeq (mSet 2 (mBin opAdd (mVar 2) (mLst (mCons (mUn (fIsiC ["NoNumber"] []) (mVar 0)) (mCons (mUn (fIsiC ["NoNumber"] []) (mVar 0)) (mCons (mUn (fIsiC ["NoNumber"] []) (mVar 0)) mNil))))))
  (mSeq (mSet 2 (mBin opAdd (mVar 2) (mLst (mCons (mUn (fIsiC ["NoNumber"] []) (mVar 0)) (mCons (mUn (fIsiC ["NoNumber"] []) (mVar 0)) (mCons (mUn (fIsiC ["NoNumber"] []) (mVar 0)) mNil))))))
  (mSeq (mSet 3 (mComp 1 [1, 2] (mItR1 (mCons (mC (.int 9)) mNil)) (gNm 0) (mB (mBin opIx (mVar 2) (mVar 0))) (mBin opIx (mVar 1) (mVar 0))))
  (mSeq (mSet 3 (mBin opAdd (mBin opAdd (mVar 3) (mBin opMul (mLst (mCons (mC (.str "NoText")) mNil)) (mCB fInt (mCons (mUn (fIsiC ["NoNumber"] []) (mVar 0)) mNil)))) (mBin opMul (mLst (mCons (mC (.str "NoWord")) mNil)) (mCB fInt (mCons (mUn (fIsiC ["NoNumber"] []) (mVar 0)) mNil)))))
  (mSeq (mIf (mOr (mB (mBin opNe (mCB fLen (mCons (mVar 3) mNil)) (mC (.int 1)))) (mOr (mNot (mB (mUn (fIsiC ["NoNumber"] ["NoNumber"]) (mVar 0)))) (mNot (mB (mUn (fIsiC ["NoNumber"] ["NoNumber"]) (mVar 0)))))) (mRet (mC (.str "other"))) mSkip)
  (mRet (mBin opIx (mVar 3) (mC (.int 0)))))))))))
noncomputable def f_l_word : List PV → MH → Out PV := mDef 4 1 m_l_word
/- l_great: ['_law_pen_here', '_law_most'] -/
noncomputable def m_l_great : Mst := (mSeq (mSet 1 (mBin opIx (mLst (mCons (mC (.int 1)) (mCons (mC (.int 7)) (mCons (mC (.int 100)) (mCons (mBin opPow (mC (.int 10)) (mC (.int 4))) mNil))))) (mCall f_l_draw (mCons (mVar 0) (mCons (mC (.int 4)) mNil)))))
  (mRet (mBin opMul (mBin opSub (mC (.int 1)) (mBin opMul (mC (.int 2)) (mCall f_l_draw (mCons (mVar 0) (mCons (mC (.int 2)) mNil))))) (mCall f_l_draw (mCons (mVar 0) (mCons (mVar 1) mNil))))))
noncomputable def f_l_great : List PV → MH → Out PV := mDef 2 1 m_l_great
/- l_refused: ['_law_top', '_law_caught', 'e'] -/
noncomputable def m_l_refused : Mst := (mSeq (mSet 1 (mC .non))
  (mSeq (mTry ["NoNumber"] 1 2 (mDrop (mCall f_number_of (mCons (mVar 0) (mCons (mC (.int 0)) mNil)))))
  (mRet (mBin opEq (mCall f_l_word (mCons (mVar 1) mNil)) (mC (.str "NoNumber"))))))
noncomputable def f_l_refused : List PV → MH → Out PV := mDef 3 1 m_l_refused
/- law: ['_law_script', '_law_k', '_law_pen_here', '_law_part', '_law_top', '_law_bottom', '_law_found'] -/
noncomputable def m_law : Mst := (mSeq (mFor (mItR1 (mCons (mC (.int 6)) mNil)) (gNm 1) (mSeq (mSet 2 (mCall f_l_pen (mCons (mVar 0) (mCons (mVar 1) mNil))))
  (mSeq (mSet 3 (mBin opAdd (mC (.int 1)) (mCall f_l_draw (mCons (mVar 2) (mCons (mBin opIx (mLst (mCons (mC (.int 1)) (mCons (mC (.int 12)) (mCons (mC (.int 99)) mNil)))) (mCall f_l_draw (mCons (mVar 2) (mCons (mC (.int 3)) mNil)))) mNil)))))
  (mSeq (mSet 4 (mBin opMul (mCall f_l_great (mCons (mVar 2) mNil)) (mVar 3)))
  (mSeq (mSet 5 (mBin opMul (mCall f_l_great (mCons (mVar 2) mNil)) (mVar 3)))
  (mSeq (mIf (mNot (mB (mCall f_l_refused (mCons (mVar 4) mNil)))) (mRet (mC (.bl false))) mSkip)
  (mIf (mB (mBin opNe (mVar 5) (mC (.int 0)))) (mSeq (mSet 6 (mCall f_number_of (mCons (mVar 4) (mCons (mVar 5) mNil))))
  (mSeq (mIf (mOr (mB (mBin opNe (mCB fRepr (mCons (mVar 6) mNil)) (mCB fRepr (mCons (mCall f_l_lowest (mCons (mVar 4) (mCons (mVar 5) mNil))) mNil)))) (mB (mBin opLt (mBin opIx (mVar 6) (mC (.int 1))) (mC (.int 1))))) (mRet (mC (.bl false))) mSkip)
  (mIf (mOr (mB (mBin opNe (mCall f_number_of (mCons (mBin opSub (mC (.int 0)) (mVar 4)) (mCons (mBin opSub (mC (.int 0)) (mVar 5)) mNil))) (mVar 6))) (mB (mBin opNe (mCall f_number_of (mCons (mBin opIx (mVar 6) (mC (.int 0))) (mCons (mBin opIx (mVar 6) (mC (.int 1))) mNil))) (mVar 6)))) (mRet (mC (.bl false))) mSkip))) mSkip)))))))
  (mRet (mAndV (mBin opEq (mCall f_number_of (mCons (mC (.int 0)) (mCons (mUn opNeg (mC (.int 5))) mNil))) (mTup (mCons (mC (.int 0)) (mCons (mC (.int 1)) mNil)))) (mBin opEq (mCall f_number_of (mCons (mC (.int 6)) (mCons (mUn opNeg (mC (.int 4))) mNil))) (mTup (mCons (mUn opNeg (mC (.int 3))) (mCons (mC (.int 2)) mNil)))))))
noncomputable def f_law : List PV → MH → Out PV := mDef 7 1 m_law
end Law

set_option Elab.async false
set_option linter.all false
namespace Law
open PySem L2 MM
/-! ### common divisors -/
theorem gcd_turn {a b : Int} (ha : 0 ≤ a) (hb : 0 ≤ b) : Int.gcd b (a % b) = Int.gcd a b := by
  obtain ⟨m, rfl⟩ := Int.eq_ofNat_of_zero_le ha
  obtain ⟨n, rfl⟩ := Int.eq_ofNat_of_zero_le hb
  show Nat.gcd n (m % n) = Nat.gcd m n
  rw [Nat.gcd_comm m n, Nat.gcd_rec n m, Nat.gcd_comm]
theorem st_wh_gcd {r : PSt} {h : MH} : ∀ (n : Nat) (a b : Int), 0 ≤ a → 0 ≤ b → b.toNat ≤ n → ∀ z, ∃ z', mWh (mB (mBin opNe (mVar 1) (mC (.int 0)))) (mSeq (mSet 2 (mBin opMod (mVar 0) (mVar 1))) (mSeq (mSet 0 (mVar 1)) (mSet 1 (mVar 2)))) [some (.int a), some (.int b), z] h
    = .nx [some (.int (Int.gcd a b)), some (.int 0), z'] h
  | n, a, b, ha, hb, hn, z => by
    rw [mWh_turn]
    by_cases e : b = 0
    · subst e
      refine ⟨z, ?_⟩
      simp
      omega
    · have hb' : 0 < b := by omega
      have hm : a.fmod b = a % b := Int.fmod_eq_emod_of_nonneg a hb
      have h0 := Int.emod_nonneg a e
      have h1 := Int.emod_lt_of_pos a hb'
      cases n with
      | zero => omega
      | succ n =>
        obtain ⟨z', q⟩ := st_wh_gcd (r := r) (h := h) n b (a % b) hb h0 (by omega) (some (.int (a % b)))
        refine ⟨z', ?_⟩
        simp [e, opMod_ii e, hm]
        rw [q]
        rw [gcd_turn ha hb]
theorem gs_spec {a b : Int} {h : MH} (ha : 0 ≤ a) (hb : 0 ≤ b) : f_greatest_shared [.int a, .int b] h = .ok (.int (Int.gcd a b)) h := by
  unfold f_greatest_shared
  refine (mDef_ap rfl).trans ?_
  unfold m_greatest_shared
  obtain ⟨z', q⟩ := st_wh_gcd (r := []) (h := h) b.toNat a b ha hb (Nat.le_refl _) none
  simp only [mStart, List.map_cons, List.map_nil, List.length_cons, List.length_nil, List.replicate, List.cons_append, List.nil_append, mSeq_ap]
  rw [q]
  simp
theorem st_wh_low {a0 b0 : Option PV} {h : MH} : ∀ (n : Nat) (a b : Int), 0 ≤ a → 0 ≤ b → b.toNat ≤ n → mWh (mB (mBin opGt (mVar 3) (mC (.int 0)))) (mPar 2 3 (mCons (mVar 3) (mCons (mBin opMod (mVar 2) (mVar 3)) mNil))) [a0, b0, some (.int a), some (.int b)] h
    = .nx [a0, b0, some (.int (Int.gcd a b)), some (.int 0)] h
  | n, a, b, ha, hb, hn => by
    rw [mWh_turn]
    by_cases e : b = 0
    · subst e
      simp
      omega
    · have hb' : 0 < b := by omega
      have hm : a.fmod b = a % b := Int.fmod_eq_emod_of_nonneg a hb
      have h0 := Int.emod_nonneg a e
      have h1 := Int.emod_lt_of_pos a hb'
      cases n with
      | zero => omega
      | succ n =>
        have q := st_wh_low (a0 := a0) (b0 := b0) (h := h) n b (a % b) hb h0 (by omega)
        simp [hb', opMod_ii e, hm]
        rw [q, gcd_turn ha hb]
/-- top and bottom in lowest terms, bottom from 1 on -/
def lowT (a b : Int) : Int := if b < 0 then -(a / (Int.gcd a b : Int)) else a / (Int.gcd a b : Int)
def lowB (a b : Int) : Int := if b < 0 then -(b / (Int.gcd a b : Int)) else b / (Int.gcd a b : Int)
theorem gcd_le_r {a b : Int} (hb : b ≠ 0) : Int.gcd a b ≤ b.natAbs := Nat.le_of_dvd (by omega) (Int.gcd_dvd_natAbs_right a b)
theorem abs_if (i : Int) : (if i < 0 then -i else i) = (i.natAbs : Int) := by split <;> omega
theorem log2_mono {m n : Nat} (h : m ≤ n) : m.log2 ≤ n.log2 := by
  by_cases hm : m = 0
  · subst hm; simp
  · have hn : n ≠ 0 := by omega
    rw [Nat.le_log2 hn]
    exact Nat.le_trans (Nat.log2_self_le hm) h
theorem fdiv_neg_dvd {a g : Int} (hg : g ∣ a) : a.fdiv (-g) = -(a / g) := by
  obtain ⟨c, rfl⟩ := hg
  by_cases e : g = 0
  · subst e; simp
  · have h1 : g * c / g = c := Int.mul_ediv_cancel_left c e
    rw [h1, show g * c = (-g) * (-c) from (Int.neg_mul_neg g c).symm, Int.mul_fdiv_cancel_left (-c) (by omega)]
theorem low_spec {a b : Int} {h : MH} (hb : b ≠ 0) (hl : b.natAbs.log2 < 9000) : f_l_lowest [.int a, .int b] h = .ok (.tup [.int (lowT a b), .int (lowB a b)]) h := by
  unfold f_l_lowest
  refine (mDef_ap rfl).trans ?_
  unfold m_l_lowest
  have hg0 : 0 < Int.gcd a b := Nat.pos_of_ne_zero (fun z => hb (Int.gcd_eq_zero_iff.mp z).2)
  have hgl : (Int.gcd a b : Int).natAbs.log2 < 9000 := Nat.lt_of_le_of_lt (log2_mono (by simpa using gcd_le_r hb)) hl
  have q := st_wh_low (a0 := some (.int a)) (b0 := some (.int b)) (h := h) (b.natAbs : Int).toNat (a.natAbs : Int) (b.natAbs : Int) (by omega) (by omega) (Nat.le_refl _)
  have eg : Int.gcd (a.natAbs : Int) (b.natAbs : Int) = Int.gcd a b := by simp [Int.gcd]
  rw [eg] at q
  simp only [mStart, List.map_cons, List.map_nil, List.length_cons, List.length_nil, List.replicate, List.cons_append, List.nil_append, mSeq_ap]
  simp [abs_if]
  rw [q]
  have d1 : ((Int.gcd a b : Nat) : Int) ∣ a := Int.gcd_dvd_left a b
  have d2 : ((Int.gcd a b : Nat) : Int) ∣ b := Int.gcd_dvd_right a b
  by_cases hb0 : b < 0
  · simp [hb0, lowT, lowB]
    rw [opFd_ii (by omega) (by simpa using hgl)]
    simp
    rw [opFd_ii (by omega) (by simpa using hgl)]
    simp [fdiv_neg_dvd d1, fdiv_neg_dvd d2]
  · simp [hb0, lowT, lowB]
    rw [opFd_ii (by omega) (by simpa using hgl)]
    simp
    rw [opFd_ii (by omega) (by simpa using hgl)]
    simp [Int.fdiv_eq_ediv_of_nonneg]
theorem lowB_pos {a b : Int} (hb : b ≠ 0) : 1 ≤ lowB a b := by
  have hg0 : 0 < Int.gcd a b := Nat.pos_of_ne_zero (fun z => hb (Int.gcd_eq_zero_iff.mp z).2)
  have d2 : ((Int.gcd a b : Nat) : Int) ∣ b := Int.gcd_dvd_right a b
  obtain ⟨c, hc⟩ := d2
  have hcd : b / ((Int.gcd a b : Nat) : Int) = c := Int.ediv_eq_of_eq_mul_right (by omega) hc
  unfold lowB
  rw [hcd]
  have hc0 : c ≠ 0 := by rintro rfl; simp at hc; exact hb hc
  split
  · rename_i hn
    have : c < 0 := by
      rcases Int.lt_or_le c 0 with z | z
      · exact z
      · have := Int.mul_nonneg (show (0 : Int) ≤ ((Int.gcd a b : Nat) : Int) by omega) z
        omega
    omega
  · rename_i hn
    have : ¬ c < 0 := fun z => by
      have := Int.mul_neg_of_pos_of_neg (show (0 : Int) < ((Int.gcd a b : Nat) : Int) by omega) z
      omega
    omega
theorem low_gcd {a b : Int} (hb : b ≠ 0) : Int.gcd (lowT a b) (lowB a b) = 1 := by
  have hg0 : 0 < Int.gcd a b := Nat.pos_of_ne_zero (fun z => hb (Int.gcd_eq_zero_iff.mp z).2)
  have e : Int.gcd (a / (Int.gcd a b : Int)) (b / (Int.gcd a b : Int)) = 1 := Int.gcd_ediv_gcd_ediv_gcd hg0
  unfold lowT lowB
  split
  · rw [Int.gcd_neg, Int.neg_gcd]; exact e
  · exact e
theorem get_set {h : MH} {p : Nat} {o : MO} (hp : p < h.length) : (h.set p o)[p]? = some o := List.getElem?_set_self hp
theorem ix2 : ixN 3 2 = some 2 := ixN_nat (n := 3) (m := 2) (by decide)
theorem ix1 : ixN 3 1 = some 1 := ixN_nat (n := 3) (m := 1) (by decide)
theorem draw_spec {h : MH} {p : Nat} {m c t size : Int} (e : h[p]? = some (.lst [.int m, .int c, .int t])) (hs : 0 < size) (hl : size.natAbs.log2 < 9000) :
    ∃ d c', 0 ≤ d ∧ d < size ∧ f_l_draw [.loc p, .int size] h = .ok (.int d) (h.set p (.lst [.int m, .int c', .int (t + 1)])) := by
  have hp : p < h.length := (List.getElem?_eq_some_iff.mp e).1
  unfold f_l_draw
  have e2 : (h.set p (.lst [.int m, .int c, .int (t + 1)]))[p]? = some (.lst [.int m, .int c, .int (t + 1)]) := get_set hp
  have hs0 : size ≠ 0 := by omega
  have st : ∀ n : Int, 0 ≤ n.fmod size ∧ n.fmod size < size := fun n => by
    rw [Int.fmod_eq_emod_of_nonneg n (by omega)]
    exact ⟨Int.emod_nonneg n hs0, Int.emod_lt_of_pos n hs⟩
  by_cases hm : m = 1
  · subst hm
    refine ⟨c.fmod size, c.fdiv size, (st c).1, (st c).2, ?_⟩
    refine (mDef_ap rfl).trans ?_
    unfold m_l_draw
    simp [mStart, List.replicate, opIx_loc e, setL_loc e, ix2, opIx_loc e2, opMod_ii hs0, opFd_ii hs0 hl, setL_loc e2, ix1]
  · have big : ∀ n : Int, 0 ≤ n.fmod 2147483647 ∧ n.fmod 2147483647 < 2147483647 := fun n => by
      rw [Int.fmod_eq_emod_of_nonneg n (by omega)]
      exact ⟨Int.emod_nonneg n (by omega), Int.emod_lt_of_pos n (by omega)⟩
    have big2 : ∀ n : Int, 0 ≤ n.fmod 2147483629 ∧ n.fmod 2147483629 < 2147483629 := fun n => by
      rw [Int.fmod_eq_emod_of_nonneg n (by omega)]
      exact ⟨Int.emod_nonneg n (by omega), Int.emod_lt_of_pos n (by omega)⟩
    suffices key : ∃ n : Int, mDef 4 2 m_l_draw [.loc p, .int size] h = .ok (.int (n.fmod size)) (h.set p (.lst [.int m, .int c, .int (t + 1)])) by
      obtain ⟨n, q⟩ := key
      exact ⟨n.fmod size, c, (st n).1, (st n).2, q⟩
    have b1 := big ((c + 40503 * (t + 1) + 1) * 48271)
    have b2 := big2 (((c + 40503 * (t + 1) + 1) * 48271).fmod 2147483647 * ((((c + 40503 * (t + 1) + 1) * 48271).fmod 2147483647).fmod 65521 + (t + 1) + 3))
    have c1 : -(2 ^ 64) < ((c + 40503 * (t + 1) + 1) * 48271).fmod 2147483647 ∧ ((c + 40503 * (t + 1) + 1) * 48271).fmod 2147483647 < 2 ^ 64 := by omega
    have c2 : -(2 ^ 64) < (((c + 40503 * (t + 1) + 1) * 48271).fmod 2147483647 * ((((c + 40503 * (t + 1) + 1) * 48271).fmod 2147483647).fmod 65521 + (t + 1) + 3)).fmod 2147483629 ∧ (((c + 40503 * (t + 1) + 1) * 48271).fmod 2147483647 * ((((c + 40503 * (t + 1) + 1) * 48271).fmod 2147483647).fmod 65521 + (t + 1) + 3)).fmod 2147483629 < 2 ^ 64 := by omega
    have k1 : ∀ {i : Int} {h : MH}, opMul (.int 40503) (.int i) h = .ok (.int (40503 * i)) h := opMul_l (by decide)
    have k2 : ∀ {i : Int} {h : MH}, opMul (.int i) (.int 48271) h = .ok (.int (i * 48271)) h := opMul_r (by decide)
    refine ⟨(((((c + 40503 * (t + 1) + 1) * 48271).fmod 2147483647 * ((((c + 40503 * (t + 1) + 1) * 48271).fmod 2147483647).fmod 65521 + (t + 1) + 3)).fmod 2147483629 * (((((c + 40503 * (t + 1) + 1) * 48271).fmod 2147483647 * ((((c + 40503 * (t + 1) + 1) * 48271).fmod 2147483647).fmod 65521 + (t + 1) + 3)).fmod 2147483629).fmod 8191 + 7)).fmod 2147483563).fdiv 64, ?_⟩
    refine (mDef_ap rfl).trans ?_
    unfold m_l_draw
    simp [mStart, List.replicate, opIx_loc e, setL_loc e, ix2, opIx_loc e2, hm, k1, k2, opMod_ii, opMul_l c1, opMul_l c2, opFd_ii (show (64 : Int) ≠ 0 by decide) (show (64 : Int).natAbs.log2 < 9000 by decide +kernel), opMod_ii hs0]
theorem low_of_low {a b : Int} (hb : 0 < b) (hg : Int.gcd a b = 1) : lowT a b = a ∧ lowB a b = b := by
  unfold lowT lowB
  rw [if_neg (by omega), if_neg (by omega), hg]
  simp
/-! ### the pen -/
def isPen (h : MH) (p : Nat) : Prop := ∃ m c t : Int, h[p]? = some (.lst [.int m, .int c, .int t])
/-- all but the pen stays -/
structure Up (p : Nat) (h h' : MH) : Prop where
  len : h.length ≤ h'.length
  keep : ∀ n : Nat, n < h.length → n ≠ p → h'[n]? = h[n]?
  pen : isPen h' p
theorem Up.trans {p : Nat} {h h1 h2 : MH} (a : Up p h h1) (b : Up p h1 h2) : Up p h h2 :=
  ⟨Nat.le_trans a.len b.len, fun n hn hp => (b.keep n (Nat.lt_of_lt_of_le hn a.len) hp).trans (a.keep n hn hp), b.pen⟩
theorem Up.refl {p : Nat} {h : MH} (a : isPen h p) : Up p h h := ⟨Nat.le_refl _, fun _ _ _ => rfl, a⟩
theorem isPen.lt {p : Nat} {h : MH} (a : isPen h p) : p < h.length := let ⟨_, _, _, e⟩ := a; (List.getElem?_eq_some_iff.mp e).1
theorem Up.app {p : Nat} {h : MH} (a : isPen h p) (g : MH) : Up p h (h ++ g) :=
  ⟨by simp, fun n hn _ => List.getElem?_append_left hn, let ⟨m, c, t, e⟩ := a; ⟨m, c, t, by rw [List.getElem?_append_left a.lt]; exact e⟩⟩
theorem Up.get {p : Nat} {h h' : MH} (u : Up p h h') {n : Nat} {o : MO} (e : h[n]? = some o) (hp : n ≠ p) : h'[n]? = some o := (u.keep n (List.getElem?_eq_some_iff.mp e).1 hp).trans e
theorem draw_up {h : MH} {p : Nat} {size : Int} (a : isPen h p) (hs : 0 < size) (hl : size.natAbs.log2 < 9000) : ∃ d h', 0 ≤ d ∧ d < size ∧ f_l_draw [.loc p, .int size] h = .ok (.int d) h' ∧ Up p h h' := by
  obtain ⟨m, c, t, e⟩ := a
  obtain ⟨d, c', h0, h1, q⟩ := draw_spec e hs hl
  have hp : p < h.length := (List.getElem?_eq_some_iff.mp e).1
  exact ⟨d, _, h0, h1, q, by simp, fun n hn hne => List.getElem?_set_ne (fun z => hne z.symm), m, c', t + 1, get_set hp⟩
theorem atI_map {ns : List Int} {k : Nat} (hk : k < ns.length) : atI (ns.map PV.int) (k : Int) = some (.int ns[k]) := atI_nat (by simp [hk])
theorem pow10_18 {h : MH} : opPow (.int 10) (.int 18) h = .ok (.int (10 ^ 18)) h := opPow_ii (by decide)
theorem pow10_15 {h : MH} : opPow (.int 10) (.int 15) h = .ok (.int (10 ^ 15)) h := opPow_ii (by decide)
theorem pen_spec {h : MH} {ns : List Int} {k : Nat} (hk : k < 64) : ∃ m c : Int, f_l_pen [.frl (ns.map .int), .int k] h = .ok (.loc h.length) (h ++ [.lst [.int m, .int c, .int 0]]) := by
  unfold f_l_pen
  have k1 : ∀ {i : Int} {h : MH}, opMul (.int 7919) (.int i) h = .ok (.int (7919 * i)) h := opMul_l (by decide)
  have k2 : ∀ {i : Int} {h : MH}, opMul (.int 48271) (.int i) h = .ok (.int (48271 * i)) h := opMul_l (by decide)
  have k3 : ∀ {i : Int} {h : MH}, opMul (.int 40009) (.int i) h = .ok (.int (40009 * i)) h := opMul_l (by decide)
  have n3 : ∀ {a b c : PV} {h : MH}, newL [a, b, c] h = .ok (.loc h.length) (h ++ [.lst [a, b, c]]) := newL_small (by simp)
  -- whatever the cell is
  have fin : ∀ cell : Int, ∃ m c : Int, (mSeq (mIf (mB (mBin opGe (mCB fAbs (mCons (mVar 2) mNil)) (mBin opPow (mC (.int 10)) (mC (.int 18))))) (mRet (mLst (mCons (mC (.int 1)) (mCons (mCB fAbs (mCons (mVar 2) mNil)) (mCons (mC (.int 0)) mNil))))) mSkip)
      (mRet (mLst (mCons (mC (.int 0)) (mCons (mBin opAdd (mBin opMod (mVar 2) (mC (.int 2147483587))) (mBin opMul (mC (.int 40009)) (mVar 1))) (mCons (mC (.int 0)) mNil)))))) [some (.frl (ns.map .int)), some (.int k), some (.int cell)] h = .rt (.loc h.length) (h ++ [.lst [.int m, .int c, .int 0]]) := fun cell => by
    by_cases z : (10 : Int) ^ 18 ≤ (if cell < 0 then -cell else cell)
    · exact ⟨1, (if cell < 0 then -cell else cell), by simp [pow10_18, n3, z, -Int.reducePow]⟩
    · exact ⟨0, cell.fmod 2147483587 + 40009 * k, by simp [pow10_18, n3, z, k3, opMod_ii, -Int.reducePow]⟩
  have fin' : ∀ cell : Int, ∃ m c : Int, ((mSeq (mIf (mB (mBin opGe (mCB fAbs (mCons (mVar 2) mNil)) (mBin opPow (mC (.int 10)) (mC (.int 18))))) (mRet (mLst (mCons (mC (.int 1)) (mCons (mCB fAbs (mCons (mVar 2) mNil)) (mCons (mC (.int 0)) mNil))))) mSkip)
      (mRet (mLst (mCons (mC (.int 0)) (mCons (mBin opAdd (mBin opMod (mVar 2) (mC (.int 2147483587))) (mBin opMul (mC (.int 40009)) (mVar 1))) (mCons (mC (.int 0)) mNil)))))) [some (.frl (ns.map .int)), some (.int k), some (.int cell)] h).fin = .ok (.loc h.length) (h ++ [.lst [.int m, .int c, .int 0]]) := fun cell => by
    obtain ⟨m, c, q⟩ := fin cell
    exact ⟨m, c, by rw [q]; rfl⟩
  have lift : ∀ cell : Int, (mSeq (mSet 2 (mBin opAdd (mBin opMul (mC (.int 7919)) (mVar 1)) (mC (.int 11))))
  (mIf (mB (mBin opLt (mVar 1) (mCB fMin (mCons (mCB fLen (mCons (mVar 0) mNil)) (mCons (mC (.int 63)) mNil))))) (mSet 2 (mBin opIx (mVar 0) (mVar 1))) (mIf (mB (mBin opGt (mCB fLen (mCons (mVar 0) mNil)) (mC (.int 0)))) (mSet 2 (mBin opAdd (mBin opMod (mBin opIx (mVar 0) (mBin opMod (mVar 1) (mCB fMin (mCons (mCB fLen (mCons (mVar 0) mNil)) (mCons (mC (.int 63)) mNil))))) (mBin opPow (mC (.int 10)) (mC (.int 15)))) (mBin opMul (mC (.int 48271)) (mVar 1)))) mSkip))) [some (.frl (ns.map .int)), some (.int k), none] h = .nx [some (.frl (ns.map .int)), some (.int k), some (.int cell)] h →
      ∃ m c : Int, mDef 3 2 m_l_pen [.frl (ns.map .int), .int k] h = .ok (.loc h.length) (h ++ [.lst [.int m, .int c, .int 0]]) := fun cell q => by
    obtain ⟨m, c, q2⟩ := fin' cell
    refine ⟨m, c, (mDef_ap rfl).trans ?_⟩
    rw [← q2]
    unfold m_l_pen
    simp only [mSeq_ap] at q ⊢
    have e0 : mStart 3 [PV.frl (ns.map .int), PV.int k] = [some (.frl (ns.map .int)), some (.int k), none] := rfl
    rw [e0]
    generalize (mSet 2 (mBin opAdd (mBin opMul (mC (.int 7919)) (mVar 1)) (mC (.int 11)))) [some (.frl (ns.map .int)), some (.int k), none] h = o1 at q ⊢
    cases o1 with
    | nx σ1 h1 =>
      simp only [then_nx, mSeq_ap] at q ⊢
      rw [q]
      rfl
    | _ => cases q
  have hlim : ∃ lim : Nat, (if (63 : Int) < (ns.length : Int) then (63 : Int) else (ns.length : Int)) = (lim : Int) ∧ lim ≤ ns.length ∧ (0 < ns.length → 0 < lim) := by
    by_cases z : (63 : Int) < (ns.length : Int)
    · exact ⟨63, by rw [if_pos z]; rfl, by omega, by omega⟩
    · exact ⟨ns.length, by rw [if_neg z], by omega, by omega⟩
  obtain ⟨lim, el, hl1, hl2⟩ := hlim
  by_cases h1 : k < lim
  · refine lift (ns[k]'(by omega)) ?_
    simp [k1, el, h1, atI_map (show k < ns.length by omega)]
  · by_cases h0 : 0 < ns.length
    · have hm0 : (lim : Int) ≠ 0 := by have := hl2 h0; omega
      have hj : k % lim < ns.length := Nat.lt_of_lt_of_le (Nat.mod_lt _ (hl2 h0)) hl1
      have ej : (k : Int).fmod (lim : Int) = ((k % lim : Nat) : Int) := by rw [Int.fmod_eq_emod_of_nonneg _ (by omega)]; rfl
      refine lift ((ns[k % lim]'hj).fmod (10 ^ 15) + 48271 * k) ?_
      have p0 : ((10 : Int) ^ 15) ≠ 0 := by decide
      have a1 := atI_map hj
      rw [Int.natCast_emod] at a1
      simp [k1, el, h1, h0, opMod_ii hm0, ej, a1, pow10_15, opMod_ii p0, k2, -Int.reducePow]
    · have h0' : ns = [] := List.length_eq_zero_iff.mp (by omega)
      refine lift (7919 * k + 11) ?_
      have z : ¬ ((k : Int) < (lim : Int)) := by omega
      simp [k1, el, z, h0]
end Law

set_option Elab.async false
set_option linter.all false
namespace Law
open PySem L2 MM
theorem log_small {i : Int} (h : i.natAbs < 2 ^ 40) : i.natAbs.log2 < 9000 := by
  by_cases z : i.natAbs = 0
  · rw [z]; decide
  · have := (Nat.log2_lt z).mpr h
    omega
theorem isWhole_i {a : Int} {h : MH} : f_is_whole [.int a] h = .ok (.bl true) h := by
  unfold f_is_whole
  refine (mDef_ap (ps := [.int a]) rfl).trans ?_
  unfold m_is_whole
  simp [mStart, fIsi, tyP, isaT]
theorem numberOf_spec {a b : Int} {h : MH} (hb : b ≠ 0) (hl : b.natAbs.log2 < 9000) : f_number_of [.int a, .int b] h = .ok (.tup [.int (lowT a b), .int (lowB a b)]) h := by
  unfold f_number_of
  refine (mDef_ap rfl).trans ?_
  unfold m_number_of
  have hg0 : 0 < Int.gcd a b := Nat.pos_of_ne_zero (fun z => hb (Int.gcd_eq_zero_iff.mp z).2)
  have hgl : (Int.gcd a b : Int).natAbs.log2 < 9000 := Nat.lt_of_le_of_lt (log2_mono (by simpa using gcd_le_r hb)) hl
  have q := gs_spec (a := (a.natAbs : Int)) (b := (b.natAbs : Int)) (h := h) (by omega) (by omega)
  have eg : Int.gcd (a.natAbs : Int) (b.natAbs : Int) = Int.gcd a b := by simp [Int.gcd]
  rw [eg] at q
  have d1 : ((Int.gcd a b : Nat) : Int) ∣ a := Int.gcd_dvd_left a b
  have d2 : ((Int.gcd a b : Nat) : Int) ∣ b := Int.gcd_dvd_right a b
  simp [mStart, isWhole_i, hb, abs_if]
  rw [q]
  by_cases hb0 : b < 0
  · simp [hb0, lowT, lowB]
    rw [opFd_ii (by omega) (by simpa using hgl)]
    simp
    rw [opFd_ii (by omega) (by simpa using hgl)]
    simp [fdiv_neg_dvd d1, fdiv_neg_dvd d2]
  · simp [hb0, lowT, lowB]
    rw [opFd_ii (by omega) (by simpa using hgl)]
    simp
    rw [opFd_ii (by omega) (by simpa using hgl)]
    simp [Int.fdiv_eq_ediv_of_nonneg]
theorem numberOf_0 {a : Int} {h : MH} : f_number_of [.int a, .int 0] h = .exc ⟨"NoNumber", []⟩ h := by
  unfold f_number_of
  refine (mDef_ap (ps := [.int a, .int 0]) rfl).trans ?_
  unfold m_number_of
  simp [mStart, isWhole_i, size_1]
theorem ediv_abs_le (a : Int) (g : Nat) : (a / (g : Int)).natAbs ≤ a.natAbs := by
  rcases Nat.eq_zero_or_pos g with z | z
  · subst z; simp
  · have := Int.natAbs_ediv_le_natAbs a (g : Int)
    omega
theorem lowT_le {a b : Int} : (lowT a b).natAbs ≤ a.natAbs := by
  have := ediv_abs_le a (Int.gcd a b)
  unfold lowT; split <;> omega
theorem lowB_le {a b : Int} : (lowB a b).natAbs ≤ b.natAbs := by
  have := ediv_abs_le b (Int.gcd a b)
  unfold lowB; split <;> omega
theorem opEq_t2 {a b c d : Int} {h : MH} : opEq (.tup [.int a, .int b]) (.tup [.int c, .int d]) h = .ok (.bl (decide (a = c ∧ b = d))) h := by
  simp [opEq, rd, rdAll, SeqAt.shaped, PyData.canLay0, PyData.canLayAll0, PyData.depth, PyData.depthAll, PyData.eqv, PyData.eqvAll, Bool.beq_eq_decide_eq]
theorem opNe_t2 {a b c d : Int} {h : MH} : opNe (.tup [.int a, .int b]) (.tup [.int c, .int d]) h = .ok (.bl (!decide (a = c ∧ b = d))) h := by
  simp [opNe, rd, rdAll, SeqAt.shaped, PyData.canLay0, PyData.canLayAll0, PyData.depth, PyData.depthAll, PyData.eqv, PyData.eqvAll, Bool.beq_eq_decide_eq]
end Law

set_option Elab.async false
set_option linter.all false
namespace Law
open PySem L2 MM
abbrev wds : List PV := [.str "NoNumber", .str "NoWeb", .str "NoPlace", .str "NoOrder", .str "NoParting", .str "TooMany", .str "NoSheet", .str "NoPivot", .str "NoRow"]
abbrev mks : List PV := [.bl true, .bl false, .bl false, .bl false, .bl false, .bl false, .bl false, .bl false, .bl false]
theorem word_comp {h : MH} {g : MH} {hw : g[0]? = some (.lst wds)} {k : Nat} (hm : g[k]? = some (.lst mks)) {v : PV} {o : Option PV} :
    (mComp 1 [1, 2] (mItR1 (mCons (mC (.int 9)) mNil)) (gNm 0) (mB (mBin opIx (mVar 2) (mVar 0))) (mBin opIx (mVar 1) (mVar 0))) [some v, some (.loc h.length), some (.loc (h.length + k)), o] (h ++ g) = .ok (.loc (h.length + g.length)) (h ++ (g ++ [.lst [.str "NoNumber"]])) := by
  have e9 : (9 : Int).toNat = 8 + 1 := rfl
  have E1 : ∀ g' : MH, (h ++ (g ++ g'))[h.length]? = some (.lst wds) := fun g' => by
    have := app_r (h := h) (g := g ++ g') (k := 0)
    rw [Nat.add_zero] at this
    rw [this]; exact app_l hw
  have E2 : ∀ g' : MH, (h ++ (g ++ g'))[h.length + k]? = some (.lst mks) := fun g' => by rw [app_r]; exact app_l hm
  have E3 : ∀ (o : MO), (h ++ (g ++ [o]))[h.length + g.length]? = some o := fun o => by rw [app_r]; simp
  simp only [mComp_ap, mItR1_ap, mCons_ap, mC_ap, mNil_ap, Out.bind_ok]
  rw [if_pos (by omega)]
  simp only [Out.bind_ok, List.length_append, List.append_assoc]
  have st : ∀ (x : Int) (xs : List PV) (s0 : Option PV) (b : Bool) (w : PV) (ys : List PV) (R : Out Unit), ys.length < 1000 → atI mks x = some (.bl b) → atI wds x = some w →
      cGo ⟨rangeL 0 9, none⟩ (h.length + g.length) (gNm 0) (mB (mBin opIx (mVar 2) (mVar 0))) (mBin opIx (mVar 1) (mVar 0)) xs [some (.int x), some (.loc h.length), some (.loc (h.length + k))] (h ++ (g ++ [.lst (if b then ys ++ [w] else ys)])) = R →
      cGo ⟨rangeL 0 9, none⟩ (h.length + g.length) (gNm 0) (mB (mBin opIx (mVar 2) (mVar 0))) (mBin opIx (mVar 1) (mVar 0)) (.int x :: xs) [s0, some (.loc h.length), some (.loc (h.length + k))] (h ++ (g ++ [.lst ys])) = R := by
    intro x xs s0 b w ys R hl h1 h2 k
    cases b with
    | true =>
      refine (cGo_yes (σ1 := [some (.int x), some (.loc h.length), some (.loc (h.length + _))]) (h1 := h ++ (g ++ [.lst ys])) (h2 := h ++ (g ++ [.lst ys])) (h3 := h ++ (g ++ [.lst ys])) (v := w) (ys := ys) (by trivial) rfl (by simp only [mB_ap, mBin_ap, mVar_s, mVar_0, Out.bind_ok, opIx_locM, E2, h1, ofO_some, Out.ne_ok]) (by simp only [mB_ap, mBin_ap, mVar_s, mVar_0, Out.bind_ok, opIx_locM, E1, h2, ofO_some, Out.ne_ok]) (E3 _) hl).trans ?_
      rw [set_app, List.set_append_right _ _ (Nat.le_refl _)]
      simpa using k
    | false =>
      refine (cGo_no (σ1 := [some (.int x), some (.loc h.length), some (.loc (h.length + _))]) (h1 := h ++ (g ++ [.lst ys])) (h2 := h ++ (g ++ [.lst ys])) (by trivial) rfl (by simp only [mB_ap, mBin_ap, mVar_s, mVar_0, Out.bind_ok, opIx_locM, E2, h1, ofO_some, Out.ne_ok])).trans ?_
      exact k
  have run : cGo ⟨rangeL 0 9, none⟩ (h.length + g.length) (gNm 0) (mB (mBin opIx (mVar 2) (mVar 0))) (mBin opIx (mVar 1) (mVar 0)) (rangeL 0 9) [none, some (.loc h.length), some (.loc (h.length + k))] (h ++ (g ++ [.lst []])) = .ok () (h ++ (g ++ [.lst [.str "NoNumber"]])) := by
    simp only [show (9 : Nat) = 8 + 1 from rfl, rangeL_s, rangeL_0]
    refine st _ _ _ true _ _ _ (by decide) rfl rfl ?_
    refine st _ _ _ false _ _ _ (by decide) rfl rfl ?_
    refine st _ _ _ false _ _ _ (by decide) rfl rfl ?_
    refine st _ _ _ false _ _ _ (by decide) rfl rfl ?_
    refine st _ _ _ false _ _ _ (by decide) rfl rfl ?_
    refine st _ _ _ false _ _ _ (by decide) rfl rfl ?_
    refine st _ _ _ false _ _ _ (by decide) rfl rfl ?_
    refine st _ _ _ false _ _ _ (by decide) rfl rfl ?_
    refine st _ _ _ false _ _ _ (by decide) rfl rfl ?_
    exact cGo_nil (by trivial)
  refine (congrArg (fun o : Out Unit => o.bind fun _ h3 => Out.ok (PV.loc (h.length + g.length)) h3) run).trans rfl
theorem word_spec {h : MH} {n : Nat} (e : h[n]? = some (.exc ⟨"NoNumber", []⟩)) : OkExt h (.str "NoNumber") (f_l_word [.loc n] h) := by
  have E : ∀ g : MH, (h ++ g)[n]? = some (.exc ⟨"NoNumber", []⟩) := fun g => app_l e
  have I1 : ∀ g : MH, fIsiC ["NoNumber"] ["NoNumber"] (.loc n) (h ++ g) = .ok (.bl true) (h ++ g) := fun g => fIsiC_exc (E g) (by decide)
  have I0 : ∀ g : MH, fIsiC ["NoNumber"] [] (.loc n) (h ++ g) = .ok (.bl false) (h ++ g) := fun g => fIsiC_exc (E g) (by decide)
  unfold f_l_word
  have H : OkExt h (.str "NoNumber") (m_l_word (mStart 4 [.loc n]) (h ++ [])).fin → OkExt h (.str "NoNumber") (mDef 4 1 m_l_word [.loc n] h) := fun z => by
    rw [mDef_ap (np := 1) (ps := [.loc n]) rfl]
    simpa using z
  refine H ?_
  unfold m_l_word
  have e0 : mStart 4 [PV.loc n] = [some (.loc n), none, none, none] := rfl
  rw [e0]
  refine ext_step (σ' := [some (.loc n), some (.loc h.length), none, none]) (h' := h ++ [.lst wds]) (by simp [-List.append_nil, newL_app]) ?_
  refine ext_step (σ' := [some (.loc n), some (.loc h.length), some (.loc (h.length + 1)), none]) (h' := h ++ [.lst wds, .lst [.bl true, .bl false, .bl false]]) (by simp [newL_app, I1, I0]) ?_
  refine ext_step (σ' := [some (.loc n), some (.loc h.length), some (.loc (h.length + 3)), none]) (h' := h ++ [.lst wds, .lst [.bl true, .bl false, .bl false], .lst [.bl false, .bl false, .bl false], .lst [.bl true, .bl false, .bl false, .bl false, .bl false, .bl false]])
    (by simp [newL_app, I1, I0, opAdd_llM, app_r]) ?_
  refine ext_step (σ' := [some (.loc n), some (.loc h.length), some (.loc (h.length + 5)), none]) (h' := h ++ [.lst wds, .lst [.bl true, .bl false, .bl false], .lst [.bl false, .bl false, .bl false], .lst [.bl true, .bl false, .bl false, .bl false, .bl false, .bl false], .lst [.bl false, .bl false, .bl false], .lst mks])
    (by simp [newL_app, I1, I0, opAdd_llM, app_r]) ?_
  generalize hg : [MO.lst wds, .lst [.bl true, .bl false, .bl false], .lst [.bl false, .bl false, .bl false], .lst [.bl true, .bl false, .bl false, .bl false, .bl false, .bl false], .lst [.bl false, .bl false, .bl false], .lst mks] = g
  refine ext_step (σ' := [some (.loc n), some (.loc h.length), some (.loc (h.length + 5)), some (.loc (h.length + g.length))]) (h' := h ++ (g ++ [.lst [.str "NoNumber"]])) (by
    rw [mSet_ap, word_comp (hw := by rw [← hg]; rfl) (hm := by rw [← hg]; rfl)]; simp) ?_
  subst hg
  refine ext_step (σ' := [some (.loc n), some (.loc h.length), some (.loc (h.length + 5)), some (.loc (h.length + 12))]) (h' := h ++ [.lst wds, .lst [.bl true, .bl false, .bl false], .lst [.bl false, .bl false, .bl false], .lst [.bl true, .bl false, .bl false, .bl false, .bl false, .bl false], .lst [.bl false, .bl false, .bl false], .lst mks, .lst [.str "NoNumber"], .lst [.str "NoText"], .lst [], .lst [.str "NoNumber"], .lst [.str "NoWord"], .lst [], .lst [.str "NoNumber"]])
    (by simp [newL_app, I0, opAdd_llM, app_r, opMul_lM]) ?_
  refine ext_step (σ' := [some (.loc n), some (.loc h.length), some (.loc (h.length + 5)), some (.loc (h.length + 12))]) (h' := h ++ [.lst wds, .lst [.bl true, .bl false, .bl false], .lst [.bl false, .bl false, .bl false], .lst [.bl true, .bl false, .bl false, .bl false, .bl false, .bl false], .lst [.bl false, .bl false, .bl false], .lst mks, .lst [.str "NoNumber"], .lst [.str "NoText"], .lst [], .lst [.str "NoNumber"], .lst [.str "NoWord"], .lst [], .lst [.str "NoNumber"]])
    (by simp [fLen_locM, app_r, I1]) ?_
  exact ⟨_, by simp [opIx_locM, app_r]; rfl⟩
theorem refused_spec {h : MH} {a : Int} : OkExt h (.bl true) (f_l_refused [.int a] h) := by
  unfold f_l_refused
  obtain ⟨g, q⟩ := word_spec (h := h ++ [.exc ⟨"NoNumber", []⟩]) (n := h.length) (by simp)
  refine ⟨[.exc ⟨"NoNumber", []⟩] ++ g, (mDef_ap (ps := [.int a]) rfl).trans ?_⟩
  unfold m_l_refused
  simp [mStart, numberOf_0, caught_exc]
  rw [q]
  simp [opEq_str (a := "NoNumber") (b := "NoNumber") (strOk_of _) (strOk_of _)]
end Law

set_option Elab.async false
set_option linter.all false
namespace Law
open PySem L2 MM
theorem pow10_4 {h : MH} : opPow (.int 10) (.int 4) h = .ok (.int 10000) h := opPow_ii (by decide)
theorem newL_3 {a b c : PV} {h : MH} : newL [a, b, c] h = .ok (.loc h.length) (h ++ [.lst [a, b, c]]) := newL_small (by simp)
theorem newL_4 {a b c d : PV} {h : MH} : newL [a, b, c, d] h = .ok (.loc h.length) (h ++ [.lst [a, b, c, d]]) := newL_small (by simp)
theorem great_spec {h : MH} {p : Nat} (a : isPen h p) : ∃ v h', v.natAbs < 10000 ∧ f_l_great [.loc p] h = .ok (.int v) h' ∧ Up p h h' := by
  have k1 : ∀ {i : Int} {h : MH}, opMul (.int 2) (.int i) h = .ok (.int (2 * i)) h := opMul_l (by decide)
  have u0 := Up.app a [.lst [.int 1, .int 7, .int 100, .int 10000]]
  have hp := a.lt
  obtain ⟨d, h1, d0, d1, q1, u1⟩ := draw_up (size := 4) u0.pen (by decide) (by decide)
  have e1 : h1[h.length]? = some (.lst [.int 1, .int 7, .int 100, .int 10000]) := u1.get (by simp) (by omega)
  obtain ⟨z, hz, z0, z1⟩ : ∃ z : Int, atI [PV.int 1, .int 7, .int 100, .int 10000] d = some (.int z) ∧ 0 < z ∧ z ≤ 10000 := by
    have : d = 0 ∨ d = 1 ∨ d = 2 ∨ d = 3 := by omega
    rcases this with r | r | r | r <;> rw [r]
    · exact ⟨1, by simp, by decide, by decide⟩
    · exact ⟨7, by simp, by decide, by decide⟩
    · exact ⟨100, by simp, by decide, by decide⟩
    · exact ⟨10000, by simp, by decide, by decide⟩
  obtain ⟨s, h2, s0, s1, q2, u2⟩ := draw_up (size := 2) u1.pen (by decide) (by decide)
  obtain ⟨t, h3, t0, t1, q3, u3⟩ := draw_up (size := z) u2.pen z0 (log_small (by omega))
  have m1 : opMul (.int (1 - 2 * s)) (.int t) h3 = .ok (.int ((1 - 2 * s) * t)) h3 := opMul_l (by omega)
  refine ⟨(1 - 2 * s) * t, h3, ?_, ?_, u0.trans (u1.trans (u2.trans u3))⟩
  · have : s = 0 ∨ s = 1 := by omega
    rcases this with r | r <;> subst r <;> simp <;> omega
  · unfold f_l_great
    refine (mDef_ap (ps := [.loc p]) rfl).trans ?_
    unfold m_l_great
    simp [mStart, pow10_4, newL_4, q1, opIx_loc e1, hz, q2, q3, k1, m1]
noncomputable abbrev lawBody : Mst := (mSeq (mSet 2 (mCall f_l_pen (mCons (mVar 0) (mCons (mVar 1) mNil))))
  (mSeq (mSet 3 (mBin opAdd (mC (.int 1)) (mCall f_l_draw (mCons (mVar 2) (mCons (mBin opIx (mLst (mCons (mC (.int 1)) (mCons (mC (.int 12)) (mCons (mC (.int 99)) mNil)))) (mCall f_l_draw (mCons (mVar 2) (mCons (mC (.int 3)) mNil)))) mNil)))))
  (mSeq (mSet 4 (mBin opMul (mCall f_l_great (mCons (mVar 2) mNil)) (mVar 3)))
  (mSeq (mSet 5 (mBin opMul (mCall f_l_great (mCons (mVar 2) mNil)) (mVar 3)))
  (mSeq (mIf (mNot (mB (mCall f_l_refused (mCons (mVar 4) mNil)))) (mRet (mC (.bl false))) mSkip)
  (mIf (mB (mBin opNe (mVar 5) (mC (.int 0)))) (mSeq (mSet 6 (mCall f_number_of (mCons (mVar 4) (mCons (mVar 5) mNil))))
  (mSeq (mIf (mOr (mB (mBin opNe (mCB fRepr (mCons (mVar 6) mNil)) (mCB fRepr (mCons (mCall f_l_lowest (mCons (mVar 4) (mCons (mVar 5) mNil))) mNil)))) (mB (mBin opLt (mBin opIx (mVar 6) (mC (.int 1))) (mC (.int 1))))) (mRet (mC (.bl false))) mSkip)
  (mIf (mOr (mB (mBin opNe (mCall f_number_of (mCons (mBin opSub (mC (.int 0)) (mVar 4)) (mCons (mBin opSub (mC (.int 0)) (mVar 5)) mNil))) (mVar 6))) (mB (mBin opNe (mCall f_number_of (mCons (mBin opIx (mVar 6) (mC (.int 0))) (mCons (mBin opIx (mVar 6) (mC (.int 1))) mNil))) (mVar 6)))) (mRet (mC (.bl false))) mSkip))) mSkip))))))
/-- the other sign above and below -/
theorem low_neg {a b : Int} (hb : b ≠ 0) : lowT (-a) (-b) = lowT a b ∧ lowB (-a) (-b) = lowB a b := by
  have d1 : ((Int.gcd a b : Nat) : Int) ∣ a := Int.gcd_dvd_left a b
  have d2 : ((Int.gcd a b : Nat) : Int) ∣ b := Int.gcd_dvd_right a b
  have eg : Int.gcd (-a) (-b) = Int.gcd a b := by rw [Int.gcd_neg, Int.neg_gcd]
  unfold lowT lowB
  rw [eg, Int.neg_ediv_of_dvd d1, Int.neg_ediv_of_dvd d2]
  by_cases h : b < 0
  · rw [if_pos h, if_pos h, if_neg (by omega), if_neg (by omega)]; exact ⟨rfl, rfl⟩
  · rw [if_neg h, if_neg h, if_pos (by omega), if_pos (by omega)]; simp
theorem body_spec {ns : List Int} {k : Nat} (hk : k < 64) {o2 o3 o4 o5 o6 : Option PV} {h : MH} : ∃ q2 q3 q4 q5 q6 h', lawBody [some (.frl (ns.map .int)), some (.int k), o2, o3, o4, o5, o6] h = .nx [some (.frl (ns.map .int)), some (.int k), q2, q3, q4, q5, q6] h' := by
  obtain ⟨m, c, q0⟩ := pen_spec (h := h) (ns := ns) hk
  have a0 : isPen (h ++ [.lst [.int m, .int c, .int 0]]) h.length := ⟨m, c, 0, by simp⟩
  generalize (h ++ [MO.lst [.int m, .int c, .int 0]]) = h0 at q0 a0
  generalize h.length = p at q0 a0
  have u1 := Up.app a0 [.lst [.int 1, .int 12, .int 99]]
  have hp := a0.lt
  obtain ⟨d, h2, d0, d1, q2, u2⟩ := draw_up (size := 3) u1.pen (by decide) (by decide)
  have e2 : h2[h0.length]? = some (.lst [.int 1, .int 12, .int 99]) := u2.get (by simp) (by omega)
  obtain ⟨z, hz, z0, z1⟩ : ∃ z : Int, atI [PV.int 1, .int 12, .int 99] d = some (.int z) ∧ 0 < z ∧ z ≤ 99 := by
    have : d = 0 ∨ d = 1 ∨ d = 2 := by omega
    rcases this with r | r | r <;> rw [r]
    · exact ⟨1, by simp, by decide, by decide⟩
    · exact ⟨12, by simp, by decide, by decide⟩
    · exact ⟨99, by simp, by decide, by decide⟩
  obtain ⟨t, h3, t0, t1, q3, u3⟩ := draw_up (size := z) u2.pen z0 (log_small (by omega))
  obtain ⟨x, h4, x1, q4, u4⟩ := great_spec u3.pen
  obtain ⟨y, h5, y1, q5, u5⟩ := great_spec u4.pen
  have m4 : opMul (.int x) (.int (1 + t)) h4 = .ok (.int (x * (1 + t))) h4 := opMul_l (by omega)
  have m5 : opMul (.int y) (.int (1 + t)) h5 = .ok (.int (y * (1 + t))) h5 := opMul_l (by omega)
  have bx : (x * (1 + t)).natAbs < 2 ^ 30 := by
    rw [Int.natAbs_mul]
    have : x.natAbs * (1 + t).natAbs ≤ 10000 * 100 := Nat.mul_le_mul (by omega) (by omega)
    omega
  have bY : (y * (1 + t)).natAbs < 2 ^ 30 := by
    rw [Int.natAbs_mul]
    have : y.natAbs * (1 + t).natAbs ≤ 10000 * 100 := Nat.mul_le_mul (by omega) (by omega)
    omega
  generalize x * (1 + t) = a at m4 bx
  generalize y * (1 + t) = b at m5 bY
  obtain ⟨g, q6⟩ := refused_spec (h := h5) (a := a)
  by_cases hb : b = 0
  · subst hb
    refine ⟨some (.loc p), some (.int (1 + t)), some (.int a), some (.int 0), o6, h5 ++ g, ?_⟩
    simp [q0, newL_3, q2, opIx_loc e2, hz, q3, q4, m4, q5, m5, q6]
  · have n1 := numberOf_spec (a := a) (b := b) (h := h5 ++ g) hb (log_small (by omega))
    have n2 := low_spec (a := a) (b := b) (h := h5 ++ g) hb (log_small (by omega))
    have n3 := numberOf_spec (a := -a) (b := -b) (h := h5 ++ g) (by omega) (log_small (by omega))
    rw [(low_neg hb).1, (low_neg hb).2] at n3
    have hT := lowT_le (a := a) (b := b)
    have hB := lowB_le (a := a) (b := b)
    have hP := lowB_pos (a := a) hb
    have hG := low_gcd (a := a) hb
    have n4 := numberOf_spec (a := lowT a b) (b := lowB a b) (h := h5 ++ g) (by omega) (log_small (by omega))
    rw [(low_of_low (by omega) hG).1, (low_of_low (by omega) hG).2] at n4
    have r1 := fRepr_2 (a := lowT a b) (b := lowB a b) (h := h5 ++ g) (Nat.lt_trans (log_lt (k := 40) (by decide) (by omega)) (by decide)) (Nat.lt_trans (log_lt (k := 40) (by decide) (by omega)) (by decide))
    refine ⟨some (.loc p), some (.int (1 + t)), some (.int a), some (.int b), some (.tup [.int (lowT a b), .int (lowB a b)]), h5 ++ g, ?_⟩
    have hP' : ¬ lowB a b < 1 := by omega
    simp [q0, newL_3, q2, opIx_loc e2, hz, q3, q4, m4, q5, m5, q6, hb, n1, n2, r1, opNe_str twoText_ok twoText_ok, hP', n3, n4, opNe_t2]
theorem law_true : ∀ ns : List Int, ns.length ≤ 63 → ∃ h', f_law [.frl (ns.map .int)] [] = .ok (.bl true) h' := fun ns _ => by
  unfold f_law
  obtain ⟨σ', h', e, q2, q3, q4, q5, q6, o, rfl⟩ := mGo_inv (it := ⟨rangeL 0 6, none⟩) (i := 1) (b := lawBody) (fun _ σ h => ∃ q2 q3 q4 q5 q6 o, σ = [some (.frl (ns.map .int)), o, q2, q3, q4, q5, q6]) (rangeL 0 6) 0 [some (.frl (ns.map .int)), none, none, none, none, none, none] [] ⟨_, _, _, _, _, _, rfl⟩ (fun _ _ _ _ => by trivial) (fun _ _ _ _ _ _ => trivial)
    (fun m σ h x ⟨q2, q3, q4, q5, q6, o, e⟩ hx => by
      subst e
      obtain ⟨k, hk, rfl⟩ : ∃ k : Nat, k < 64 ∧ x = .int k := by
        unfold rangeL at hx
        rw [List.getElem?_map] at hx
        cases z : (List.range 6)[m]? with
        | none => rw [z] at hx; cases hx
        | some k =>
          rw [z] at hx
          have := List.mem_of_getElem? z
          rw [List.mem_range] at this
          exact ⟨k, by omega, by simpa using hx.symm⟩
      obtain ⟨r2, r3, r4, r5, r6, h', e⟩ := body_spec (ns := ns) hk (o2 := q2) (o3 := q3) (o4 := q4) (o5 := q5) (o6 := q6) (h := h)
      exact ⟨_, h', .inl e, r2, r3, r4, r5, r6, some (.int k), rfl⟩)
  refine ⟨h', (mDef_ap (ps := [.frl (ns.map .int)]) rfl).trans ?_⟩
  unfold m_law
  have n1 := numberOf_spec (a := 0) (b := -5) (h := h') (by decide) (by decide +kernel)
  have n2 := numberOf_spec (a := 6) (b := -4) (h := h') (by decide) (by decide +kernel)
  have t1 : lowT 0 (-5) = 0 := by decide
  have t2 : lowB 0 (-5) = 1 := by decide
  have t3 : lowT 6 (-4) = -3 := by decide
  have t4 : lowB 6 (-4) = 2 := by decide
  rw [t1, t2] at n1
  rw [t3, t4] at n2
  refine fin_step (σ' := [some (.frl (ns.map .int)), o, q2, q3, q4, q5, q6]) (h' := h') ?_ ?_
  · have e6 : (6 : Int).toNat = 6 := rfl
    simp only [mFor_ap, mItR1_ap, mCons_ap, mC_ap, mNil_ap, Out.bind_ok]
    rw [if_pos (by omega)]
    exact e
  · simp [n1, n2, opEq_t2]
end Law

set_option Elab.async false
set_option linter.all false
set_option maxRecDepth 100000
namespace Law
open PySem PySem.Spec PyProof.Rows L2 MM
set_option maxHeartbeats 4000000
def top (i : Nat) : Stmt := PySem.Challenge.pw_fewfills_k01_numbers_made.main.body.getD i (.Pass ⟨0, 0, 0, 0⟩)
structure Cl (K : PySem.W.Frag) (mg : MGl) : Prop where
  r_NoNumber : ∃ C, ExcK K mg "NoNumber" C
  t_FillError : ∃ D, ExcK K mg "FillError" D ∧ ∀ x ∈ (["NoNumber"] : List Str), ∃ C, ExcK K mg x C ∧ PySem.W.mroIn K C (.ref D) = some true
  i_FillError : ∃ D, mg "FillError" = some (.ref D) ∧ IsiC K mg (.ref D) ["NoNumber"] ["NoNumber"]
  i_NoNumber : ∃ D, mg "NoNumber" = some (.ref D) ∧ IsiC K mg (.ref D) ["NoNumber"] ["NoNumber"]
  i_NoOrder : ∃ D, mg "NoOrder" = some (.ref D) ∧ IsiC K mg (.ref D) ["NoNumber"] []
  i_NoParting : ∃ D, mg "NoParting" = some (.ref D) ∧ IsiC K mg (.ref D) ["NoNumber"] []
  i_NoPivot : ∃ D, mg "NoPivot" = some (.ref D) ∧ IsiC K mg (.ref D) ["NoNumber"] []
  i_NoPlace : ∃ D, mg "NoPlace" = some (.ref D) ∧ IsiC K mg (.ref D) ["NoNumber"] []
  i_NoRow : ∃ D, mg "NoRow" = some (.ref D) ∧ IsiC K mg (.ref D) ["NoNumber"] []
  i_NoSheet : ∃ D, mg "NoSheet" = some (.ref D) ∧ IsiC K mg (.ref D) ["NoNumber"] []
  i_NoText : ∃ D, mg "NoText" = some (.ref D) ∧ IsiC K mg (.ref D) ["NoNumber"] []
  i_NoWeb : ∃ D, mg "NoWeb" = some (.ref D) ∧ IsiC K mg (.ref D) ["NoNumber"] []
  i_NoWord : ∃ D, mg "NoWord" = some (.ref D) ∧ IsiC K mg (.ref D) ["NoNumber"] []
  i_TooMany : ∃ D, mg "TooMany" = some (.ref D) ∧ IsiC K mg (.ref D) ["NoNumber"] []
  i_ValueError : IsiC K mg (.type "ValueError") ["NoNumber"] ["NoNumber"]
theorem cl_of {K : PySem.W.Frag} {mg : MGl} {base : Heap} (kin : K.In base) (ns : base.Ns mainGlobals mg) {C_FillError : Addr} {C_NoNumber : Addr} {C_NoOrder : Addr} {C_NoParting : Addr} {C_NoPivot : Addr} {C_NoPlace : Addr} {C_NoRow : Addr} {C_NoSheet : Addr} {C_NoText : Addr} {C_NoWeb : Addr} {C_NoWord : Addr} {C_TooMany : Addr}
    (a_FillError : PySem.W.nsIn K mainGlobals "FillError" = some (some (.ref C_FillError)))
    (a_NoNumber : PySem.W.nsIn K mainGlobals "NoNumber" = some (some (.ref C_NoNumber)))
    (a_NoOrder : PySem.W.nsIn K mainGlobals "NoOrder" = some (some (.ref C_NoOrder)))
    (a_NoParting : PySem.W.nsIn K mainGlobals "NoParting" = some (some (.ref C_NoParting)))
    (a_NoPivot : PySem.W.nsIn K mainGlobals "NoPivot" = some (some (.ref C_NoPivot)))
    (a_NoPlace : PySem.W.nsIn K mainGlobals "NoPlace" = some (some (.ref C_NoPlace)))
    (a_NoRow : PySem.W.nsIn K mainGlobals "NoRow" = some (some (.ref C_NoRow)))
    (a_NoSheet : PySem.W.nsIn K mainGlobals "NoSheet" = some (some (.ref C_NoSheet)))
    (a_NoText : PySem.W.nsIn K mainGlobals "NoText" = some (some (.ref C_NoText)))
    (a_NoWeb : PySem.W.nsIn K mainGlobals "NoWeb" = some (some (.ref C_NoWeb)))
    (a_NoWord : PySem.W.nsIn K mainGlobals "NoWord" = some (some (.ref C_NoWord)))
    (a_TooMany : PySem.W.nsIn K mainGlobals "TooMany" = some (some (.ref C_TooMany)))
    (e_FillError : PySem.W.excIn K C_FillError bmVE "ValueError.__new__" = true)
    (e_NoNumber : PySem.W.excIn K C_NoNumber bmVE "ValueError.__new__" = true)
    (ga_NoNumber : PySem.W.findIn K (.ref C_NoNumber) "__getattribute__" = some (some (.builtin "BaseException.__getattribute__")))
    (cl_NoNumber : PySem.W.findIn K (.ref C_NoNumber) "__class__" = some (some (.builtin "object.__class__")))
    (gt_NoNumber : PySem.W.findIn K (.ref C_NoNumber) "__getattr__" = some none)
    (mo_NoNumber : PySem.W.mroIn K C_NoNumber (.type "object") = some true)
    (mb_NoNumber : PySem.W.mroIn K C_NoNumber (.type "BaseException") = some true)
    (m_FillError_NoNumber : PySem.W.mroIn K C_NoNumber (.ref C_FillError) = some true)
    (y_FillError : PySem.W.kitOne K (.type "NoneType") (.ref C_FillError) = some false)
    (k_FillError_NoNumber : PySem.W.kitOne K (.ref C_NoNumber) (.ref C_FillError) = some true)
    (y_NoNumber : PySem.W.kitOne K (.type "NoneType") (.ref C_NoNumber) = some false)
    (k_NoNumber_NoNumber : PySem.W.kitOne K (.ref C_NoNumber) (.ref C_NoNumber) = some true)
    (y_NoOrder : PySem.W.kitOne K (.type "NoneType") (.ref C_NoOrder) = some false)
    (k_NoOrder_NoNumber : PySem.W.kitOne K (.ref C_NoNumber) (.ref C_NoOrder) = some false)
    (y_NoParting : PySem.W.kitOne K (.type "NoneType") (.ref C_NoParting) = some false)
    (k_NoParting_NoNumber : PySem.W.kitOne K (.ref C_NoNumber) (.ref C_NoParting) = some false)
    (y_NoPivot : PySem.W.kitOne K (.type "NoneType") (.ref C_NoPivot) = some false)
    (k_NoPivot_NoNumber : PySem.W.kitOne K (.ref C_NoNumber) (.ref C_NoPivot) = some false)
    (y_NoPlace : PySem.W.kitOne K (.type "NoneType") (.ref C_NoPlace) = some false)
    (k_NoPlace_NoNumber : PySem.W.kitOne K (.ref C_NoNumber) (.ref C_NoPlace) = some false)
    (y_NoRow : PySem.W.kitOne K (.type "NoneType") (.ref C_NoRow) = some false)
    (k_NoRow_NoNumber : PySem.W.kitOne K (.ref C_NoNumber) (.ref C_NoRow) = some false)
    (y_NoSheet : PySem.W.kitOne K (.type "NoneType") (.ref C_NoSheet) = some false)
    (k_NoSheet_NoNumber : PySem.W.kitOne K (.ref C_NoNumber) (.ref C_NoSheet) = some false)
    (y_NoText : PySem.W.kitOne K (.type "NoneType") (.ref C_NoText) = some false)
    (k_NoText_NoNumber : PySem.W.kitOne K (.ref C_NoNumber) (.ref C_NoText) = some false)
    (y_NoWeb : PySem.W.kitOne K (.type "NoneType") (.ref C_NoWeb) = some false)
    (k_NoWeb_NoNumber : PySem.W.kitOne K (.ref C_NoNumber) (.ref C_NoWeb) = some false)
    (y_NoWord : PySem.W.kitOne K (.type "NoneType") (.ref C_NoWord) = some false)
    (k_NoWord_NoNumber : PySem.W.kitOne K (.ref C_NoNumber) (.ref C_NoWord) = some false)
    (y_TooMany : PySem.W.kitOne K (.type "NoneType") (.ref C_TooMany) = some false)
    (k_TooMany_NoNumber : PySem.W.kitOne K (.ref C_NoNumber) (.ref C_TooMany) = some false)
    (k_ValueError_NoNumber : PySem.W.kitOne K (.ref C_NoNumber) (.type "ValueError") = some true)
    : Cl K mg := by
  have g_FillError := PySem.W.mg_of kin ns a_FillError
  have g_NoNumber := PySem.W.mg_of kin ns a_NoNumber
  have g_NoOrder := PySem.W.mg_of kin ns a_NoOrder
  have g_NoParting := PySem.W.mg_of kin ns a_NoParting
  have g_NoPivot := PySem.W.mg_of kin ns a_NoPivot
  have g_NoPlace := PySem.W.mg_of kin ns a_NoPlace
  have g_NoRow := PySem.W.mg_of kin ns a_NoRow
  have g_NoSheet := PySem.W.mg_of kin ns a_NoSheet
  have g_NoText := PySem.W.mg_of kin ns a_NoText
  have g_NoWeb := PySem.W.mg_of kin ns a_NoWeb
  have g_NoWord := PySem.W.mg_of kin ns a_NoWord
  have g_TooMany := PySem.W.mg_of kin ns a_TooMany
  exact ⟨⟨_, g_NoNumber, e_NoNumber⟩, ⟨_, ⟨g_FillError, e_FillError⟩, (all_cons ⟨_, ⟨g_NoNumber, e_NoNumber⟩, m_FillError_NoNumber⟩ all_nil)⟩, ⟨_, g_FillError, isiC_mk (ty_ref y_FillError) (all_cons ⟨_, g_NoNumber, ⟨ga_NoNumber, cl_NoNumber, gt_NoNumber, mo_NoNumber, mb_NoNumber⟩, k_FillError_NoNumber⟩ all_nil)⟩, ⟨_, g_NoNumber, isiC_mk (ty_ref y_NoNumber) (all_cons ⟨_, g_NoNumber, ⟨ga_NoNumber, cl_NoNumber, gt_NoNumber, mo_NoNumber, mb_NoNumber⟩, k_NoNumber_NoNumber⟩ all_nil)⟩, ⟨_, g_NoOrder, isiC_mk (ty_ref y_NoOrder) (all_cons ⟨_, g_NoNumber, ⟨ga_NoNumber, cl_NoNumber, gt_NoNumber, mo_NoNumber, mb_NoNumber⟩, k_NoOrder_NoNumber⟩ all_nil)⟩, ⟨_, g_NoParting, isiC_mk (ty_ref y_NoParting) (all_cons ⟨_, g_NoNumber, ⟨ga_NoNumber, cl_NoNumber, gt_NoNumber, mo_NoNumber, mb_NoNumber⟩, k_NoParting_NoNumber⟩ all_nil)⟩, ⟨_, g_NoPivot, isiC_mk (ty_ref y_NoPivot) (all_cons ⟨_, g_NoNumber, ⟨ga_NoNumber, cl_NoNumber, gt_NoNumber, mo_NoNumber, mb_NoNumber⟩, k_NoPivot_NoNumber⟩ all_nil)⟩, ⟨_, g_NoPlace, isiC_mk (ty_ref y_NoPlace) (all_cons ⟨_, g_NoNumber, ⟨ga_NoNumber, cl_NoNumber, gt_NoNumber, mo_NoNumber, mb_NoNumber⟩, k_NoPlace_NoNumber⟩ all_nil)⟩, ⟨_, g_NoRow, isiC_mk (ty_ref y_NoRow) (all_cons ⟨_, g_NoNumber, ⟨ga_NoNumber, cl_NoNumber, gt_NoNumber, mo_NoNumber, mb_NoNumber⟩, k_NoRow_NoNumber⟩ all_nil)⟩, ⟨_, g_NoSheet, isiC_mk (ty_ref y_NoSheet) (all_cons ⟨_, g_NoNumber, ⟨ga_NoNumber, cl_NoNumber, gt_NoNumber, mo_NoNumber, mb_NoNumber⟩, k_NoSheet_NoNumber⟩ all_nil)⟩, ⟨_, g_NoText, isiC_mk (ty_ref y_NoText) (all_cons ⟨_, g_NoNumber, ⟨ga_NoNumber, cl_NoNumber, gt_NoNumber, mo_NoNumber, mb_NoNumber⟩, k_NoText_NoNumber⟩ all_nil)⟩, ⟨_, g_NoWeb, isiC_mk (ty_ref y_NoWeb) (all_cons ⟨_, g_NoNumber, ⟨ga_NoNumber, cl_NoNumber, gt_NoNumber, mo_NoNumber, mb_NoNumber⟩, k_NoWeb_NoNumber⟩ all_nil)⟩, ⟨_, g_NoWord, isiC_mk (ty_ref y_NoWord) (all_cons ⟨_, g_NoNumber, ⟨ga_NoNumber, cl_NoNumber, gt_NoNumber, mo_NoNumber, mb_NoNumber⟩, k_NoWord_NoNumber⟩ all_nil)⟩, ⟨_, g_TooMany, isiC_mk (ty_ref y_TooMany) (all_cons ⟨_, g_NoNumber, ⟨ga_NoNumber, cl_NoNumber, gt_NoNumber, mo_NoNumber, mb_NoNumber⟩, k_TooMany_NoNumber⟩ all_nil)⟩, isiC_mk (ty_VE K) (all_cons ⟨_, g_NoNumber, ⟨ga_NoNumber, cl_NoNumber, gt_NoNumber, mo_NoNumber, mb_NoNumber⟩, k_ValueError_NoNumber⟩ all_nil)⟩
/-- the classes, as they lie in K -/
structure ClK (K : PySem.W.Frag) : Prop where
  ex : ∃ C_FillError C_NoNumber C_NoOrder C_NoParting C_NoPivot C_NoPlace C_NoRow C_NoSheet C_NoText C_NoWeb C_NoWord C_TooMany : Addr, PySem.W.nsIn K mainGlobals "FillError" = some (some (.ref C_FillError)) ∧ PySem.W.nsIn K mainGlobals "NoNumber" = some (some (.ref C_NoNumber)) ∧ PySem.W.nsIn K mainGlobals "NoOrder" = some (some (.ref C_NoOrder)) ∧ PySem.W.nsIn K mainGlobals "NoParting" = some (some (.ref C_NoParting)) ∧ PySem.W.nsIn K mainGlobals "NoPivot" = some (some (.ref C_NoPivot)) ∧ PySem.W.nsIn K mainGlobals "NoPlace" = some (some (.ref C_NoPlace)) ∧ PySem.W.nsIn K mainGlobals "NoRow" = some (some (.ref C_NoRow)) ∧ PySem.W.nsIn K mainGlobals "NoSheet" = some (some (.ref C_NoSheet)) ∧ PySem.W.nsIn K mainGlobals "NoText" = some (some (.ref C_NoText)) ∧ PySem.W.nsIn K mainGlobals "NoWeb" = some (some (.ref C_NoWeb)) ∧ PySem.W.nsIn K mainGlobals "NoWord" = some (some (.ref C_NoWord)) ∧ PySem.W.nsIn K mainGlobals "TooMany" = some (some (.ref C_TooMany)) ∧ PySem.W.excIn K C_FillError bmVE "ValueError.__new__" = true ∧ PySem.W.excIn K C_NoNumber bmVE "ValueError.__new__" = true ∧ PySem.W.findIn K (.ref C_NoNumber) "__getattribute__" = some (some (.builtin "BaseException.__getattribute__")) ∧ PySem.W.findIn K (.ref C_NoNumber) "__class__" = some (some (.builtin "object.__class__")) ∧ PySem.W.findIn K (.ref C_NoNumber) "__getattr__" = some none ∧ PySem.W.mroIn K C_NoNumber (.type "object") = some true ∧ PySem.W.mroIn K C_NoNumber (.type "BaseException") = some true ∧ PySem.W.mroIn K C_NoNumber (.ref C_FillError) = some true ∧ PySem.W.kitOne K (.type "NoneType") (.ref C_FillError) = some false ∧ PySem.W.kitOne K (.ref C_NoNumber) (.ref C_FillError) = some true ∧ PySem.W.kitOne K (.type "NoneType") (.ref C_NoNumber) = some false ∧ PySem.W.kitOne K (.ref C_NoNumber) (.ref C_NoNumber) = some true ∧ PySem.W.kitOne K (.type "NoneType") (.ref C_NoOrder) = some false ∧ PySem.W.kitOne K (.ref C_NoNumber) (.ref C_NoOrder) = some false ∧ PySem.W.kitOne K (.type "NoneType") (.ref C_NoParting) = some false ∧ PySem.W.kitOne K (.ref C_NoNumber) (.ref C_NoParting) = some false ∧ PySem.W.kitOne K (.type "NoneType") (.ref C_NoPivot) = some false ∧ PySem.W.kitOne K (.ref C_NoNumber) (.ref C_NoPivot) = some false ∧ PySem.W.kitOne K (.type "NoneType") (.ref C_NoPlace) = some false ∧ PySem.W.kitOne K (.ref C_NoNumber) (.ref C_NoPlace) = some false ∧ PySem.W.kitOne K (.type "NoneType") (.ref C_NoRow) = some false ∧ PySem.W.kitOne K (.ref C_NoNumber) (.ref C_NoRow) = some false ∧ PySem.W.kitOne K (.type "NoneType") (.ref C_NoSheet) = some false ∧ PySem.W.kitOne K (.ref C_NoNumber) (.ref C_NoSheet) = some false ∧ PySem.W.kitOne K (.type "NoneType") (.ref C_NoText) = some false ∧ PySem.W.kitOne K (.ref C_NoNumber) (.ref C_NoText) = some false ∧ PySem.W.kitOne K (.type "NoneType") (.ref C_NoWeb) = some false ∧ PySem.W.kitOne K (.ref C_NoNumber) (.ref C_NoWeb) = some false ∧ PySem.W.kitOne K (.type "NoneType") (.ref C_NoWord) = some false ∧ PySem.W.kitOne K (.ref C_NoNumber) (.ref C_NoWord) = some false ∧ PySem.W.kitOne K (.type "NoneType") (.ref C_TooMany) = some false ∧ PySem.W.kitOne K (.ref C_NoNumber) (.ref C_TooMany) = some false ∧ PySem.W.kitOne K (.ref C_NoNumber) (.type "ValueError") = some true
theorem clK_mk {K : PySem.W.Frag} {C_FillError : Addr} {C_NoNumber : Addr} {C_NoOrder : Addr} {C_NoParting : Addr} {C_NoPivot : Addr} {C_NoPlace : Addr} {C_NoRow : Addr} {C_NoSheet : Addr} {C_NoText : Addr} {C_NoWeb : Addr} {C_NoWord : Addr} {C_TooMany : Addr} (a_FillError : PySem.W.nsIn K mainGlobals "FillError" = some (some (.ref C_FillError))) (a_NoNumber : PySem.W.nsIn K mainGlobals "NoNumber" = some (some (.ref C_NoNumber))) (a_NoOrder : PySem.W.nsIn K mainGlobals "NoOrder" = some (some (.ref C_NoOrder))) (a_NoParting : PySem.W.nsIn K mainGlobals "NoParting" = some (some (.ref C_NoParting))) (a_NoPivot : PySem.W.nsIn K mainGlobals "NoPivot" = some (some (.ref C_NoPivot))) (a_NoPlace : PySem.W.nsIn K mainGlobals "NoPlace" = some (some (.ref C_NoPlace))) (a_NoRow : PySem.W.nsIn K mainGlobals "NoRow" = some (some (.ref C_NoRow))) (a_NoSheet : PySem.W.nsIn K mainGlobals "NoSheet" = some (some (.ref C_NoSheet))) (a_NoText : PySem.W.nsIn K mainGlobals "NoText" = some (some (.ref C_NoText))) (a_NoWeb : PySem.W.nsIn K mainGlobals "NoWeb" = some (some (.ref C_NoWeb))) (a_NoWord : PySem.W.nsIn K mainGlobals "NoWord" = some (some (.ref C_NoWord))) (a_TooMany : PySem.W.nsIn K mainGlobals "TooMany" = some (some (.ref C_TooMany))) (e_FillError : PySem.W.excIn K C_FillError bmVE "ValueError.__new__" = true) (e_NoNumber : PySem.W.excIn K C_NoNumber bmVE "ValueError.__new__" = true) (ga_NoNumber : PySem.W.findIn K (.ref C_NoNumber) "__getattribute__" = some (some (.builtin "BaseException.__getattribute__"))) (cl_NoNumber : PySem.W.findIn K (.ref C_NoNumber) "__class__" = some (some (.builtin "object.__class__"))) (gt_NoNumber : PySem.W.findIn K (.ref C_NoNumber) "__getattr__" = some none) (mo_NoNumber : PySem.W.mroIn K C_NoNumber (.type "object") = some true) (mb_NoNumber : PySem.W.mroIn K C_NoNumber (.type "BaseException") = some true) (m_FillError_NoNumber : PySem.W.mroIn K C_NoNumber (.ref C_FillError) = some true) (y_FillError : PySem.W.kitOne K (.type "NoneType") (.ref C_FillError) = some false) (k_FillError_NoNumber : PySem.W.kitOne K (.ref C_NoNumber) (.ref C_FillError) = some true) (y_NoNumber : PySem.W.kitOne K (.type "NoneType") (.ref C_NoNumber) = some false) (k_NoNumber_NoNumber : PySem.W.kitOne K (.ref C_NoNumber) (.ref C_NoNumber) = some true) (y_NoOrder : PySem.W.kitOne K (.type "NoneType") (.ref C_NoOrder) = some false) (k_NoOrder_NoNumber : PySem.W.kitOne K (.ref C_NoNumber) (.ref C_NoOrder) = some false) (y_NoParting : PySem.W.kitOne K (.type "NoneType") (.ref C_NoParting) = some false) (k_NoParting_NoNumber : PySem.W.kitOne K (.ref C_NoNumber) (.ref C_NoParting) = some false) (y_NoPivot : PySem.W.kitOne K (.type "NoneType") (.ref C_NoPivot) = some false) (k_NoPivot_NoNumber : PySem.W.kitOne K (.ref C_NoNumber) (.ref C_NoPivot) = some false) (y_NoPlace : PySem.W.kitOne K (.type "NoneType") (.ref C_NoPlace) = some false) (k_NoPlace_NoNumber : PySem.W.kitOne K (.ref C_NoNumber) (.ref C_NoPlace) = some false) (y_NoRow : PySem.W.kitOne K (.type "NoneType") (.ref C_NoRow) = some false) (k_NoRow_NoNumber : PySem.W.kitOne K (.ref C_NoNumber) (.ref C_NoRow) = some false) (y_NoSheet : PySem.W.kitOne K (.type "NoneType") (.ref C_NoSheet) = some false) (k_NoSheet_NoNumber : PySem.W.kitOne K (.ref C_NoNumber) (.ref C_NoSheet) = some false) (y_NoText : PySem.W.kitOne K (.type "NoneType") (.ref C_NoText) = some false) (k_NoText_NoNumber : PySem.W.kitOne K (.ref C_NoNumber) (.ref C_NoText) = some false) (y_NoWeb : PySem.W.kitOne K (.type "NoneType") (.ref C_NoWeb) = some false) (k_NoWeb_NoNumber : PySem.W.kitOne K (.ref C_NoNumber) (.ref C_NoWeb) = some false) (y_NoWord : PySem.W.kitOne K (.type "NoneType") (.ref C_NoWord) = some false) (k_NoWord_NoNumber : PySem.W.kitOne K (.ref C_NoNumber) (.ref C_NoWord) = some false) (y_TooMany : PySem.W.kitOne K (.type "NoneType") (.ref C_TooMany) = some false) (k_TooMany_NoNumber : PySem.W.kitOne K (.ref C_NoNumber) (.ref C_TooMany) = some false) (k_ValueError_NoNumber : PySem.W.kitOne K (.ref C_NoNumber) (.type "ValueError") = some true) : ClK K := ⟨C_FillError, C_NoNumber, C_NoOrder, C_NoParting, C_NoPivot, C_NoPlace, C_NoRow, C_NoSheet, C_NoText, C_NoWeb, C_NoWord, C_TooMany, a_FillError, a_NoNumber, a_NoOrder, a_NoParting, a_NoPivot, a_NoPlace, a_NoRow, a_NoSheet, a_NoText, a_NoWeb, a_NoWord, a_TooMany, e_FillError, e_NoNumber, ga_NoNumber, cl_NoNumber, gt_NoNumber, mo_NoNumber, mb_NoNumber, m_FillError_NoNumber, y_FillError, k_FillError_NoNumber, y_NoNumber, k_NoNumber_NoNumber, y_NoOrder, k_NoOrder_NoNumber, y_NoParting, k_NoParting_NoNumber, y_NoPivot, k_NoPivot_NoNumber, y_NoPlace, k_NoPlace_NoNumber, y_NoRow, k_NoRow_NoNumber, y_NoSheet, k_NoSheet_NoNumber, y_NoText, k_NoText_NoNumber, y_NoWeb, k_NoWeb_NoNumber, y_NoWord, k_NoWord_NoNumber, y_TooMany, k_TooMany_NoNumber, k_ValueError_NoNumber⟩
theorem ClK.cl {K : PySem.W.Frag} {mg : MGl} {base : Heap} (z : ClK K) (kin : K.In base) (ns : base.Ns mainGlobals mg) : Cl K mg := by
  obtain ⟨_, _, _, _, _, _, _, _, _, _, _, _, a_FillError, a_NoNumber, a_NoOrder, a_NoParting, a_NoPivot, a_NoPlace, a_NoRow, a_NoSheet, a_NoText, a_NoWeb, a_NoWord, a_TooMany, e_FillError, e_NoNumber, ga_NoNumber, cl_NoNumber, gt_NoNumber, mo_NoNumber, mb_NoNumber, m_FillError_NoNumber, y_FillError, k_FillError_NoNumber, y_NoNumber, k_NoNumber_NoNumber, y_NoOrder, k_NoOrder_NoNumber, y_NoParting, k_NoParting_NoNumber, y_NoPivot, k_NoPivot_NoNumber, y_NoPlace, k_NoPlace_NoNumber, y_NoRow, k_NoRow_NoNumber, y_NoSheet, k_NoSheet_NoNumber, y_NoText, k_NoText_NoNumber, y_NoWeb, k_NoWeb_NoNumber, y_NoWord, k_NoWord_NoNumber, y_TooMany, k_TooMany_NoNumber, k_ValueError_NoNumber⟩ := z.ex
  exact cl_of kin ns a_FillError a_NoNumber a_NoOrder a_NoParting a_NoPivot a_NoPlace a_NoRow a_NoSheet a_NoText a_NoWeb a_NoWord a_TooMany e_FillError e_NoNumber ga_NoNumber cl_NoNumber gt_NoNumber mo_NoNumber mb_NoNumber m_FillError_NoNumber y_FillError k_FillError_NoNumber y_NoNumber k_NoNumber_NoNumber y_NoOrder k_NoOrder_NoNumber y_NoParting k_NoParting_NoNumber y_NoPivot k_NoPivot_NoNumber y_NoPlace k_NoPlace_NoNumber y_NoRow k_NoRow_NoNumber y_NoSheet k_NoSheet_NoNumber y_NoText k_NoText_NoNumber y_NoWeb k_NoWeb_NoNumber y_NoWord k_NoWord_NoNumber y_TooMany k_TooMany_NoNumber k_ValueError_NoNumber
abbrev s_is_whole : Stmt := top 14
abbrev N_is_whole : List Str := ["thing"]
abbrev G_is_whole : List Str := ["isinstance", "int", "bool"]
abbrev P_is_whole : List Str := ["thing"]
theorem b_is_whole {X : Cx} {k : Nat} (hsc : X.env.scope = defScope s_is_whole) (g : Good X N_is_whole N_is_whole G_is_whole k) (dc : DefCx X) (n_isinstance : X.mg "isinstance" = none) (n_bool : X.mg "bool" = none) (n_int : X.mg "int" = none) : MSs X (defBody s_is_whole) m_is_whole :=
  (mss_one (ms_ret (me_and (me_isi g (i := 0) (j := 1) rfl n_isinstance rfl n_int PyProof.Rows.Boot.«int» okT_int (me_var g 0 rfl)) (me_one (me_not (me_isi g (i := 0) (j := 2) rfl n_isinstance rfl n_bool PyProof.Rows.Boot.«bool» okT_bool (me_var g 0 rfl)))))))
theorem sc_is_whole : FnScope N_is_whole P_is_whole (defScope s_is_whole) := ⟨rfl, rfl, rfl, by decide +kernel, rfl, by decide +kernel, by decide +kernel⟩
theorem bi_is_whole : bindsOk "is_whole" s_is_whole P_is_whole := fun _ _ _ _ _ _ us hl => match us, hl with | [_], _ => rfl
theorem fn_is_whole {P : Program} {w : World} {K : PySem.W.Frag} {mg : Str → Option Value} {base : Heap} {k : Nat} (kin : K.In base) (ns : base.Ns mainGlobals mg) (D : DefAt K "is_whole" s_is_whole) (n_isinstance : mg "isinstance" = none) (n_bool : mg "bool" = none) (n_int : mg "int" = none) : FnAt P w K mg base "is_whole" P_is_whole f_is_whole (k + 1) :=
  fnAt_M (N := N_is_whole) (G := G_is_whole) kin ns D sc_is_whole bi_is_whole (by decide +kernel) (by decide +kernel) (by decide +kernel) fun X e1 e2 e3 e4 e5 e6 g dc => b_is_whole e6 g dc (by rw [e4]; exact n_isinstance) (by rw [e4]; exact n_bool) (by rw [e4]; exact n_int)
abbrev s_greatest_shared : Stmt := top 15
abbrev N_greatest_shared : List Str := ["a", "b", "rest"]
abbrev G_greatest_shared : List Str := []
abbrev P_greatest_shared : List Str := ["a", "b"]
theorem b_greatest_shared {X : Cx} {k : Nat} (hsc : X.env.scope = defScope s_greatest_shared) (g : Good X N_greatest_shared N_greatest_shared G_greatest_shared k) (dc : DefCx X) : MSs X (defBody s_greatest_shared) m_greatest_shared :=
  (mss_cons (ms_while g (mt_cmp (oj_ne g.room) (me_var g 1 rfl) me_int (nomark _)) (mss_cons (ms_set g 2 rfl rfl (me_bin oj_mod (me_var g 0 rfl) (me_var g 1 rfl)))
  (mss_cons (ms_set g 0 rfl rfl (me_var g 1 rfl))
  (mss_one (ms_set g 1 rfl rfl (me_var g 2 rfl))))))
  (mss_one (ms_ret (me_var g 0 rfl))))
theorem sc_greatest_shared : FnScope N_greatest_shared P_greatest_shared (defScope s_greatest_shared) := ⟨rfl, rfl, rfl, by decide +kernel, rfl, by decide +kernel, by decide +kernel⟩
theorem bi_greatest_shared : bindsOk "greatest_shared" s_greatest_shared P_greatest_shared := fun _ _ _ _ _ _ us hl => match us, hl with | [_, _], _ => rfl
theorem fn_greatest_shared {P : Program} {w : World} {K : PySem.W.Frag} {mg : Str → Option Value} {base : Heap} {k : Nat} (kin : K.In base) (ns : base.Ns mainGlobals mg) (D : DefAt K "greatest_shared" s_greatest_shared) : FnAt P w K mg base "greatest_shared" P_greatest_shared f_greatest_shared (k + 1) :=
  fnAt_M (N := N_greatest_shared) (G := G_greatest_shared) kin ns D sc_greatest_shared bi_greatest_shared (by decide +kernel) (by decide +kernel) (by decide +kernel) fun X e1 e2 e3 e4 e5 e6 g dc => b_greatest_shared e6 g dc 
abbrev s_number_of : Stmt := top 16
abbrev N_number_of : List Str := ["top", "bottom", "shared"]
abbrev G_number_of : List Str := ["is_whole", "NoNumber", "greatest_shared", "abs"]
abbrev P_number_of : List Str := ["top", "bottom"]
theorem b_number_of {X : Cx} {k : Nat} (hsc : X.env.scope = defScope s_number_of) (g : Good X N_number_of N_number_of G_number_of k) (dc : DefCx X) (c_greatest_shared : Cal X "greatest_shared" P_greatest_shared f_greatest_shared k) (c_is_whole : Cal X "is_whole" P_is_whole f_is_whole k) (n_abs : X.mg "abs" = none) (cl : Cl X.K X.mg) : MSs X (defBody s_number_of) m_number_of :=
  (mss_cons (ms_if (MW.mt (mw_or (mt_not (mt_val (me_call g (j := 0) rfl c_is_whole (ma_cons (me_var g 0 rfl) ma_nil)))) (mw_or1 (mt_not (mt_val (me_call g (j := 0) rfl c_is_whole (ma_cons (me_var g 1 rfl) ma_nil))))))) (mss_one (ms_raiseE g (j := 1) rfl cl.r_NoNumber (ma_cons me_str ma_nil))) mss_nil)
  (mss_cons (ms_if (mt_cmp (oj_eq g.room) (me_var g 1 rfl) me_int (nomark _)) (mss_one (ms_raiseE g (j := 1) rfl cl.r_NoNumber (ma_cons me_str ma_nil))) mss_nil)
  (mss_cons (ms_set g 2 rfl rfl (me_call g (j := 2) rfl c_greatest_shared (ma_cons (me_callB g 3 rfl cj_abs n_abs PyProof.Rows.Boot.«abs» (ma_cons (me_var g 0 rfl) ma_nil)) (ma_cons (me_callB g 3 rfl cj_abs n_abs PyProof.Rows.Boot.«abs» (ma_cons (me_var g 1 rfl) ma_nil)) ma_nil))))
  (mss_cons (ms_if (mt_cmp oj_lt (me_var g 1 rfl) me_int (nomark _)) (mss_one (ms_set g 2 rfl rfl (me_un uj_neg (me_var g 2 rfl)))) mss_nil)
  (mss_one (ms_ret (me_tup (ma_cons (me_bin oj_fd (me_var g 0 rfl) (me_var g 2 rfl)) (ma_cons (me_bin oj_fd (me_var g 1 rfl) (me_var g 2 rfl)) ma_nil)))))))))
theorem sc_number_of : FnScope N_number_of P_number_of (defScope s_number_of) := ⟨rfl, rfl, rfl, by decide +kernel, rfl, by decide +kernel, by decide +kernel⟩
theorem bi_number_of : bindsOk "number_of" s_number_of P_number_of := fun _ _ _ _ _ _ us hl => match us, hl with | [_, _], _ => rfl
theorem fn_number_of {P : Program} {w : World} {K : PySem.W.Frag} {mg : Str → Option Value} {base : Heap} {k : Nat} (kin : K.In base) (ns : base.Ns mainGlobals mg) (D : DefAt K "number_of" s_number_of) (c_greatest_shared : FnAt P w K mg base "greatest_shared" P_greatest_shared f_greatest_shared k) (c_is_whole : FnAt P w K mg base "is_whole" P_is_whole f_is_whole k) (n_abs : mg "abs" = none) (cl : Cl K mg) : FnAt P w K mg base "number_of" P_number_of f_number_of (k + 1) :=
  fnAt_M (N := N_number_of) (G := G_number_of) kin ns D sc_number_of bi_number_of (by decide +kernel) (by decide +kernel) (by decide +kernel) fun X e1 e2 e3 e4 e5 e6 g dc => b_number_of e6 g dc (c_greatest_shared.cal e1 e2 e3 e4 e5) (c_is_whole.cal e1 e2 e3 e4 e5) (by rw [e4]; exact n_abs) (by rw [e3, e4]; exact cl)
abbrev s_l_pen : Stmt := top 18
abbrev N_l_pen : List Str := ["_law_script", "_law_k", "_law_cell"]
abbrev G_l_pen : List Str := ["min", "len", "abs"]
abbrev P_l_pen : List Str := ["_law_script", "_law_k"]
theorem b_l_pen {X : Cx} {k : Nat} (hsc : X.env.scope = defScope s_l_pen) (g : Good X N_l_pen N_l_pen G_l_pen k) (dc : DefCx X) (n_abs : X.mg "abs" = none) (n_len : X.mg "len" = none) (n_min : X.mg "min" = none) : MSs X (defBody s_l_pen) m_l_pen :=
  (mss_cons (ms_set g 2 rfl rfl (me_bin oj_add (me_bin oj_mul me_int (me_var g 1 rfl)) me_int))
  (mss_cons (ms_if (mt_cmp oj_lt (me_var g 1 rfl) (me_callB g 0 rfl (cj_min g) n_min PyProof.Rows.Boot.«min» (ma_cons (me_callB g 1 rfl cj_len n_len PyProof.Rows.Boot.«len» (ma_cons (me_var g 0 rfl) ma_nil)) (ma_cons me_int ma_nil))) (nomark _)) (mss_one (ms_set g 2 rfl rfl (me_ix (me_var g 0 rfl) (me_var g 1 rfl) (fun _ _ => rfl)))) (mss_one (ms_if (mt_cmp oj_gt (me_callB g 1 rfl cj_len n_len PyProof.Rows.Boot.«len» (ma_cons (me_var g 0 rfl) ma_nil)) me_int (nomark _)) (mss_one (ms_set g 2 rfl rfl (me_bin oj_add (me_bin oj_mod (me_ix (me_var g 0 rfl) (me_bin oj_mod (me_var g 1 rfl) (me_callB g 0 rfl (cj_min g) n_min PyProof.Rows.Boot.«min» (ma_cons (me_callB g 1 rfl cj_len n_len PyProof.Rows.Boot.«len» (ma_cons (me_var g 0 rfl) ma_nil)) (ma_cons me_int ma_nil)))) (fun _ _ => rfl)) (me_bin oj_pow me_int me_int)) (me_bin oj_mul me_int (me_var g 1 rfl))))) mss_nil)))
  (mss_cons (ms_if (mt_cmp oj_ge (me_callB g 2 rfl cj_abs n_abs PyProof.Rows.Boot.«abs» (ma_cons (me_var g 2 rfl) ma_nil)) (me_bin oj_pow me_int me_int) (nomark _)) (mss_one (ms_ret (me_lst (ma_cons me_int (ma_cons (me_callB g 2 rfl cj_abs n_abs PyProof.Rows.Boot.«abs» (ma_cons (me_var g 2 rfl) ma_nil)) (ma_cons me_int ma_nil)))))) mss_nil)
  (mss_one (ms_ret (me_lst (ma_cons me_int (ma_cons (me_bin oj_add (me_bin oj_mod (me_var g 2 rfl) me_int) (me_bin oj_mul me_int (me_var g 1 rfl))) (ma_cons me_int ma_nil)))))))))
theorem sc_l_pen : FnScope N_l_pen P_l_pen (defScope s_l_pen) := ⟨rfl, rfl, rfl, by decide +kernel, rfl, by decide +kernel, by decide +kernel⟩
theorem bi_l_pen : bindsOk "_law_pen" s_l_pen P_l_pen := fun _ _ _ _ _ _ us hl => match us, hl with | [_, _], _ => rfl
theorem fn_l_pen {P : Program} {w : World} {K : PySem.W.Frag} {mg : Str → Option Value} {base : Heap} {k : Nat} (kin : K.In base) (ns : base.Ns mainGlobals mg) (D : DefAt K "_law_pen" s_l_pen) (n_abs : mg "abs" = none) (n_len : mg "len" = none) (n_min : mg "min" = none) : FnAt P w K mg base "_law_pen" P_l_pen f_l_pen (k + 1) :=
  fnAt_M (N := N_l_pen) (G := G_l_pen) kin ns D sc_l_pen bi_l_pen (by decide +kernel) (by decide +kernel) (by decide +kernel) fun X e1 e2 e3 e4 e5 e6 g dc => b_l_pen e6 g dc (by rw [e4]; exact n_abs) (by rw [e4]; exact n_len) (by rw [e4]; exact n_min)
abbrev s_l_draw : Stmt := top 19
abbrev N_l_draw : List Str := ["_law_pen_here", "_law_size", "_law_number", "_law_drawn"]
abbrev G_l_draw : List Str := []
abbrev P_l_draw : List Str := ["_law_pen_here", "_law_size"]
theorem b_l_draw {X : Cx} {k : Nat} (hsc : X.env.scope = defScope s_l_draw) (g : Good X N_l_draw N_l_draw G_l_draw k) (dc : DefCx X) : MSs X (defBody s_l_draw) m_l_draw :=
  (mss_cons (ms_asg (me_bin oj_add (me_ix (me_var g 0 rfl) me_int (fun _ _ => rfl)) me_int) (mg_sub (me_var g 0 rfl) me_int))
  (mss_cons (ms_if (mt_cmp (oj_eq g.room) (me_ix (me_var g 0 rfl) me_int (fun _ _ => rfl)) me_int (nomark _)) (mss_cons (ms_set g 3 rfl rfl (me_bin oj_mod (me_ix (me_var g 0 rfl) me_int (fun _ _ => rfl)) (me_var g 1 rfl)))
  (mss_cons (ms_asg (me_bin oj_fd (me_ix (me_var g 0 rfl) me_int (fun _ _ => rfl)) (me_var g 1 rfl)) (mg_sub (me_var g 0 rfl) me_int))
  (mss_one (ms_ret (me_var g 3 rfl))))) mss_nil)
  (mss_cons (ms_set g 2 rfl rfl (me_bin oj_mod (me_bin oj_mul (me_bin oj_add (me_bin oj_add (me_ix (me_var g 0 rfl) me_int (fun _ _ => rfl)) (me_bin oj_mul me_int (me_ix (me_var g 0 rfl) me_int (fun _ _ => rfl)))) me_int) me_int) me_int))
  (mss_cons (ms_set g 2 rfl rfl (me_bin oj_mod (me_bin oj_mul (me_var g 2 rfl) (me_bin oj_add (me_bin oj_add (me_bin oj_mod (me_var g 2 rfl) me_int) (me_ix (me_var g 0 rfl) me_int (fun _ _ => rfl))) me_int)) me_int))
  (mss_one (ms_ret (me_bin oj_mod (me_bin oj_fd (me_bin oj_mod (me_bin oj_mul (me_var g 2 rfl) (me_bin oj_add (me_bin oj_mod (me_var g 2 rfl) me_int) me_int)) me_int) me_int) (me_var g 1 rfl))))))))
theorem sc_l_draw : FnScope N_l_draw P_l_draw (defScope s_l_draw) := ⟨rfl, rfl, rfl, by decide +kernel, rfl, by decide +kernel, by decide +kernel⟩
theorem bi_l_draw : bindsOk "_law_draw" s_l_draw P_l_draw := fun _ _ _ _ _ _ us hl => match us, hl with | [_, _], _ => rfl
theorem fn_l_draw {P : Program} {w : World} {K : PySem.W.Frag} {mg : Str → Option Value} {base : Heap} {k : Nat} (kin : K.In base) (ns : base.Ns mainGlobals mg) (D : DefAt K "_law_draw" s_l_draw) : FnAt P w K mg base "_law_draw" P_l_draw f_l_draw (k + 1) :=
  fnAt_M (N := N_l_draw) (G := G_l_draw) kin ns D sc_l_draw bi_l_draw (by decide +kernel) (by decide +kernel) (by decide +kernel) fun X e1 e2 e3 e4 e5 e6 g dc => b_l_draw e6 g dc 
abbrev s_l_lowest : Stmt := top 20
abbrev N_l_lowest : List Str := ["_law_top", "_law_bottom", "_law_one", "_law_other"]
abbrev G_l_lowest : List Str := ["abs"]
abbrev P_l_lowest : List Str := ["_law_top", "_law_bottom"]
theorem b_l_lowest {X : Cx} {k : Nat} (hsc : X.env.scope = defScope s_l_lowest) (g : Good X N_l_lowest N_l_lowest G_l_lowest k) (dc : DefCx X) (n_abs : X.mg "abs" = none) : MSs X (defBody s_l_lowest) m_l_lowest :=
  (mss_cons (ms_par g 2 3 rfl rfl (by decide) (ma_cons (me_callB g 0 rfl cj_abs n_abs PyProof.Rows.Boot.«abs» (ma_cons (me_var g 0 rfl) ma_nil)) (ma_cons (me_callB g 0 rfl cj_abs n_abs PyProof.Rows.Boot.«abs» (ma_cons (me_var g 1 rfl) ma_nil)) ma_nil)) (by rw [hsc]; rfl) (by rw [hsc]; rfl) (by revert hsc; generalize X.env = env; intro h; cases env; cases h; rfl))
  (mss_cons (ms_while g (mt_cmp oj_gt (me_var g 3 rfl) me_int (nomark _)) (mss_one (ms_par g 2 3 rfl rfl (by decide) (ma_cons (me_var g 3 rfl) (ma_cons (me_bin oj_mod (me_var g 2 rfl) (me_var g 3 rfl)) ma_nil)) (by rw [hsc]; rfl) (by rw [hsc]; rfl) (by revert hsc; generalize X.env = env; intro h; cases env; cases h; rfl))))
  (mss_cons (ms_if (mt_cmp oj_lt (me_var g 1 rfl) me_int (nomark _)) (mss_one (ms_set g 2 rfl rfl (me_un uj_neg (me_var g 2 rfl)))) mss_nil)
  (mss_one (ms_ret (me_tup (ma_cons (me_bin oj_fd (me_var g 0 rfl) (me_var g 2 rfl)) (ma_cons (me_bin oj_fd (me_var g 1 rfl) (me_var g 2 rfl)) ma_nil))))))))
theorem sc_l_lowest : FnScope N_l_lowest P_l_lowest (defScope s_l_lowest) := ⟨rfl, rfl, rfl, by decide +kernel, rfl, by decide +kernel, by decide +kernel⟩
theorem bi_l_lowest : bindsOk "_law_lowest" s_l_lowest P_l_lowest := fun _ _ _ _ _ _ us hl => match us, hl with | [_, _], _ => rfl
theorem fn_l_lowest {P : Program} {w : World} {K : PySem.W.Frag} {mg : Str → Option Value} {base : Heap} {k : Nat} (kin : K.In base) (ns : base.Ns mainGlobals mg) (D : DefAt K "_law_lowest" s_l_lowest) (n_abs : mg "abs" = none) : FnAt P w K mg base "_law_lowest" P_l_lowest f_l_lowest (k + 1) :=
  fnAt_M (N := N_l_lowest) (G := G_l_lowest) kin ns D sc_l_lowest bi_l_lowest (by decide +kernel) (by decide +kernel) (by decide +kernel) fun X e1 e2 e3 e4 e5 e6 g dc => b_l_lowest e6 g dc (by rw [e4]; exact n_abs)
abbrev s_l_word : Stmt := top 21
abbrev N_l_word : List Str := ["_law_caught", "_law_words", "_law_marks", "_law_some"]
abbrev G_l_word : List Str := ["isinstance", "NoNumber", "NoWeb", "NoPlace", "NoOrder", "NoParting", "TooMany", "NoSheet", "NoPivot", "NoRow", "range", "int", "NoText", "NoWord", "len", "ValueError", "FillError"]
abbrev P_l_word : List Str := ["_law_caught"]
theorem b_l_word {X : Cx} {k : Nat} (hsc : X.env.scope = defScope s_l_word) (g : Good X N_l_word N_l_word G_l_word k) (dc : DefCx X) (n_isinstance : X.mg "isinstance" = none) (n_ValueError : X.mg "ValueError" = none) (n_len : X.mg "len" = none) (n_int : X.mg "int" = none) (n_range : X.mg "range" = none) (cl : Cl X.K X.mg) : MSs X (defBody s_l_word) m_l_word :=
  (mss_cons (ms_set g 1 rfl rfl (me_lst (ma_cons me_str (ma_cons me_str (ma_cons me_str (ma_cons me_str (ma_cons me_str (ma_cons me_str (ma_cons me_str (ma_cons me_str (ma_cons me_str ma_nil)))))))))))
  (mss_cons (ms_set g 2 rfl rfl (me_lst (ma_cons (me_isiE g (i := 0) (j := 1) rfl n_isinstance rfl cl.i_NoNumber (me_var g 0 rfl)) (ma_cons (me_isiE g (i := 0) (j := 2) rfl n_isinstance rfl cl.i_NoWeb (me_var g 0 rfl)) (ma_cons (me_isiE g (i := 0) (j := 3) rfl n_isinstance rfl cl.i_NoPlace (me_var g 0 rfl)) ma_nil)))))
  (mss_cons (ms_set g 2 rfl rfl (me_bin oj_add (me_var g 2 rfl) (me_lst (ma_cons (me_isiE g (i := 0) (j := 4) rfl n_isinstance rfl cl.i_NoOrder (me_var g 0 rfl)) (ma_cons (me_isiE g (i := 0) (j := 5) rfl n_isinstance rfl cl.i_NoParting (me_var g 0 rfl)) (ma_cons (me_isiE g (i := 0) (j := 6) rfl n_isinstance rfl cl.i_TooMany (me_var g 0 rfl)) ma_nil))))))
  (mss_cons (ms_set g 2 rfl rfl (me_bin oj_add (me_var g 2 rfl) (me_lst (ma_cons (me_isiE g (i := 0) (j := 7) rfl n_isinstance rfl cl.i_NoSheet (me_var g 0 rfl)) (ma_cons (me_isiE g (i := 0) (j := 8) rfl n_isinstance rfl cl.i_NoPivot (me_var g 0 rfl)) (ma_cons (me_isiE g (i := 0) (j := 9) rfl n_isinstance rfl cl.i_NoRow (me_var g 0 rfl)) ma_nil))))))
  (mss_cons (ms_setC g 3 rfl rfl (by revert hsc; generalize X.env = env; intro h; cases env; cases h; rfl) (vars := ["_law_k"]) (frees := ["_law_words", "_law_marks"]) (G' := []) (fm := [1, 2]) (compOk (hsc := hsc) rfl (by decide +kernel) (by decide +kernel) (by decide +kernel) (by decide +kernel) (by decide +kernel) rfl (by decide +kernel)) (by decide +kernel) (by decide +kernel) (by decide +kernel) (mi_range1 (g.gl _ (mem_of (i := 10) rfl)) n_range (ma_cons me_int ma_nil)) (fun Y y1 y2 y3 y4 y5 y6 g => have n_isinstance : Y.mg "isinstance" = none := y4.symm ▸ n_isinstance; have n_ValueError : Y.mg "ValueError" = none := y4.symm ▸ n_ValueError; have n_len : Y.mg "len" = none := y4.symm ▸ n_len; have n_int : Y.mg "int" = none := y4.symm ▸ n_int; have n_range : Y.mg "range" = none := y4.symm ▸ n_range; have cl : Cl Y.K Y.mg := y3.symm ▸ y4.symm ▸ cl; ⟨(mg_name g 0 rfl rfl), (mts_one (mt_val (me_ix (me_var g 2 rfl) (me_var g 0 rfl) (fun _ _ => rfl)))), (me_ix (me_var g 1 rfl) (me_var g 0 rfl) (fun _ _ => rfl))⟩))
  (mss_cons (ms_set g 3 rfl rfl (me_bin oj_add (me_bin oj_add (me_var g 3 rfl) (me_bin oj_mul (me_lst (ma_cons me_str ma_nil)) (me_callTy g 11 rfl cj_int n_int PyProof.Rows.Boot.«int» (ma_cons (me_isiE g (i := 0) (j := 12) rfl n_isinstance rfl cl.i_NoText (me_var g 0 rfl)) ma_nil)))) (me_bin oj_mul (me_lst (ma_cons me_str ma_nil)) (me_callTy g 11 rfl cj_int n_int PyProof.Rows.Boot.«int» (ma_cons (me_isiE g (i := 0) (j := 13) rfl n_isinstance rfl cl.i_NoWord (me_var g 0 rfl)) ma_nil)))))
  (mss_cons (ms_if (MW.mt (mw_or (mt_cmp (oj_ne g.room) (me_callB g 14 rfl cj_len n_len PyProof.Rows.Boot.«len» (ma_cons (me_var g 3 rfl) ma_nil)) me_int (nomark _)) (mw_or (mt_not (mt_val (me_isiB g (i := 0) (j := 15) rfl n_isinstance rfl n_ValueError PyProof.Rows.Boot.«ValueError» cl.i_ValueError (me_var g 0 rfl)))) (mw_or1 (mt_not (mt_val (me_isiE g (i := 0) (j := 16) rfl n_isinstance rfl cl.i_FillError (me_var g 0 rfl)))))))) (mss_one (ms_ret me_str)) mss_nil)
  (mss_one (ms_ret (me_ix (me_var g 3 rfl) me_int (fun _ _ => rfl)))))))))))
theorem sc_l_word : FnScope N_l_word P_l_word (defScope s_l_word) := ⟨rfl, rfl, rfl, by decide +kernel, rfl, by decide +kernel, by decide +kernel⟩
theorem bi_l_word : bindsOk "_law_word" s_l_word P_l_word := fun _ _ _ _ _ _ us hl => match us, hl with | [_], _ => rfl
theorem fn_l_word {P : Program} {w : World} {K : PySem.W.Frag} {mg : Str → Option Value} {base : Heap} {k : Nat} (kin : K.In base) (ns : base.Ns mainGlobals mg) (D : DefAt K "_law_word" s_l_word) (n_isinstance : mg "isinstance" = none) (n_ValueError : mg "ValueError" = none) (n_len : mg "len" = none) (n_int : mg "int" = none) (n_range : mg "range" = none) (cl : Cl K mg) : FnAt P w K mg base "_law_word" P_l_word f_l_word (k + 1) :=
  fnAt_M (N := N_l_word) (G := G_l_word) kin ns D sc_l_word bi_l_word (by decide +kernel) (by decide +kernel) (by decide +kernel) fun X e1 e2 e3 e4 e5 e6 g dc => b_l_word e6 g dc (by rw [e4]; exact n_isinstance) (by rw [e4]; exact n_ValueError) (by rw [e4]; exact n_len) (by rw [e4]; exact n_int) (by rw [e4]; exact n_range) (by rw [e3, e4]; exact cl)
abbrev s_l_great : Stmt := top 22
abbrev N_l_great : List Str := ["_law_pen_here", "_law_most"]
abbrev G_l_great : List Str := ["_law_draw"]
abbrev P_l_great : List Str := ["_law_pen_here"]
theorem b_l_great {X : Cx} {k : Nat} (hsc : X.env.scope = defScope s_l_great) (g : Good X N_l_great N_l_great G_l_great k) (dc : DefCx X) (c_l_draw : Cal X "_law_draw" P_l_draw f_l_draw k) : MSs X (defBody s_l_great) m_l_great :=
  (mss_cons (ms_set g 1 rfl rfl (me_ix (me_lst (ma_cons me_int (ma_cons me_int (ma_cons me_int (ma_cons (me_bin oj_pow me_int me_int) ma_nil))))) (me_call g (j := 0) rfl c_l_draw (ma_cons (me_var g 0 rfl) (ma_cons me_int ma_nil))) (fun _ _ => rfl)))
  (mss_one (ms_ret (me_bin oj_mul (me_bin oj_sub me_int (me_bin oj_mul me_int (me_call g (j := 0) rfl c_l_draw (ma_cons (me_var g 0 rfl) (ma_cons me_int ma_nil))))) (me_call g (j := 0) rfl c_l_draw (ma_cons (me_var g 0 rfl) (ma_cons (me_var g 1 rfl) ma_nil)))))))
theorem sc_l_great : FnScope N_l_great P_l_great (defScope s_l_great) := ⟨rfl, rfl, rfl, by decide +kernel, rfl, by decide +kernel, by decide +kernel⟩
theorem bi_l_great : bindsOk "_law_great" s_l_great P_l_great := fun _ _ _ _ _ _ us hl => match us, hl with | [_], _ => rfl
theorem fn_l_great {P : Program} {w : World} {K : PySem.W.Frag} {mg : Str → Option Value} {base : Heap} {k : Nat} (kin : K.In base) (ns : base.Ns mainGlobals mg) (D : DefAt K "_law_great" s_l_great) (c_l_draw : FnAt P w K mg base "_law_draw" P_l_draw f_l_draw k) : FnAt P w K mg base "_law_great" P_l_great f_l_great (k + 1) :=
  fnAt_M (N := N_l_great) (G := G_l_great) kin ns D sc_l_great bi_l_great (by decide +kernel) (by decide +kernel) (by decide +kernel) fun X e1 e2 e3 e4 e5 e6 g dc => b_l_great e6 g dc (c_l_draw.cal e1 e2 e3 e4 e5)
abbrev s_l_refused : Stmt := top 23
abbrev N_l_refused : List Str := ["_law_top", "_law_caught", "e"]
abbrev G_l_refused : List Str := ["number_of", "FillError", "_law_word"]
abbrev P_l_refused : List Str := ["_law_top"]
theorem b_l_refused {X : Cx} {k : Nat} (hsc : X.env.scope = defScope s_l_refused) (g : Good X N_l_refused N_l_refused G_l_refused k) (dc : DefCx X) (c_l_word : Cal X "_law_word" P_l_word f_l_word k) (c_number_of : Cal X "number_of" P_number_of f_number_of k) (cl : Cl X.K X.mg) : MSs X (defBody s_l_refused) m_l_refused :=
  (mss_cons (ms_set g 1 rfl rfl me_non)
  (mss_cons (ms_tryE g dc (j := 1) rfl cl.t_FillError 1 2 rfl rfl rfl rfl (by rw [hsc]; decide +kernel) (fun Y y1 y2 y3 y4 y5 y6 g dc => have c_l_word := c_l_word.at y1 y2 y3 y4 y5; have c_number_of := c_number_of.at y1 y2 y3 y4 y5; have cl : Cl Y.K Y.mg := y3.symm ▸ y4.symm ▸ cl; have hsc := (congrArg Env.scope y6).trans hsc; (mss_one (ms_expr (me_call g (j := 0) rfl c_number_of (ma_cons (me_var g 0 rfl) (ma_cons me_int ma_nil)))))) (by revert hsc; generalize X.env = env; intro h; cases env; cases h; rfl))
  (mss_one (ms_ret (me_cmp (oj_eq g.room) (me_call g (j := 2) rfl c_l_word (ma_cons (me_var g 1 rfl) ma_nil)) me_str (nomark _))))))
theorem sc_l_refused : FnScope N_l_refused P_l_refused (defScope s_l_refused) := ⟨rfl, rfl, rfl, by decide +kernel, rfl, by decide +kernel, by decide +kernel⟩
theorem bi_l_refused : bindsOk "_law_refused" s_l_refused P_l_refused := fun _ _ _ _ _ _ us hl => match us, hl with | [_], _ => rfl
theorem fn_l_refused {P : Program} {w : World} {K : PySem.W.Frag} {mg : Str → Option Value} {base : Heap} {k : Nat} (kin : K.In base) (ns : base.Ns mainGlobals mg) (D : DefAt K "_law_refused" s_l_refused) (c_l_word : FnAt P w K mg base "_law_word" P_l_word f_l_word k) (c_number_of : FnAt P w K mg base "number_of" P_number_of f_number_of k) (cl : Cl K mg) : FnAt P w K mg base "_law_refused" P_l_refused f_l_refused (k + 1) :=
  fnAt_M (N := N_l_refused) (G := G_l_refused) kin ns D sc_l_refused bi_l_refused (by decide +kernel) (by decide +kernel) (by decide +kernel) fun X e1 e2 e3 e4 e5 e6 g dc => b_l_refused e6 g dc (c_l_word.cal e1 e2 e3 e4 e5) (c_number_of.cal e1 e2 e3 e4 e5) (by rw [e3, e4]; exact cl)
abbrev s_law : Stmt := top 24
abbrev N_law : List Str := ["_law_script", "_law_k", "_law_pen_here", "_law_part", "_law_top", "_law_bottom", "_law_found"]
abbrev G_law : List Str := ["range", "_law_pen", "_law_draw", "_law_great", "_law_refused", "number_of", "repr", "_law_lowest"]
abbrev P_law : List Str := ["_law_script"]
theorem b_law {X : Cx} {k : Nat} (hsc : X.env.scope = defScope s_law) (g : Good X N_law N_law G_law k) (dc : DefCx X) (c_number_of : Cal X "number_of" P_number_of f_number_of k) (c_l_lowest : Cal X "_law_lowest" P_l_lowest f_l_lowest k) (c_l_refused : Cal X "_law_refused" P_l_refused f_l_refused k) (c_l_great : Cal X "_law_great" P_l_great f_l_great k) (c_l_draw : Cal X "_law_draw" P_l_draw f_l_draw k) (c_l_pen : Cal X "_law_pen" P_l_pen f_l_pen k) (n_range : X.mg "range" = none) (n_repr : X.mg "repr" = none) : MSs X (defBody s_law) m_law :=
  (mss_cons (ms_for g (mi_range1 (g.gl _ (mem_of (i := 0) rfl)) n_range (ma_cons me_int ma_nil)) (mg_name g 1 rfl rfl) (mss_cons (ms_set g 2 rfl rfl (me_call g (j := 1) rfl c_l_pen (ma_cons (me_var g 0 rfl) (ma_cons (me_var g 1 rfl) ma_nil))))
  (mss_cons (ms_set g 3 rfl rfl (me_bin oj_add me_int (me_call g (j := 2) rfl c_l_draw (ma_cons (me_var g 2 rfl) (ma_cons (me_ix (me_lst (ma_cons me_int (ma_cons me_int (ma_cons me_int ma_nil)))) (me_call g (j := 2) rfl c_l_draw (ma_cons (me_var g 2 rfl) (ma_cons me_int ma_nil))) (fun _ _ => rfl)) ma_nil)))))
  (mss_cons (ms_set g 4 rfl rfl (me_bin oj_mul (me_call g (j := 3) rfl c_l_great (ma_cons (me_var g 2 rfl) ma_nil)) (me_var g 3 rfl)))
  (mss_cons (ms_set g 5 rfl rfl (me_bin oj_mul (me_call g (j := 3) rfl c_l_great (ma_cons (me_var g 2 rfl) ma_nil)) (me_var g 3 rfl)))
  (mss_cons (ms_if (mt_not (mt_val (me_call g (j := 4) rfl c_l_refused (ma_cons (me_var g 4 rfl) ma_nil)))) (mss_one (ms_ret me_bl)) mss_nil)
  (mss_one (ms_if (mt_cmp (oj_ne g.room) (me_var g 5 rfl) me_int (nomark _)) (mss_cons (ms_set g 6 rfl rfl (me_call g (j := 5) rfl c_number_of (ma_cons (me_var g 4 rfl) (ma_cons (me_var g 5 rfl) ma_nil))))
  (mss_cons (ms_if (MW.mt (mw_or (mt_cmp (oj_ne g.room) (me_callB g 6 rfl (cj_repr g) n_repr PyProof.Rows.Boot.«repr» (ma_cons (me_var g 6 rfl) ma_nil)) (me_callB g 6 rfl (cj_repr g) n_repr PyProof.Rows.Boot.«repr» (ma_cons (me_call g (j := 7) rfl c_l_lowest (ma_cons (me_var g 4 rfl) (ma_cons (me_var g 5 rfl) ma_nil))) ma_nil)) (nomark _)) (mw_or1 (mt_cmp oj_lt (me_ix (me_var g 6 rfl) me_int (fun _ _ => rfl)) me_int (nomark _))))) (mss_one (ms_ret me_bl)) mss_nil)
  (mss_one (ms_if (MW.mt (mw_or (mt_cmp (oj_ne g.room) (me_call g (j := 5) rfl c_number_of (ma_cons (me_bin oj_sub me_int (me_var g 4 rfl)) (ma_cons (me_bin oj_sub me_int (me_var g 5 rfl)) ma_nil))) (me_var g 6 rfl) (nomark _)) (mw_or1 (mt_cmp (oj_ne g.room) (me_call g (j := 5) rfl c_number_of (ma_cons (me_ix (me_var g 6 rfl) me_int (fun _ _ => rfl)) (ma_cons (me_ix (me_var g 6 rfl) me_int (fun _ _ => rfl)) ma_nil))) (me_var g 6 rfl) (nomark _))))) (mss_one (ms_ret me_bl)) mss_nil)))) mss_nil))))))))
  (mss_one (ms_ret (me_and (me_cmp (oj_eq g.room) (me_call g (j := 5) rfl c_number_of (ma_cons me_int (ma_cons (me_un uj_neg me_int) ma_nil))) (me_tup (ma_cons me_int (ma_cons me_int ma_nil))) (nomark _)) (me_one (me_cmp (oj_eq g.room) (me_call g (j := 5) rfl c_number_of (ma_cons me_int (ma_cons (me_un uj_neg me_int) ma_nil))) (me_tup (ma_cons (me_un uj_neg me_int) (ma_cons me_int ma_nil))) (nomark _)))))))
theorem sc_law : FnScope N_law P_law (defScope s_law) := ⟨rfl, rfl, rfl, by decide +kernel, rfl, by decide +kernel, by decide +kernel⟩
theorem bi_law : bindsOk "law" s_law P_law := fun _ _ _ _ _ _ us hl => match us, hl with | [_], _ => rfl
theorem fn_law {P : Program} {w : World} {K : PySem.W.Frag} {mg : Str → Option Value} {base : Heap} {k : Nat} (kin : K.In base) (ns : base.Ns mainGlobals mg) (D : DefAt K "law" s_law) (c_number_of : FnAt P w K mg base "number_of" P_number_of f_number_of k) (c_l_lowest : FnAt P w K mg base "_law_lowest" P_l_lowest f_l_lowest k) (c_l_refused : FnAt P w K mg base "_law_refused" P_l_refused f_l_refused k) (c_l_great : FnAt P w K mg base "_law_great" P_l_great f_l_great k) (c_l_draw : FnAt P w K mg base "_law_draw" P_l_draw f_l_draw k) (c_l_pen : FnAt P w K mg base "_law_pen" P_l_pen f_l_pen k) (n_range : mg "range" = none) (n_repr : mg "repr" = none) : FnAt P w K mg base "law" P_law f_law (k + 1) :=
  fnAt_M (N := N_law) (G := G_law) kin ns D sc_law bi_law (by decide +kernel) (by decide +kernel) (by decide +kernel) fun X e1 e2 e3 e4 e5 e6 g dc => b_law e6 g dc (c_number_of.cal e1 e2 e3 e4 e5) (c_l_lowest.cal e1 e2 e3 e4 e5) (c_l_refused.cal e1 e2 e3 e4 e5) (c_l_great.cal e1 e2 e3 e4 e5) (c_l_draw.cal e1 e2 e3 e4 e5) (c_l_pen.cal e1 e2 e3 e4 e5) (by rw [e4]; exact n_range) (by rw [e4]; exact n_repr)
theorem all_fn {P : Program} {w : World} {K : PySem.W.Frag} {mg : Str → Option Value} {base : Heap} (kin : K.In base) (ns : base.Ns mainGlobals mg)
    (D_is_whole : DefAt K "is_whole" s_is_whole)
    (D_greatest_shared : DefAt K "greatest_shared" s_greatest_shared)
    (D_number_of : DefAt K "number_of" s_number_of)
    (D_l_pen : DefAt K "_law_pen" s_l_pen)
    (D_l_draw : DefAt K "_law_draw" s_l_draw)
    (D_l_lowest : DefAt K "_law_lowest" s_l_lowest)
    (D_l_word : DefAt K "_law_word" s_l_word)
    (D_l_great : DefAt K "_law_great" s_l_great)
    (D_l_refused : DefAt K "_law_refused" s_l_refused)
    (D_law : DefAt K "law" s_law)
    (z_ValueError : PySem.W.nsIn K mainGlobals "ValueError" = some none)
    (z_abs : PySem.W.nsIn K mainGlobals "abs" = some none)
    (z_bool : PySem.W.nsIn K mainGlobals "bool" = some none)
    (z_int : PySem.W.nsIn K mainGlobals "int" = some none)
    (z_isinstance : PySem.W.nsIn K mainGlobals "isinstance" = some none)
    (z_len : PySem.W.nsIn K mainGlobals "len" = some none)
    (z_min : PySem.W.nsIn K mainGlobals "min" = some none)
    (z_range : PySem.W.nsIn K mainGlobals "range" = some none)
    (z_repr : PySem.W.nsIn K mainGlobals "repr" = some none)
    (cl : Cl K mg)
    : FnAt P w K mg base "law" P_law f_law 4 := by
  have n_ValueError := PySem.W.mg_none_of kin ns z_ValueError
  have n_abs := PySem.W.mg_none_of kin ns z_abs
  have n_bool := PySem.W.mg_none_of kin ns z_bool
  have n_int := PySem.W.mg_none_of kin ns z_int
  have n_isinstance := PySem.W.mg_none_of kin ns z_isinstance
  have n_len := PySem.W.mg_none_of kin ns z_len
  have n_min := PySem.W.mg_none_of kin ns z_min
  have n_range := PySem.W.mg_none_of kin ns z_range
  have n_repr := PySem.W.mg_none_of kin ns z_repr
  have a_is_whole := fn_is_whole (P := P) (w := w) (k := 0) kin ns D_is_whole n_isinstance n_bool n_int
  have a_greatest_shared := fn_greatest_shared (P := P) (w := w) (k := 0) kin ns D_greatest_shared 
  have a_number_of := fn_number_of (P := P) (w := w) (k := 1) kin ns D_number_of (a_greatest_shared.mono (by decide)) (a_is_whole.mono (by decide)) n_abs cl
  have a_l_pen := fn_l_pen (P := P) (w := w) (k := 0) kin ns D_l_pen n_abs n_len n_min
  have a_l_draw := fn_l_draw (P := P) (w := w) (k := 0) kin ns D_l_draw 
  have a_l_lowest := fn_l_lowest (P := P) (w := w) (k := 0) kin ns D_l_lowest n_abs
  have a_l_word := fn_l_word (P := P) (w := w) (k := 0) kin ns D_l_word n_isinstance n_ValueError n_len n_int n_range cl
  have a_l_great := fn_l_great (P := P) (w := w) (k := 1) kin ns D_l_great (a_l_draw.mono (by decide))
  have a_l_refused := fn_l_refused (P := P) (w := w) (k := 2) kin ns D_l_refused (a_l_word.mono (by decide)) (a_number_of.mono (by decide)) cl
  have a_law := fn_law (P := P) (w := w) (k := 3) kin ns D_law (a_number_of.mono (by decide)) (a_l_lowest.mono (by decide)) (a_l_refused.mono (by decide)) (a_l_great.mono (by decide)) (a_l_draw.mono (by decide)) (a_l_pen.mono (by decide)) n_range n_repr
  exact a_law
end Law

open PySem PySem.W PyProof.Rows
set_option maxRecDepth 100000 in
set_option maxHeartbeats 0 in
theorem PySem.Challenge.cw_fewfills_k01_numbers_made_holds : PySem.Challenge.rw_fewfills_k01_numbers_made.Holds := by
  w_on; o_law; k_head; (case hw => w_witness2)
  k_fill
  refine MM.walk_M (l := PySem.Challenge.rw_fewfills_k01_numbers_made) (k := 4) (x := "_law_script") (F := Law.f_law) rfl rfl ⟨rfl, by decide, by decide, rfl⟩ (fun w h Y => PySem.W.kIn_of Y) ?F Law.law_true
  case F =>
    intro w mg fa h KX G hmg
    have Dlaw : MM.DefAt (L2.KOf KX) "law" Law.s_law := by
      dsimp only [L2.KOf]
      refine' MM.defAt_mk ?a ?l ?c ?k
      (case a => k_is); (case l => k_is); (case c => k_is); (case k => k_is)
    have Dis_whole : MM.DefAt (L2.KOf KX) "is_whole" Law.s_is_whole := by
      dsimp only [L2.KOf]
      refine' MM.defAt_mk ?a ?l ?c ?k
      (case a => k_is); (case l => k_is); (case c => k_is); (case k => k_is)
    have Dgreatest_shared : MM.DefAt (L2.KOf KX) "greatest_shared" Law.s_greatest_shared := by
      dsimp only [L2.KOf]
      refine' MM.defAt_mk ?a ?l ?c ?k
      (case a => k_is); (case l => k_is); (case c => k_is); (case k => k_is)
    have Dnumber_of : MM.DefAt (L2.KOf KX) "number_of" Law.s_number_of := by
      dsimp only [L2.KOf]
      refine' MM.defAt_mk ?a ?l ?c ?k
      (case a => k_is); (case l => k_is); (case c => k_is); (case k => k_is)
    have Dl_pen : MM.DefAt (L2.KOf KX) "_law_pen" Law.s_l_pen := by
      dsimp only [L2.KOf]
      refine' MM.defAt_mk ?a ?l ?c ?k
      (case a => k_is); (case l => k_is); (case c => k_is); (case k => k_is)
    have Dl_draw : MM.DefAt (L2.KOf KX) "_law_draw" Law.s_l_draw := by
      dsimp only [L2.KOf]
      refine' MM.defAt_mk ?a ?l ?c ?k
      (case a => k_is); (case l => k_is); (case c => k_is); (case k => k_is)
    have Dl_lowest : MM.DefAt (L2.KOf KX) "_law_lowest" Law.s_l_lowest := by
      dsimp only [L2.KOf]
      refine' MM.defAt_mk ?a ?l ?c ?k
      (case a => k_is); (case l => k_is); (case c => k_is); (case k => k_is)
    have Dl_word : MM.DefAt (L2.KOf KX) "_law_word" Law.s_l_word := by
      dsimp only [L2.KOf]
      refine' MM.defAt_mk ?a ?l ?c ?k
      (case a => k_is); (case l => k_is); (case c => k_is); (case k => k_is)
    have Dl_great : MM.DefAt (L2.KOf KX) "_law_great" Law.s_l_great := by
      dsimp only [L2.KOf]
      refine' MM.defAt_mk ?a ?l ?c ?k
      (case a => k_is); (case l => k_is); (case c => k_is); (case k => k_is)
    have Dl_refused : MM.DefAt (L2.KOf KX) "_law_refused" Law.s_l_refused := by
      dsimp only [L2.KOf]
      refine' MM.defAt_mk ?a ?l ?c ?k
      (case a => k_is); (case l => k_is); (case c => k_is); (case k => k_is)
    have ZValueError : PySem.W.nsIn (L2.KOf KX) mainGlobals "ValueError" = some none := by
      dsimp only [L2.KOf]
      k_is
    have Zabs : PySem.W.nsIn (L2.KOf KX) mainGlobals "abs" = some none := by
      dsimp only [L2.KOf]
      k_is
    have Zbool : PySem.W.nsIn (L2.KOf KX) mainGlobals "bool" = some none := by
      dsimp only [L2.KOf]
      k_is
    have Zint : PySem.W.nsIn (L2.KOf KX) mainGlobals "int" = some none := by
      dsimp only [L2.KOf]
      k_is
    have Zisinstance : PySem.W.nsIn (L2.KOf KX) mainGlobals "isinstance" = some none := by
      dsimp only [L2.KOf]
      k_is
    have Zlen : PySem.W.nsIn (L2.KOf KX) mainGlobals "len" = some none := by
      dsimp only [L2.KOf]
      k_is
    have Zmin : PySem.W.nsIn (L2.KOf KX) mainGlobals "min" = some none := by
      dsimp only [L2.KOf]
      k_is
    have Zrange : PySem.W.nsIn (L2.KOf KX) mainGlobals "range" = some none := by
      dsimp only [L2.KOf]
      k_is
    have Zrepr : PySem.W.nsIn (L2.KOf KX) mainGlobals "repr" = some none := by
      dsimp only [L2.KOf]
      k_is
    have CL : Law.ClK (L2.KOf KX) := by
      dsimp only [L2.KOf]
      refine' Law.clK_mk ?a_FillError ?a_NoNumber ?a_NoOrder ?a_NoParting ?a_NoPivot ?a_NoPlace ?a_NoRow ?a_NoSheet ?a_NoText ?a_NoWeb ?a_NoWord ?a_TooMany ?e_FillError ?e_NoNumber ?ga_NoNumber ?cl_NoNumber ?gt_NoNumber ?mo_NoNumber ?mb_NoNumber ?m_FillError_NoNumber ?y_FillError ?k_FillError_NoNumber ?y_NoNumber ?k_NoNumber_NoNumber ?y_NoOrder ?k_NoOrder_NoNumber ?y_NoParting ?k_NoParting_NoNumber ?y_NoPivot ?k_NoPivot_NoNumber ?y_NoPlace ?k_NoPlace_NoNumber ?y_NoRow ?k_NoRow_NoNumber ?y_NoSheet ?k_NoSheet_NoNumber ?y_NoText ?k_NoText_NoNumber ?y_NoWeb ?k_NoWeb_NoNumber ?y_NoWord ?k_NoWord_NoNumber ?y_TooMany ?k_TooMany_NoNumber ?k_ValueError_NoNumber
      (case a_FillError => k_is)
      (case a_NoNumber => k_is)
      (case a_NoOrder => k_is)
      (case a_NoParting => k_is)
      (case a_NoPivot => k_is)
      (case a_NoPlace => k_is)
      (case a_NoRow => k_is)
      (case a_NoSheet => k_is)
      (case a_NoText => k_is)
      (case a_NoWeb => k_is)
      (case a_NoWord => k_is)
      (case a_TooMany => k_is)
      (case e_FillError => k_exc)
      (case e_NoNumber => k_exc)
      (case ga_NoNumber => k_is)
      (case cl_NoNumber => k_is)
      (case gt_NoNumber => k_is)
      (case mo_NoNumber => k_is)
      (case mb_NoNumber => k_is)
      (case m_FillError_NoNumber => k_is)
      (case y_FillError => kit_is)
      (case k_FillError_NoNumber => kit_is)
      (case y_NoNumber => kit_is)
      (case k_NoNumber_NoNumber => kit_is)
      (case y_NoOrder => kit_is)
      (case k_NoOrder_NoNumber => kit_is)
      (case y_NoParting => kit_is)
      (case k_NoParting_NoNumber => kit_is)
      (case y_NoPivot => kit_is)
      (case k_NoPivot_NoNumber => kit_is)
      (case y_NoPlace => kit_is)
      (case k_NoPlace_NoNumber => kit_is)
      (case y_NoRow => kit_is)
      (case k_NoRow_NoNumber => kit_is)
      (case y_NoSheet => kit_is)
      (case k_NoSheet_NoNumber => kit_is)
      (case y_NoText => kit_is)
      (case k_NoText_NoNumber => kit_is)
      (case y_NoWeb => kit_is)
      (case k_NoWeb_NoNumber => kit_is)
      (case y_NoWord => kit_is)
      (case k_NoWord_NoNumber => kit_is)
      (case y_TooMany => kit_is)
      (case k_TooMany_NoNumber => kit_is)
      (case k_ValueError_NoNumber => kit_is)
    exact MM.head_M Dlaw Law.bi_law hmg KX G fun base kb nb => Law.all_fn kb nb Dis_whole Dgreatest_shared Dnumber_of Dl_pen Dl_draw Dl_lowest Dl_word Dl_great Dl_refused Dlaw ZValueError Zabs Zbool Zint Zisinstance Zlen Zmin Zrange Zrepr (CL.cl kb nb)
