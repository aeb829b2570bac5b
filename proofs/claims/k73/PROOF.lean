import PyProof.Rows.All
import Wide.All
import OpenK.AllK
import Wide.FinOn
import PyProof.EqAt
import PyProof.EqKinds
import PyProof.NeKinds
import PyProof.TupleCall
import PyProof.ExcArgsOwn
import PyProof.EnumFor
import PyProof.EnumStmt
import PyProof.EnumMake
import Lean
import KE.KDictList
import KE.KDictOf
import KE.KDictSum
import KE.KEqDict
import KE.KItemsList
import KE.KPairComp
import KE.KRevIter
import KE.KSortTup
import KE.KTupSum
import PyProof.AttrMiss
import PyProof.EnumFor
import PyProof.EnumMake
import PyProof.IsiH_list
import PyProof.Rows.ZipForRows
import PyProof.TupleIter
import PySem.Challenge.RW_endnever_k73_whole_blocks_within_blocks
local macro_rules | `(tactic| omega) => `(tactic| first | with_reducible assumption | with_reducible exact Nat.le_of_lt (by assumption) | with_reducible exact Nat.lt_of_lt_of_le (by assumption) (by assumption) | with_reducible exact Nat.lt_of_le_of_lt (by assumption) (by assumption) | with_reducible exact Nat.le_trans (by assumption) (by assumption) | with_reducible exact Nat.zero_le _ | lia | omega (config := {}))
set_option genSizeOf false
set_option Elab.async false
set_option linter.all false
set_option maxRecDepth 100000
set_option maxHeartbeats 4000000
section
-- CHANGE: your row's module here, as the last of these rows
set_option Elab.async false
set_option linter.all false
set_option maxRecDepth 100000
/-! THE HAND LAYER, for ints, bools, texts, own classes, LISTS and tuples (index, slices, in, append, pop ..), calls, loops. Paste it whole ahead of your own text; what your proof does not reach may be deleted. -/
namespace L2
open PySem PySem.Spec PyProof.Rows

/-- a key: an int or a str -/
abbrev Key := Sum Int Str
def keyIs : Key → Value → Bool
  | .inl k, v => Value.isInt k v
  | .inr x, v => Value.isStrOf x v
def keyH (w : World) : Key → Int
  | .inl k => hashInt k
  | .inr x => hashStr w x
theorem keyIs_shape : ∀ {k : Key} {v : Value}, keyIs k v = true → (∃ i t, k = Sum.inl i ∧ v = Value.int i t) ∨ (∃ x t, k = Sum.inr x ∧ v = Value.str x t)
  | .inl i, v, h => by
    obtain ⟨t, e⟩ := Value.isInt_shape (k := i) (v := v) h
    exact .inl ⟨i, t, rfl, e⟩
  | .inr x, v, h => by
    obtain ⟨t, e⟩ := Value.isStrOf_shape (x := x) (v := v) h
    exact .inr ⟨x, t, rfl, e⟩
theorem keyIs_int (i : Int) (t : Tok) : keyIs (.inl i) (.int i t) = true := by simp [keyIs, Value.isInt]
theorem keyIs_str (x : Str) (t : Tok) : keyIs (.inr x) (.str x t) = true := by simp [keyIs, Value.isStrOf]
theorem key_ll (a b : Int) : decide ((Sum.inl a : Key) = Sum.inl b) = (a == b) := by
  by_cases e : a = b
  · subst e; simp
  · have h : ¬ (Sum.inl a : Key) = Sum.inl b := fun q => e (Sum.inl.inj q)
    rw [decide_eq_false h]
    exact (beq_eq_false_iff_ne.mpr e).symm
theorem key_rr (a b : Str) : decide ((Sum.inr a : Key) = Sum.inr b) = decide (a = b) := by
  by_cases e : a = b
  · subst e; simp
  · have h : ¬ (Sum.inr a : Key) = Sum.inr b := fun q => e (Sum.inr.inj q)
    rw [decide_eq_false h, decide_eq_false e]
theorem key_lr (a : Int) (b : Str) : decide ((Sum.inl a : Key) = Sum.inr b) = false := decide_eq_false (fun q => nomatch q)
theorem key_rl (a : Str) (b : Int) : decide ((Sum.inr a : Key) = Sum.inl b) = false := decide_eq_false (fun q => nomatch q)

def mixKind (prog : Program) (w : World) : PySem.KeyKind prog w Key where
  is := keyIs
  hash := keyH w
  inj := fun v a b ha hb => by
    rcases keyIs_shape ha with ⟨i, t, rfl, rfl⟩ | ⟨x, t, rfl, rfl⟩
    · rcases keyIs_shape hb with ⟨j, u, rfl, e⟩ | ⟨y, u, rfl, e⟩
      · injection e with e1 _; rw [e1]
      · exact nomatch e
    · rcases keyIs_shape hb with ⟨j, u, rfl, e⟩ | ⟨y, u, rfl, e⟩
      · exact nomatch e
      · injection e with e1 _; rw [e1]
  byValue := fun k v h => by
    rcases keyIs_shape h with ⟨i, t, rfl, rfl⟩ | ⟨x, t, rfl, rfl⟩ <;> rfl
  pyHash := fun hv h => by
    rcases keyIs_shape hv with ⟨i, t, rfl, rfl⟩ | ⟨x, t, rfl, rfl⟩
    · exact wpAny_pyHash_int h
    · exact wpAny_pyHash_str h
  eqBool := fun hu hv h => by
    rcases keyIs_shape hu with ⟨i, t, rfl, rfl⟩ | ⟨x, t, rfl, rfl⟩
    · rcases keyIs_shape hv with ⟨j, u, rfl, rfl⟩ | ⟨y, u, rfl, rfl⟩
      · rw [key_ll] at h; exact wpAny_eqBool_int h
      · rw [key_lr] at h; exact SeqAt.EqAt.int_str i t y u _ _ _ _ h
    · rcases keyIs_shape hv with ⟨j, u, rfl, rfl⟩ | ⟨y, u, rfl, rfl⟩
      · rw [key_rl] at h; exact SeqAt.EqAt.str_int x t j u _ _ _ _ h
      · rw [key_rr] at h; exact wpAny_eqBool_str h
  «strs» := fun k x t v h => by
    rcases keyIs_shape h with ⟨i, u, rfl, e⟩ | ⟨y, u, rfl, e⟩
    · exact nomatch e
    · injection e with e1 _
      subst e1
      cases v <;> rfl

theorem mixKind_int (prog : Program) (w : World) (i : Int) (t : Tok) : (mixKind prog w).is (.inl i) (.int i t) = true := keyIs_int i t
theorem mixKind_str (prog : Program) (w : World) (x : Str) (t : Tok) : (mixKind prog w).is (.inr x) (.str x t) = true := keyIs_str x t
end L2

namespace L2
open PySem PySem.Spec PyProof.Rows

/-- a value, without the heap -/
inductive V where
  | non | bl (b : Bool) | int (i : Int) | str (x : Str) | byt (b : Array UInt8) | flt (b : UInt64) | ref (a : Addr) | ty (n : String)
  deriving DecidableEq

def RelV : V → Value → Prop
  | .non, u => u = Value.none
  | .bl b, u => u = Value.bool b
  | .int i, u => ∃ t, u = Value.int i t
  | .str x, u => ∃ t, u = Value.str x t
  | .byt b, u => ∃ t, u = Value.bytes b t
  | .flt b, u => ∃ t, u = Value.float b t
  | .ref a, u => u = Value.ref a
  | .ty n, u => u = Value.type n

abbrev Vals : List V → List Value → Prop := Paired RelV
theorem Vals.length {xs : List V} {us : List Value} (r : Vals xs us) : xs.length = us.length := Paired.length r
theorem Vals.get : ∀ {xs : List V} {us : List Value} {i : Nat} {x : V}, Vals xs us → xs[i]? = some x → ∃ u, us[i]? = some u ∧ RelV x u
  | _, _, _, _, .nil, e => by simp at e
  | _, _, 0, _, .cons r _, e => by simp at e; subst e; exact ⟨_, rfl, r⟩
  | _, _, i + 1, x, .cons _ t, e => by
    obtain ⟨u, h1, h2⟩ := Vals.get (i := i) (x := x) t (by simpa using e)
    exact ⟨u, by simpa using h1, h2⟩
theorem Vals.set {x : V} {u : Value} (r : RelV x u) : ∀ {xs : List V} {us : List Value} (i : Nat), Vals xs us → Vals (xs.set i x) (us.set i u)
  | _, _, _, .nil => .nil
  | _, _, 0, .cons _ t => .cons r t
  | _, _, i + 1, .cons q t => .cons q (Vals.set r i t)
theorem Vals.append : ∀ {xs ys : List V} {us ws : List Value}, Vals xs us → Vals ys ws → Vals (xs ++ ys) (us ++ ws)
  | _, _, _, _, .nil, s => s
  | _, _, _, _, .cons r t, s => .cons r (Vals.append t s)
theorem Vals.take : ∀ {xs : List V} {us : List Value} (n : Nat), Vals xs us → Vals (xs.take n) (us.take n)
  | _, _, 0, _ => .nil
  | _, _, _ + 1, .nil => .nil
  | _, _, n + 1, .cons r t => .cons r (Vals.take n t)
theorem Vals.drop : ∀ {xs : List V} {us : List Value} (n : Nat), Vals xs us → Vals (xs.drop n) (us.drop n)
  | _, _, 0, r => r
  | _, _, _ + 1, .nil => .nil
  | _, _, n + 1, .cons _ t => Vals.drop n t
def RelO : Option V → Option Value → Prop
  | some v, some u => RelV v u
  | none, none => True
  | _, _ => False
def KV {κ : Type} : List (κ × V) → List (κ × Value) → Prop := Paired fun (p : κ × V) (q : κ × Value) => p.1 = q.1 ∧ RelV p.2 q.2

/-- a key of a dict (00_mix): an int or a text -/
def kV : Key → V
  | .inl i => .int i
  | .inr x => .str x

/-- what stands at a tracked address -/
inductive HO where
  /-- a list -/
  | lst (xs : List V)
  /-- a tuple (never changes) -/
  | tup (xs : List V)
  /-- a dict whose keys are ints and texts; one whose keys are tuples of ints and texts (the empty one is both) -/
  | dK (kvs : List (Key × V)) | dT (kvs : List (List Key × V))
  /-- a set of ints: its members, its size -/
  | set (S : Int → Bool) (n : Nat)
  /-- an instance of the class at C, its dict at dx, its attributes -/
  | ins (C dx : Addr) (fs : List (Str × V))
  /-- the dict of the instance at x -/
  | own (x : Addr)
  /-- the dict of an exception -/
  | xd (fs : List (Str × V))
  /-- a bound method, f of x -/
  | met (f x : Addr)
  /-- a range object lo, lo + 1, .. below hi -/
  | rng (lo hi : Int)
  /-- a thing that is known to the object (the script; a dict while a loop walks it): read, never written while it is so -/
  | frz (o : Obj) (u : HO)
  /-- a code object's table -/
  | tbl (ps : Array Value)
  /-- any other thing, by what is true of its one object (a def of one's own: SetO a S n := HO.ext fun h => ..) -/
  | ext (φ : Heap → Prop)

abbrev Hp := Addr → Option HO
def upd (H : Hp) (a : Addr) (o : HO) : Hp := fun b => if b = a then some o else H b
theorem upd_same {H : Hp} {a : Addr} {o : HO} : upd H a o a = some o := by unfold upd; rw [if_pos rfl]
theorem upd_ne {H : Hp} {a b : Addr} {o : HO} (h : b ≠ a) : upd H a o b = H b := by unfold upd; rw [if_neg h]
/-- two objects of different content stand apart -/
theorem ne_of {H : Hp} {a b : Addr} {o u : HO} (h : H a = some o) (h' : H b = some u) (d : o ≠ u) : a ≠ b := by
  intro e; subst e; rw [h] at h'; exact d (Option.some.inj h')
theorem ne_of_none {H : Hp} {a b : Addr} {o : HO} (h : H a = some o) (h' : H b = none) : a ≠ b := by
  intro e; subst e; rw [h] at h'; cases h'

section
variable (P : Program) (w : World)
def ObjOk (H : Hp) (h : Heap) (a : Addr) : HO → Prop
  | .lst xs => xs.length ≤ sizeLine ∧ ∃ (its : List Value) (n : Nat), Vals xs its ∧ h.get? a = some { cls := .type "list", data := .seq its.toArray n }
  | .tup xs => xs.length ≤ sizeLine ∧ ∃ its : List Value, Vals xs its ∧ IsTup h a its.toArray
  | .dK kvs => kvs.length ≤ sizeLine ∧ (a == sysModules) = false ∧ ∃ vs, KV kvs vs ∧ h.DictOf (mixKind P w) a vs
  | .dT kvs => kvs.length ≤ sizeLine ∧ (a == sysModules) = false ∧ ∃ xs : List (List Key × Addr × Value),
      Paired (fun (p : List Key × V) (q : List Key × Addr × Value) => p.1 = q.1 ∧ H q.2.1 = some (.tup (p.1.map kV)) ∧ RelV p.2 q.2.2) kvs xs ∧
      ∃ o es ep, h.get? a = some o ∧ o.ExactDict ∧ o.data = .dict es ep ∧ es.toList = xs.map (entryOfKey (tupleKind (mixKind P w))) ∧ (xs.map (·.1)).Nodup
  | .set S n => h.SetOf (intKind P w) a S n
  | .ins C dx fs => H dx = some (.own a) ∧ fs.length ≤ 1000 ∧ dx ≠ a ∧ h.get? a = some (PySem.W.instObj C dx) ∧
      ∃ mA, h.Ns1 dx mA ∧ (∀ f, RelO (fs.lookup f) (mA f)) ∧ PySem.Within mA (fs.map (·.1))
  | .own _ => ∃ o, h.get? a = some o
  | .xd fs => ∃ mA, h.Ns1 a mA ∧ ∀ f, RelO (fs.lookup f) (mA f)
  | .rng lo hi => ∃ t u v, h.get? a = some { cls := .type "range", data := .fields #[.int lo t, .int hi u, .int 1 v] }
  | .frz o u => h.get? a = some o ∧ ObjOk H h a u
  | .tbl ps => h.get? a = some { cls := .none, data := .fields ps }
  | .met f x => h.get? a = some (PySem.W.methodObj (.ref f) (.ref x))
  | .ext φ => φ h ∧ (∃ o, h.get? a = some o) ∧ ∀ h1 h2 : Heap, φ h1 → (∀ o, h1.get? a = some o → h2.get? a = some o) → φ h2
/-- the abstract heap is held -/
def HOk (H : Hp) (h : Heap) : Prop := ∀ a o, H a = some o → ObjOk P w H h a o
end

section
variable {P : Program} {w : World} {H H' : Hp} {h h' : Heap} {a : Addr} {o : HO}
theorem ObjOk.lt (x : ObjOk P w H h a o) : a < h.objs.size := by
  cases o with
  | lst xs => obtain ⟨_, _, _, _, e⟩ := x; exact Heap.lt_size e
  | tup xs => obtain ⟨_, _, _, p⟩ := x; exact p.lt
  | dK kvs => obtain ⟨_, _, _, _, o, _, _, e, _⟩ := x; exact Heap.lt_size e
  | dT kvs => obtain ⟨_, _, _, _, o, _, _, e, _⟩ := x; exact Heap.lt_size e
  | set S n => obtain ⟨o, _, _, _, e, _⟩ := x; exact Heap.lt_size e
  | ins C dx fs => obtain ⟨_, _, _, e, _⟩ := x; exact Heap.lt_size e
  | own y => obtain ⟨_, e⟩ := x; exact Heap.lt_size e
  | xd fs => obtain ⟨_, ⟨_, _, _, e, _⟩, _⟩ := x; exact Heap.lt_size e
  | rng lo hi => obtain ⟨_, _, _, e⟩ := x; exact Heap.lt_size e
  | frz ob u => obtain ⟨e, _⟩ := x; exact Heap.lt_size e
  | tbl ps => exact Heap.lt_size (show h.get? a = some _ from x)
  | met f y => exact Heap.lt_size (show h.get? a = some _ from x)
  | ext φ => obtain ⟨_, ⟨_, e⟩, _⟩ := x; exact Heap.lt_size e
theorem Paired.mapP {α β : Type} {F G : α → β → Prop} : ∀ {l₁ : List α} {l₂ : List β}, Paired F l₁ l₂ → (∀ a b, F a b → G a b) → Paired G l₁ l₂
  | _, _, .nil, _ => .nil
  | _, _, .cons r t, f => .cons (f _ _ r) (Paired.mapP t f)
/-- what an object's description leans on: its own object, its own dict, the tuples -/
theorem ObjOk.stay (x : ObjOk P w H h a o) (k : ∀ b u, (b = a ∨ H b = some (.own a)) → h.get? b = some u → h'.get? b = some u)
    (ho : ∀ b, H b = some (.own a) → H' b = some (.own a)) (ht : ∀ b xs, H b = some (.tup xs) → H' b = some (.tup xs)) : ObjOk P w H' h' a o := by
  induction o with
  | lst xs => obtain ⟨z, its, n, r, e⟩ := x; exact ⟨z, its, n, r, k _ _ (.inl rfl) e⟩
  | tup xs => obtain ⟨z, its, r, ob, e, c⟩ := x; exact ⟨z, its, r, ob, k _ _ (.inl rfl) e, c⟩
  | dK kvs => obtain ⟨z, y, vs, r, ob, es, ep, e, c⟩ := x; exact ⟨z, y, vs, r, ob, es, ep, k _ _ (.inl rfl) e, c⟩
  | dT kvs =>
    obtain ⟨z, y, xs, r, ob, es, ep, e, c⟩ := x
    exact ⟨z, y, xs, Paired.mapP r fun p q z => ⟨z.1, ht _ _ z.2.1, z.2.2⟩, ob, es, ep, k _ _ (.inl rfl) e, c⟩
  | set S n => obtain ⟨ob, es, ep, t, e, c⟩ := x; exact ⟨ob, es, ep, t, k _ _ (.inl rfl) e, c⟩
  | ins C dx fs =>
    obtain ⟨d, z, ne, e, mA, ⟨od, es, ep, e2, c⟩, r⟩ := x
    exact ⟨ho _ d, z, ne, k _ _ (.inl rfl) e, mA, ⟨od, es, ep, k _ _ (.inr d) e2, c⟩, r⟩
  | own y => obtain ⟨ob, e⟩ := x; exact ⟨ob, k _ _ (.inl rfl) e⟩
  | xd fs => obtain ⟨mA, ⟨od, es, ep, e, c⟩, r⟩ := x; exact ⟨mA, ⟨od, es, ep, k _ _ (.inl rfl) e, c⟩, r⟩
  | rng lo hi => obtain ⟨t, u, v, e⟩ := x; exact ⟨t, u, v, k _ _ (.inl rfl) e⟩
  | frz ob u ih => obtain ⟨e, q⟩ := x; exact ⟨k _ _ (.inl rfl) e, ih q⟩
  | tbl ps =>
    have e : h.get? a = some { cls := .none, data := .fields ps } := x
    show h'.get? a = some { cls := .none, data := .fields ps }
    exact k a _ (.inl rfl) e
  | met f y =>
    have e : h.get? a = some (PySem.W.methodObj (.ref f) (.ref y)) := x
    show h'.get? a = some (PySem.W.methodObj (.ref f) (.ref y))
    exact k a _ (.inl rfl) e
  | ext φ => obtain ⟨p, ⟨o, e⟩, st⟩ := x; exact ⟨st _ _ p fun o q => k _ _ (.inl rfl) q, ⟨o, k _ _ (.inl rfl) e⟩, st⟩
theorem HOk.lt (x : HOk P w H h) (e : H a = some o) : a < h.objs.size := (x a o e).lt
theorem HOk.fresh (x : HOk P w H h) (e : h.objs.size ≤ a) : H a = none := by
  cases q : H a with
  | none => rfl
  | some u => exact absurd (Nat.lt_of_lt_of_le (x.lt q) e) (Nat.lt_irrefl _)
/-- every object of the heap is kept -/
theorem HOk.kept (x : HOk P w H h) (k : ∀ b u, h.get? b = some u → h'.get? b = some u) : HOk P w H h' := fun a o e =>
  (x a o e).stay (fun b u _ q => k b u q) (fun _ q => q) fun _ _ q => q
/-- a new object is laid and tracked -/
theorem HOk.laid (x : HOk P w H h) (k : ∀ b u, h.get? b = some u → h'.get? b = some u) (hp : h.objs.size ≤ a) (new : ObjOk P w (upd H a o) h' a o) : HOk P w (upd H a o) h' := fun b u e => by
  have hn := x.fresh hp
  by_cases hb : b = a
  · subst hb; rw [upd_same] at e; cases e; exact new
  · rw [upd_ne hb] at e
    exact (x b u e).stay (fun c v _ q => k c v q) (fun c q => by rw [upd_ne (ne_of_none q hn)]; exact q) fun c xs q => by rw [upd_ne (ne_of_none q hn)]; exact q
end

/-- what may be read as u: it is u, or a known u -/
def Rd (H : Hp) (a : Addr) (u : HO) : Prop := H a = some u ∨ ∃ o, H a = some (.frz o u)
theorem Rd.ok {P : Program} {w : World} {H : Hp} {h : Heap} {a : Addr} {u : HO} (r : Rd H a u) (x : HOk P w H h) : ObjOk P w H h a u := by
  rcases r with r | ⟨o, r⟩
  · exact x a u r
  · obtain ⟨_, q⟩ := x a _ r
    exact q
/-- what may be written -/
def Mut : Option HO → Prop
  | some (.lst _) => True
  | some (.dK _) => True
  | some (.dT _) => True
  | some (.set _ _) => True
  | some (.ins _ _ _) => True
  | some (.ext _) => True
  | _ => False
section
variable {P : Program} {w : World} {H : Hp} {h h' : Heap} {x e : Addr} {o' : HO}
/-- the object at e is changed: x itself, or the dict of the instance x -/
theorem HOk.write (ok : HOk P w H h) (mu : Mut (H x)) (he : e = x ∨ H e = some (.own x)) (k : ∀ b u, b ≠ e → h.get? b = some u → h'.get? b = some u) (heo : ∃ u, h'.get? e = some u)
    (new : ObjOk P w (upd H x o') h' x o') : HOk P w (upd H x o') h' := fun b u q => by
  have nown : ∀ c y, H c = some (.own y) → c ≠ x := fun c y r z => by subst z; rw [r] at mu; exact mu
  have ntup : ∀ c xs, H c = some (.tup xs) → c ≠ x := fun c xs r z => by subst z; rw [r] at mu; exact mu
  by_cases hb : b = x
  · subst hb; rw [upd_same] at q; cases q; exact new
  · rw [upd_ne hb] at q
    by_cases hbe : b = e
    · have q' : H b = some (.own x) := by
        rcases he with z | z
        · exact absurd (hbe.trans z) hb
        · rw [hbe]; exact z
      rw [q] at q'; cases q'
      obtain ⟨v, hv⟩ := heo
      exact ⟨v, by rw [hbe]; exact hv⟩
    · refine (ok b u q).stay (fun c v hc r => k c v ?_ r) (fun c r => by rw [upd_ne (nown c b r)]; exact r) fun c xs r => by rw [upd_ne (ntup c xs r)]; exact r
      rcases hc with rfl | hc
      · exact hbe
      · rintro rfl
        rcases he with z | z
        · exact nown c b hc z
        · rw [hc] at z; cases z; exact hb rfl
end

/-! ### kept unless tracked; of the frames at fs (the callers') the slots may change (an exception that passes writes there); of the records at ex (iterators) nothing is said -/
structure Un (fs ex : List Addr) (H H' : Hp) (h h' : Heap) : Prop where
  keep : ∀ b o, h.get? b = some o → H b = none → b ∉ fs → b ∉ ex → h'.get? b = some o
  slot : ∀ b o, h.get? b = some o → H b = none → b ∈ fs → b ∉ ex → ∃ sl, h'.get? b = some { o with slots := sl }
  free : ∀ b o, h.get? b = some o → H b = none → b ∉ ex → H' b = none
  there : ∀ b o, h.get? b = some o → b ∉ ex → ∃ o', h'.get? b = some o'
  tups : ∀ b xs, H b = some (.tup xs) → H' b = some (.tup xs)
  frzs : ∀ b o u, H b = some (.frz o u) → H' b = some (.frz o u)
  tbls : ∀ b ps, H b = some (.tbl ps) → ∃ more, H' b = some (.tbl (ps ++ more))
section
variable {fs fs' ex ex' : List Addr} {H H1 H2 : Hp} {h h1 h2 h' : Heap} {a x e : Addr} {o : HO}
theorem Un.any (u : Un fs ex H H1 h h1) {b : Addr} {ob : Obj} (q : h.get? b = some ob) (n : H b = none) (hx : b ∉ ex) : ∃ sl, h1.get? b = some { ob with slots := sl } := by
  by_cases hb : b ∈ fs
  · exact u.slot b ob q n hb hx
  · exact ⟨ob.slots, u.keep b ob q n hb hx⟩
theorem Un.trans (a : Un fs ex H H1 h h1) (b : Un fs ex H1 H2 h1 h2) : Un fs ex H H2 h h2 where
  keep := fun c ob q n hc hx => b.keep c ob (a.keep c ob q n hc hx) (a.free c ob q n hx) hc hx
  slot := fun c ob q n hc hx => by
    obtain ⟨sl, e1⟩ := a.slot c ob q n hc hx
    obtain ⟨sl', e2⟩ := b.slot c _ e1 (a.free c ob q n hx) hc hx
    exact ⟨sl', e2⟩
  free := fun c ob q n hx => by
    obtain ⟨o', e1⟩ := a.there c ob q hx
    exact b.free c o' e1 (a.free c ob q n hx) hx
  there := fun c ob q hx => by
    obtain ⟨o', e1⟩ := a.there c ob q hx
    exact b.there c o' e1 hx
  tups := fun c xs q => b.tups c xs (a.tups c xs q)
  frzs := fun c ob xs q => b.frzs c ob xs (a.frzs c ob xs q)
  tbls := fun c ps q => by
    obtain ⟨m1, e1⟩ := a.tbls c ps q
    obtain ⟨m2, e2⟩ := b.tbls c _ e1
    exact ⟨m1 ++ m2, by rw [e2, Array.append_assoc]⟩
theorem Un.kept (k : ∀ b u, h.get? b = some u → h'.get? b = some u) : Un fs ex H H h h' :=
  ⟨fun b ob q _ _ _ => k b ob q, fun b ob q _ _ _ => ⟨ob.slots, k b ob q⟩, fun _ _ _ n _ => n, fun b ob q _ => ⟨ob, k b ob q⟩, fun _ _ q => q, fun _ _ _ q => q, fun _ ps q => ⟨#[], by rw [q]; simp⟩⟩
theorem Un.refl : Un fs ex H H h h := Un.kept fun _ _ q => q
theorem Un.laid (k : ∀ b u, h.get? b = some u → h'.get? b = some u) (hp : h.objs.size ≤ a) (hn : H a = none) : Un fs ex H (upd H a o) h h' where
  keep := fun b u q _ _ _ => k b u q
  slot := fun b u q _ _ _ => ⟨u.slots, k b u q⟩
  free := fun b u q n _ => by rw [upd_ne (Nat.ne_of_lt (Nat.lt_of_lt_of_le (Heap.lt_size q) hp))]; exact n
  there := fun b u q _ => ⟨u, k b u q⟩
  tups := fun b xs q => by rw [upd_ne (ne_of_none q hn)]; exact q
  frzs := fun b u xs q => by rw [upd_ne (ne_of_none q hn)]; exact q
  tbls := fun b ps q => ⟨#[], by rw [upd_ne (ne_of_none q hn), q]; simp⟩
theorem Un.write (mu : Mut (H x)) (he : e = x ∨ H e = some (.own x)) (k : ∀ b u, b ≠ e → h.get? b = some u → h'.get? b = some u) (heo : ∃ u, h'.get? e = some u) : Un fs ex H (upd H x o) h h' := by
  have hx : ∀ b, H b = none → b ≠ x := fun b n z => by subst z; rw [n] at mu; exact mu
  have hb : ∀ b, H b = none → b ≠ e := fun b n z => by
    subst z
    rcases he with r | r
    · exact hx b n r
    · rw [n] at r; cases r
  have hm : ∀ b u, H b = some u → ¬ Mut (some u) → b ≠ x := fun b u q nm z => by subst z; rw [q] at mu; exact nm mu
  refine ⟨fun b u q n _ _ => k b u (hb b n) q, fun b u q n _ _ => ⟨u.slots, k b u (hb b n) q⟩, fun b u q n _ => by rw [upd_ne (hx b n)]; exact n, fun b u q _ => ?_,
    fun b xs q => by rw [upd_ne (hm b _ q fun z => z)]; exact q, fun b u xs q => by rw [upd_ne (hm b _ q fun z => z)]; exact q, fun b ps q => ⟨#[], by rw [upd_ne (hm b _ q fun z => z), q]; simp⟩⟩
  by_cases hbe : b = e
  · subst hbe; exact heo
  · exact ⟨u, k b u hbe q⟩
end

/-! ### the heap without what is tracked -/
def trk (h : Heap) (H : Hp) : List Addr := (List.range h.objs.size).filter fun a => (H a).isSome
def hidT (h : Heap) (H : Hp) : Heap := PySem.W.hideAll h (trk h H)
theorem hidT_size (h : Heap) (H : Hp) : (hidT h H).objs.size = h.objs.size := PySem.W.hideAll_size _ _
theorem hidT_get {h : Heap} {H : Hp} {b : Addr} {o : Obj} (e : h.get? b = some o) (n : H b = none) : (hidT h H).get? b = some o :=
  PySem.W.hideAll_get _ e fun hm => by
    have q : (H b).isSome = true := (List.mem_filter.mp hm).2
    rw [n] at q; simp at q
theorem of_hidT {h : Heap} {H : Hp} {b : Addr} {o : Obj} (e : (hidT h H).get? b = some o) : h.get? b = some o ∧ H b = none := by
  have e' : h.get? b = some o := PySem.W.of_hideAll (trk h H) e
  refine ⟨e', ?_⟩
  cases q : H b with
  | none => rfl
  | some x =>
    have hm : b ∈ trk h H := List.mem_filter.mpr ⟨List.mem_range.mpr (Heap.lt_size e'), by simp [q]⟩
    have z : (hidT h H).get? b = none := PySem.W.hideAll_none (trk h H) hm
    rw [z] at e; cases e

/-! ### OpenK's ledger, filled with every new object but one -/
end L2

namespace L2
open PySem PySem.Spec PyProof.Rows

/-- the module's facts, over the base: the heap at the law's entry without what is tracked there -/
structure Mod (K : PySem.W.Frag) (mg : Str → Option Value) (base : Heap) : Prop where
  kin : K.In base
  glob : base.Ns mainGlobals mg
  blt : ∃ mb, base.Ns builtinsNs mb ∧ ∀ x : Str, x ≠ "__name__" → mb x = bootBuiltins x
  nolimit : base.NoLimit

/-- the context: a def's body (or a comprehension's block) running. base: fixed through the whole law; s₀, H₀: the entry; outer: the frames whose slots others may change (a def's callers); stack: all frames that run;
   ex: iterators that were made ahead of the entry and are walked here (a comprehension's); fn: the names whose cells were made at the entry (a def: all; a comprehension's block: its own); calm: not within an except suite; pn: pins that every state bears; xe: what is wanted of an exception that leaves the code -/
structure Cx where
  prog : Program
  w : World
  K : PySem.W.Frag
  mg : Str → Option Value
  base : Heap
  A : Around
  N : List Str
  s₀ : Shared
  H₀ : Hp
  env : Env
  outer : List Env
  stack : List Env
  ex : List Addr
  fn : Str → Bool
  calm : Bool
  pn : List (Addr × Obj)
  xe : Value → Shared → Prop
/-- the callers' frames -/
def frs (l : List Env) : List Addr := l.filterMap (·.frame)
abbrev Cx.fs (X : Cx) : List Addr := frs X.outer

def Vis (sc : Scope) (x : Str) : Prop := sc.names.lookup x = some .local ∨ sc.names.lookup x = some .cell ∨ sc.names.lookup x = some .free
def Loc (sc : Scope) (x : Str) : Prop := sc.names.lookup x = some .local ∨ sc.names.lookup x = some .cell
def Look (env : Env) (h : Heap) (m : Str → Option Value) (x : Str) (u : Value) : Prop :=
  (env.kindOf x = some .local ∧ m x = some u) ∨ ((env.kindOf x = some .cell ∨ env.kindOf x = some .free) ∧ ∃ c, env.cells.lookup x = some c ∧ h.IsCell c (some u))

structure Cx.Ok (X : Cx) : Prop where
  mod : Mod X.K X.mg X.base
  kind : X.env.scope.kind = .function
  glob : X.env.globals = mainGlobals
  blt : X.env.builtins = builtinsNs
  above : X.s₀.heap.objs.size ≤ X.env.locals
  inj : ∀ x y c, X.env.cells.lookup x = some c → X.env.cells.lookup y = some c → x = y
  has : ∀ x, (X.env.kindOf x = some .cell ∨ X.env.kindOf x = some .free) → ∃ c, X.env.cells.lookup x = some c
  cab : ∀ x c, X.fn x = true → X.env.cells.lookup x = some c → X.s₀.heap.objs.size ≤ c
  hd : X.calm = true → X.A.handled = none
  frames : X.A.frames = some X.stack
  stk : X.stack = X.outer ∨ (X.stack = X.env :: X.outer ∧ X.env.frame = some X.env.locals)
  exf : ∀ b ∈ X.ex, b ≠ X.env.locals ∧ ∀ x c, X.env.cells.lookup x = some c → c ≠ b
  bs : ∀ b o, X.base.get? b = some o → X.s₀.heap.get? b = some o ∧ X.H₀ b = none
  bsz : X.base.objs.size ≤ X.s₀.heap.objs.size
  noex : ∀ b o, X.base.get? b = some o → b ∉ X.ex
  exfs : ∀ b ∈ X.ex, b ∉ X.fs
  funs : X.s₀.heap.FunFrames X.base X.outer
  frf : ∀ b ∈ X.fs, X.H₀ b = none

structure Inv (X : Cx) (pins : List (Addr × Obj)) (σ : List (Option V)) (H : Hp) (s : Shared) : Prop where
  ok : X.Ok
  os : s.os = X.s₀.os
  bare : AllBare s.gens
  base : Un X.fs X.ex X.H₀ H X.s₀.heap s.heap
  loc : ∃ m, s.heap.Ns X.env.locals m ∧ ∀ (i : Nat) (x : Str) (v : V), X.N[i]? = some x → σ[i]? = some (some v) → Vis X.env.scope x → ∃ u, RelV v u ∧ Look X.env s.heap m x u
  cell : ∀ x c, X.env.cells.lookup x = some c → ∃ v, s.heap.IsCell c v
  free : H X.env.locals = none
  freeC : ∀ x c, X.env.cells.lookup x = some c → H c = none
  pin : ∀ p ∈ X.pn ++ pins, s.heap.get? p.1 = some p.2 ∧ H p.1 = none ∧ p.1 ≠ X.env.locals ∧ p.1 ∉ X.fs ∧ ∀ v, p.2.data ≠ .cell v
  hok : HOk X.prog X.w H s.heap
  len : σ.length = X.N.length

section
variable {X : Cx} {pins : List (Addr × Obj)} {σ : List (Option V)} {H H' : Hp} {s : Shared} {h' : Heap}

theorem Cx.Ok.nofr (ok : X.Ok) {b : Addr} {o : Obj} (e : X.base.get? b = some o) : b ∉ X.fs := fun hb => by
  have := (ok.funs.mem hb).1
  rw [e] at this; cases this
theorem Inv.bs (I : Inv X pins σ H s) : ∀ b o, X.base.get? b = some o → s.heap.get? b = some o ∧ H b = none := fun b o e =>
  ⟨I.base.keep b o (I.ok.bs b o e).1 (I.ok.bs b o e).2 (I.ok.nofr e) (I.ok.noex b o e), I.base.free b o (I.ok.bs b o e).1 (I.ok.bs b o e).2 (I.ok.noex b o e)⟩
theorem Inv.bk (I : Inv X pins σ H s) : ∀ b o, X.base.get? b = some o → s.heap.get? b = some o := fun b o e => (I.bs b o e).1
theorem Inv.mod (I : Inv X pins σ H s) : Mod X.K X.mg X.base := I.ok.mod
theorem Inv.kIn (I : Inv X pins σ H s) : X.K.In s.heap := I.ok.mod.kin.keeps I.bk
theorem Inv.lt (I : Inv X pins σ H s) : X.env.locals < s.heap.objs.size := let ⟨_, hn, _⟩ := I.loc; hn.lt
theorem Inv.sz (I : Inv X pins σ H s) : X.s₀.heap.objs.size ≤ s.heap.objs.size := Nat.le_trans I.ok.above (Nat.le_of_lt I.lt)
theorem Inv.nofs (I : Inv X pins σ H s) {a : Addr} (h : s.heap.objs.size ≤ a) : a ∉ X.fs := fun hb => by
  obtain ⟨_, o, ho, _⟩ := I.ok.funs.mem hb
  exact absurd (Nat.lt_of_lt_of_le (Heap.lt_size ho) (Nat.le_trans I.sz h)) (Nat.lt_irrefl _)
theorem Inv.cne (I : Inv X pins σ H s) : ∀ x c, X.env.cells.lookup x = some c → c ≠ X.env.locals := fun x c e z => by
  obtain ⟨v, o, ho, hd⟩ := I.cell x c e
  obtain ⟨m, ⟨o', es, ep, ho', hd', _⟩, _⟩ := I.loc
  rw [z, ho'] at ho; cases ho; rw [hd'] at hd; cases hd
theorem Inv.funs (I : Inv X pins σ H s) : s.heap.FunFrames X.base X.outer := by
  have all : ∀ (l : List Env), (∀ b ∈ frs l, b ∈ X.fs) → X.s₀.heap.FunFrames X.base l → s.heap.FunFrames X.base l := by
    intro l
    induction l with
    | nil => intro _ _; trivial
    | cons env r ih =>
      intro hs hl
      obtain ⟨hk, ⟨L, o, hf, hn, ho, hd⟩, hr⟩ := hl
      have hL : L ∈ X.fs := hs L (by unfold frs; rw [List.filterMap_cons, hf]; exact List.mem_cons_self)
      obtain ⟨sl, e⟩ := I.base.slot L o ho (I.ok.frf L hL) hL fun z => I.ok.exfs L z hL
      exact ⟨hk, ⟨L, _, hf, hn, e, hd⟩, ih (fun b hb => hs b (by unfold frs; rw [List.filterMap_cons, hf]; exact List.mem_cons_of_mem _ hb)) hr⟩
  exact all X.outer (fun _ hb => hb) I.ok.funs

/-- the frames that run, for a call -/
theorem Inv.stack (I : Inv X pins σ H s) : s.heap.FunFrames X.base X.stack := by
  rcases I.ok.stk with e | ⟨e, hf⟩
  · rw [e]; exact I.funs
  · rw [e]
    obtain ⟨m, hn, _⟩ := I.loc
    refine .cons (by rw [I.ok.kind]; decide) hf hn ?_ I.funs
    exact Heap.get?_none_of_le (Nat.le_trans I.ok.bsz I.ok.above)
theorem Inv.stkSub (I : Inv X pins σ H s) : ∀ b ∈ frs X.stack, b ∈ X.env.locals :: X.fs := fun b hb => by
  rcases I.ok.stk with e | ⟨e, hf⟩
  · rw [e] at hb; exact List.mem_cons_of_mem _ hb
  · rw [e] at hb
    unfold frs at hb
    rw [List.filterMap_cons, hf] at hb
    exact hb
theorem Inv.stkFree (I : Inv X pins σ H s) : ∀ b ∈ frs X.stack, H b = none := fun b hb => by
  rcases List.mem_cons.mp (I.stkSub b hb) with e | hb
  · rw [e]; exact I.free
  · obtain ⟨_, o, ho, _⟩ := I.ok.funs.mem hb
    exact I.base.free b o ho (I.ok.frf b hb) fun z => I.ok.exfs b z hb

/-- THE STEP: the untracked objects but the frame and the records at ch are kept (the callers' frames up to slots), the frame's map is kept, the new abstract heap is held -/
theorem Inv.step {g' : Array GenState} {t' : Nat} {d' : Drawn} {ch : List Addr} (I : Inv X pins σ H s)
    (hch : ∀ b ∈ ch, (b ∈ X.ex ∨ X.s₀.heap.objs.size ≤ b) ∧ b ≠ X.env.locals ∧ (∀ x c, X.env.cells.lookup x = some c → c ≠ b) ∧ ∀ p ∈ X.pn ++ pins, p.1 ≠ b)
    (keep : ∀ b o, b ≠ X.env.locals → b ∉ X.fs → b ∉ ch → s.heap.get? b = some o → H b = none → h'.get? b = some o)
    (slot : ∀ b o, b ≠ X.env.locals → b ∈ X.fs → b ∉ ch → s.heap.get? b = some o → H b = none → ∃ sl, h'.get? b = some { o with slots := sl }) (free : ∀ b o, b ∉ ch → s.heap.get? b = some o → H b = none → H' b = none)
    (there : ∀ b o, b ∉ ch → s.heap.get? b = some o → ∃ o', h'.get? b = some o')
    (tups : ∀ b xs, H b = some (.tup xs) → H' b = some (.tup xs)) (frzs : ∀ b o u, H b = some (.frz o u) → H' b = some (.frz o u)) (tbls : ∀ b ps, H b = some (.tbl ps) → ∃ more, H' b = some (.tbl (ps ++ more)))
    (ns : ∀ m, s.heap.Ns X.env.locals m → h'.Ns X.env.locals m) (hok : HOk X.prog X.w H' h') (hg : AllBare g') :
    Inv X pins σ H' { s with heap := h', gens := g', drawn := d', toks := t' } := by
  have neL : ∀ b o, X.s₀.heap.get? b = some o → b ≠ X.env.locals := fun b o e => Nat.ne_of_lt (Nat.lt_of_lt_of_le (Heap.lt_size e) I.ok.above)
  have neC : ∀ b o, X.s₀.heap.get? b = some o → b ∉ X.ex → b ∉ ch := fun b o e hx hb => by
    rcases (hch b hb).1 with z | z
    · exact hx z
    · exact absurd (Nat.lt_of_lt_of_le (Heap.lt_size e) z) (Nat.lt_irrefl _)
  have cellK : ∀ x c, X.env.cells.lookup x = some c → ∀ v, s.heap.IsCell c v → h'.IsCell c v := fun x c e v ⟨o, ho, hd⟩ => by
    have nch : c ∉ ch := fun z => (hch c z).2.2.1 x c e rfl
    by_cases hc : c ∈ X.fs
    · obtain ⟨sl, q⟩ := slot c o (I.cne x c e) hc nch ho (I.freeC x c e)
      exact ⟨_, q, hd⟩
    · exact ⟨o, keep c o (I.cne x c e) hc nch ho (I.freeC x c e), hd⟩
  refine ⟨I.ok, I.os, hg, ⟨fun b o e n hb hx => ?_, fun b o e n hb hx => ?_, fun b o e n hx => ?_, fun b o e hx => ?_, fun b xs e => tups b xs (I.base.tups b xs e), fun b o xs e => frzs b o xs (I.base.frzs b o xs e), fun b ps e => ?_⟩, ?_, fun x c e => ?_, ?_, fun x c e => ?_, fun p hp => ?_, hok, I.len⟩
  · exact keep b o (neL b o e) hb (neC b o e hx) (I.base.keep b o e n hb hx) (I.base.free b o e n hx)
  · obtain ⟨sl, e1⟩ := I.base.slot b o e n hb hx
    obtain ⟨sl', e2⟩ := slot b _ (neL b o e) hb (neC b o e hx) e1 (I.base.free b o e n hx)
    exact ⟨sl', e2⟩
  · obtain ⟨o', e1⟩ := I.base.there b o e hx
    exact free b o' (neC b o e hx) e1 (I.base.free b o e n hx)
  · obtain ⟨o', e1⟩ := I.base.there b o e hx
    exact there b o' (neC b o e hx) e1
  · obtain ⟨m1, e1⟩ := I.base.tbls b ps e
    obtain ⟨m2, e2⟩ := tbls b _ e1
    exact ⟨m1 ++ m2, by rw [e2, Array.append_assoc]⟩
  · obtain ⟨m, hn, hl⟩ := I.loc
    refine ⟨m, ns m hn, fun i x v e1 e2 e3 => ?_⟩
    obtain ⟨u, r, l⟩ := hl i x v e1 e2 e3
    refine ⟨u, r, ?_⟩
    rcases l with l | ⟨k, c, e, z⟩
    · exact .inl l
    · exact .inr ⟨k, c, e, cellK x c e _ z⟩
  · obtain ⟨v, z⟩ := I.cell x c e
    exact ⟨v, cellK x c e v z⟩
  · obtain ⟨m, ⟨o, _, _, ho, _⟩, _⟩ := I.loc
    exact free _ o (fun z => (hch _ z).2.1 rfl) ho I.free
  · obtain ⟨v, o, ho, hd⟩ := I.cell x c e
    exact free c o (fun z => (hch c z).2.2.1 x c e rfl) ho (I.freeC x c e)
  · obtain ⟨e, n, ne, nf, d⟩ := I.pin p hp
    have nch : p.1 ∉ ch := fun z => (hch p.1 z).2.2.2 p hp rfl
    exact ⟨keep p.1 p.2 ne nf nch e n, free p.1 p.2 nch e n, ne, nf, d⟩
/-- .. where the frame's own object is kept too -/
theorem Inv.un {t' : Nat} (I : Inv X pins σ H s) (u : Un X.fs [] H H' s.heap h') (hok : HOk X.prog X.w H' h') : Inv X pins σ H' { s with heap := h', toks := t' } := by
  obtain ⟨m, ⟨o, es, ep, ho, r⟩, _⟩ := id I.loc
  obtain ⟨sl, hL⟩ := u.any ho I.free (by simp)
  exact I.step (g' := s.gens) (d' := s.drawn) (ch := []) (fun _ z => nomatch z) (fun b o _ hb _ e n => u.keep b o e n hb (by simp)) (fun b o _ hb _ e n => u.slot b o e n hb (by simp)) (fun b o _ e n => u.free b o e n (by simp)) (fun b o _ e => u.there b o e (by simp)) u.tups u.frzs u.tbls (fun m' hm => by
    obtain ⟨o', es', ep', ho', r'⟩ := hm
    rw [ho] at ho'; cases ho'
    exact ⟨_, es', ep', hL, r'⟩) hok I.bare
/-- behind a call (or a comprehension's block): the slots of this frame may have changed too, the records at ch may have turned -/
theorem Inv.call {g' : Array GenState} {t' : Nat} {d' : Drawn} {ch : List Addr} (I : Inv X pins σ H s) (u : Un (frs X.stack) ch H H' s.heap h') (hok : HOk X.prog X.w H' h') (hg : AllBare g')
    (hch : ∀ b ∈ ch, (b ∈ X.ex ∨ X.s₀.heap.objs.size ≤ b) ∧ b ≠ X.env.locals ∧ (∀ x c, X.env.cells.lookup x = some c → c ≠ b) ∧ ∀ p ∈ X.pn ++ pins, p.1 ≠ b) :
    Inv X pins σ H' { s with heap := h', gens := g', drawn := d', toks := t' } := by
  obtain ⟨m, ⟨o, es, ep, ho, r⟩, _⟩ := id I.loc
  obtain ⟨sl, hL⟩ := u.any ho I.free fun z => (hch _ z).2.1 rfl
  exact I.step (ch := ch) hch (fun b o hL hb hc e n => u.keep b o e n (fun z => (List.mem_cons.mp (I.stkSub b z)).elim hL hb) hc) (fun b o _ _ hc e n => u.any e n hc) (fun b o hc e n => u.free b o e n hc) (fun b o hc e => u.there b o e hc) u.tups u.frzs u.tbls (fun m' hm => by
    obtain ⟨o', es', ep', ho', r'⟩ := hm
    rw [ho] at ho'; cases ho'
    exact ⟨_, es', ep', hL, r'⟩) hok hg
/-- an untracked record of ours (an iterator) has turned -/
theorem Inv.turned {t' : Nat} {it : Addr} (I : Inv X pins σ H s) (k : ∀ b o, b ≠ it → s.heap.get? b = some o → h'.get? b = some o) (hn : H it = none) (hL : it ≠ X.env.locals)
    (h1 : it ∈ X.ex ∨ X.s₀.heap.objs.size ≤ it) (h2 : ∀ x c, X.env.cells.lookup x = some c → c ≠ it) (h3 : ∀ p ∈ X.pn ++ pins, p.1 ≠ it) : Inv X pins σ H { s with heap := h', toks := t' } := by
  have nit : ∀ b u, H b = some u → b ≠ it := fun b u e z => by rw [z, hn] at e; cases e
  refine I.step (g' := s.gens) (d' := s.drawn) (ch := [it]) (fun b hb => ?_) (fun b o _ _ hc e _ => k b o (fun z => hc (by simp [z])) e) (fun b o _ _ hc e _ => ⟨o.slots, k b o (fun z => hc (by simp [z])) e⟩) (fun _ _ _ _ n => n)
    (fun b o hc e => ⟨o, k b o (fun z => hc (by simp [z])) e⟩) (fun _ _ e => e) (fun _ _ _ e => e) (fun b ps e => ⟨#[], by rw [e]; simp⟩) (fun m hm => ?_) (fun b u e => ?_) I.bare
  · have e : b = it := by simpa using hb
    subst e
    exact ⟨h1, hL, h2, h3⟩
  · obtain ⟨o, es, ep, ho, r⟩ := hm
    exact ⟨o, es, ep, k _ o (Ne.symm hL) ho, r⟩
  · refine (I.hok b u e).stay (fun c v hc q => k c v ?_ q) (fun _ q => q) fun _ _ q => q
    rcases hc with z | z
    · rw [z]; exact nit b u e
    · exact nit c _ z
theorem Inv.tok (I : Inv X pins σ H s) (t : Nat) : Inv X pins σ H { s with toks := t } := I.un (h' := s.heap) (t' := t) Un.refl I.hok
/-- all objects kept -/
theorem Inv.kept {t' : Nat} (I : Inv X pins σ H s) (k : ∀ b u, s.heap.get? b = some u → h'.get? b = some u) : Inv X pins σ H { s with heap := h', toks := t' } := I.un (Un.kept k) (I.hok.kept k)
/-- a new object laid and tracked -/
theorem Inv.laid {a : Addr} {o : HO} {t' : Nat} (I : Inv X pins σ H s) (k : ∀ b u, s.heap.get? b = some u → h'.get? b = some u) (hp : s.heap.objs.size ≤ a) (new : ObjOk X.prog X.w (upd H a o) h' a o) :
    Inv X pins σ (upd H a o) { s with heap := h', toks := t' } := I.un (Un.laid k hp (I.hok.fresh hp)) (I.hok.laid k hp new)
/-- an object written -/
theorem Inv.write {x e : Addr} {o : HO} {t' : Nat} (I : Inv X pins σ H s) (mu : Mut (H x)) (he : e = x ∨ H e = some (.own x)) (k : ∀ b u, b ≠ e → s.heap.get? b = some u → h'.get? b = some u) (heo : ∃ u, h'.get? e = some u)
    (new : ObjOk X.prog X.w (upd H x o) h' x o) : Inv X pins σ (upd H x o) { s with heap := h', toks := t' } := I.un (Un.write mu he k heo) (I.hok.write mu he k heo new)
theorem Inv.pins_of {pins' : List (Addr × Obj)} (I : Inv X pins σ H s) (h : ∀ p ∈ pins', s.heap.get? p.1 = some p.2 ∧ H p.1 = none ∧ p.1 ≠ X.env.locals ∧ p.1 ∉ X.fs ∧ ∀ v, p.2.data ≠ .cell v) : Inv X pins' σ H s :=
  ⟨I.ok, I.os, I.bare, I.base, I.loc, I.cell, I.free, I.freeC, fun p hp => (List.mem_append.mp hp).elim (fun z => I.pin p (List.mem_append_left _ z)) (h p), I.hok, I.len⟩

theorem nodup_ix {N : List Str} (hN : N.Nodup) {i j : Nat} {x : Str} (a : N[i]? = some x) (b : N[j]? = some x) : i = j := by
  obtain ⟨h1, e1⟩ := List.getElem?_eq_some_iff.mp a
  obtain ⟨h2, e2⟩ := List.getElem?_eq_some_iff.mp b
  exact (List.getElem_inj hN).mp (e1.trans e2.symm)

/-- a name is stored; what changed -/
theorem store_ok2 {M : Model} {A : Around} {E : Value → Shared → Prop} {i : Nat} {x : Str} {v : V} {u : Value} {Q : Unit → Shared → Prop} (I : Inv X pins σ H s) (hN : X.N.Nodup) (hi : X.N[i]? = some x) (hx : Loc X.env.scope x) (r : RelV v u)
    (h : ∀ s', Inv X pins (σ.set i (some v)) H s' → (∃ a, Heap.SameBut a s.heap s'.heap ∧ (a = X.env.locals ∨ X.env.cells.lookup x = some a)) → Q () s') (hf : X.fn x = true ∨ X.env.scope.names.lookup x = some .local := by first | exact .inl rfl | exact .inr rfl | assumption) : wpAny M A (storeName X.env x u) Q E s := by
  obtain ⟨m, hn, hl⟩ := id I.loc
  have hcls : (X.env.scope.kind == .class || (X.env.scope.kind == .module && X.env.locals != X.env.globals)) = false := by rw [I.ok.kind]; rfl
  have hiσ : i < σ.length := by rw [I.len]; exact (List.getElem?_eq_some_iff.mp hi).1
  have cne := I.cne
  have tracked : ∀ {a : Addr} {h' : Heap}, (∃ o, s.heap.get? a = some o ∧ H a = none) → Heap.SameBut a s.heap h' → HOk X.prog X.w H h' := fun {a h'} ha hs b ob e => by
    obtain ⟨_, _, hfree⟩ := ha
    refine (I.hok b ob e).stay (fun c w' hc q => (hs.2 c ?_).trans q) (fun _ q => q) fun _ _ q => q
    rintro rfl
    rcases hc with rfl | hc
    · rw [hfree] at e; cases e
    · rw [hfree] at hc; cases hc
  rcases hx with hk | hk
  · refine wpAny_storeName_local hk hn (fun h' hn' hs => ?_) hcls
    obtain ⟨oL, _, _, hoL, _⟩ := id hn
    refine h _ ⟨I.ok, I.os, I.bare, ⟨fun b o e n hb hx => ?_, fun b o e n hb hx => ?_, I.base.free, fun b o e hx => ?_, I.base.tups, I.base.frzs, I.base.tbls⟩, ⟨_, hn', fun j y v' e1 e2 e3 => ?_⟩, fun y c e => ?_, I.free, I.freeC, fun p hp => ?_, tracked ⟨oL, hoL, I.free⟩ hs, by simpa using I.len⟩ ⟨_, hs, .inl rfl⟩
    · exact (hs.2 b (Nat.ne_of_lt (Nat.lt_of_lt_of_le (Heap.lt_size e) I.ok.above))).trans (I.base.keep b o e n hb hx)
    · obtain ⟨sl, e1⟩ := I.base.slot b o e n hb hx
      exact ⟨sl, (hs.2 b (Nat.ne_of_lt (Nat.lt_of_lt_of_le (Heap.lt_size e) I.ok.above))).trans e1⟩
    · obtain ⟨o', e1⟩ := I.base.there b o e hx
      exact ⟨o', (hs.2 b (Nat.ne_of_lt (Nat.lt_of_lt_of_le (Heap.lt_size e) I.ok.above))).trans e1⟩
    · by_cases hj : j = i
      · subst hj
        rw [hi] at e1; cases e1
        rw [List.getElem?_set_self hiσ] at e2
        cases e2
        exact ⟨u, r, .inl ⟨hk, by simp⟩⟩
      · rw [List.getElem?_set_ne (Ne.symm hj)] at e2
        obtain ⟨u', r', q⟩ := hl j y v' e1 e2 e3
        refine ⟨u', r', ?_⟩
        rcases q with ⟨k, e⟩ | ⟨k, c, e, z⟩
        · refine .inl ⟨k, ?_⟩
          have : y ≠ x := fun e => hj (nodup_ix hN e1 (e ▸ hi))
          simp [this, e]
        · exact .inr ⟨k, c, e, z.sameBut hs (cne y c e)⟩
    · obtain ⟨w', z⟩ := I.cell y c e
      exact ⟨w', z.sameBut hs (cne y c e)⟩
    · obtain ⟨e, n, ne, nf, d⟩ := I.pin p hp
      exact ⟨(hs.2 p.1 ne).trans e, n, ne, nf, d⟩
  · have hfn : X.fn x = true := by
      rcases hf with z | z
      · exact z
      · rw [z] at hk; cases hk
    obtain ⟨c, hc⟩ := I.ok.has x (.inl hk)
    obtain ⟨w', z⟩ := I.cell x c hc
    refine wpAny_storeName_cell I.ok.kind hk hc z (fun h' hc' hs => ?_)
    obtain ⟨oc, hoc, hocd⟩ := id z
    refine h { s with heap := h' } ⟨I.ok, I.os, I.bare, ⟨fun b o e n hb hx => ?_, fun b o e n hb hx => ?_, I.base.free, fun b o e hx => ?_, I.base.tups, I.base.frzs, I.base.tbls⟩, ⟨m, hn.sameBut hs (Ne.symm (cne x c hc)), fun j y v' e1 e2 e3 => ?_⟩, fun y c' e => ?_, I.free, I.freeC, fun p hp => ?_, tracked ⟨oc, hoc, I.freeC x c hc⟩ hs, by simpa using I.len⟩ ⟨c, hs, .inr hc⟩
    · exact (hs.2 b (Nat.ne_of_lt (Nat.lt_of_lt_of_le (Heap.lt_size e) (I.ok.cab x c hfn hc)))).trans (I.base.keep b o e n hb hx)
    · obtain ⟨sl, e1⟩ := I.base.slot b o e n hb hx
      exact ⟨sl, (hs.2 b (Nat.ne_of_lt (Nat.lt_of_lt_of_le (Heap.lt_size e) (I.ok.cab x c hfn hc)))).trans e1⟩
    · obtain ⟨o', e1⟩ := I.base.there b o e hx
      exact ⟨o', (hs.2 b (Nat.ne_of_lt (Nat.lt_of_lt_of_le (Heap.lt_size e) (I.ok.cab x c hfn hc)))).trans e1⟩
    · by_cases hj : j = i
      · subst hj
        rw [hi] at e1; cases e1
        rw [List.getElem?_set_self hiσ] at e2
        cases e2
        exact ⟨u, r, .inr ⟨.inl hk, c, hc, hc'⟩⟩
      · rw [List.getElem?_set_ne (Ne.symm hj)] at e2
        obtain ⟨u', r', q⟩ := hl j y v' e1 e2 e3
        refine ⟨u', r', ?_⟩
        rcases q with q | ⟨k, c', e, z'⟩
        · exact .inl q
        · refine .inr ⟨k, c', e, z'.sameBut hs ?_⟩
          rintro rfl
          exact hj (nodup_ix hN e1 (I.ok.inj _ _ _ e hc ▸ hi))
    · by_cases hcc : c' = c
      · subst hcc; exact ⟨_, hc'⟩
      · obtain ⟨w2, z2⟩ := I.cell y c' e
        exact ⟨w2, z2.sameBut hs hcc⟩
    · obtain ⟨e, n, ne, nf, d⟩ := I.pin p hp
      refine ⟨(hs.2 p.1 ?_).trans e, n, ne, nf, d⟩
      intro q
      rw [q, hoc] at e
      have q' : oc = p.2 := Option.some.inj e
      exact d w' (by rw [← q']; exact hocd)
theorem store_ok {M : Model} {A : Around} {E : Value → Shared → Prop} {i : Nat} {x : Str} {v : V} {u : Value} {Q : Unit → Shared → Prop} (I : Inv X pins σ H s) (hN : X.N.Nodup) (hi : X.N[i]? = some x) (hx : Loc X.env.scope x) (r : RelV v u)
    (h : ∀ s', Inv X pins (σ.set i (some v)) H s' → Q () s') (hf : X.fn x = true ∨ X.env.scope.names.lookup x = some .local := by first | exact .inl rfl | exact .inr rfl | assumption) : wpAny M A (storeName X.env x u) Q E s :=
  store_ok2 I hN hi hx r (fun s' I' _ => h s' I') hf
/-- behind a call or a block, the state as it is -/
theorem Inv.call' {s' : Shared} {ch : List Addr} (I : Inv X pins σ H s) (ho : s'.os = s.os) (u : Un (frs X.stack) ch H H' s.heap s'.heap) (hok : HOk X.prog X.w H' s'.heap) (hg : AllBare s'.gens)
    (hch : ∀ b ∈ ch, (b ∈ X.ex ∨ X.s₀.heap.objs.size ≤ b) ∧ b ≠ X.env.locals ∧ (∀ x c, X.env.cells.lookup x = some c → c ≠ b) ∧ ∀ p ∈ X.pn ++ pins, p.1 ≠ b) : Inv X pins σ H' s' := by
  obtain ⟨h', g', d', t', o'⟩ := s'
  have e : o' = s.os := ho
  subst e
  exact I.call (g' := g') (t' := t') (d' := d') u hok hg hch
end

/-! ### the judgements -/
/-- an exception: its class, its own dict's address (where it has one), the abstract heap behind it -/
abbrev XK := Value → Option Addr → Hp → Prop
abbrev St := List (Option V)
abbrev VK := V → Hp → Prop
/-- an expression's reading; a test's; an argument list's -/
abbrev TE := St → Hp → VK → Prop
abbrev TT := St → Hp → (Bool → Hp → Prop) → Prop
abbrev TA := St → Hp → (List V → Hp → Prop) → Prop
/-- what is wanted behind a statement -/
structure Ends where
  nx : St → Hp → Prop
  rt : VK
  bk : St → Hp → Prop := fun _ _ => False
  ct : St → Hp → Prop := fun _ _ => False
abbrev TS := Ends → St → Hp → Prop

def EP (X : Cx) (pins : List (Addr × Obj)) (σ : St) (Q : VK) (u : Value) (s' : Shared) : Prop := ∃ v H', Inv X pins σ H' s' ∧ RelV v u ∧ Q v H'
def TP (X : Cx) (pins : List (Addr × Obj)) (σ : St) (Q : Bool → Hp → Prop) (b : Bool) (s' : Shared) : Prop := ∃ H', Inv X pins σ H' s' ∧ Q b H'
def AP (X : Cx) (pins : List (Addr × Obj)) (σ : St) (Q : List V → Hp → Prop) (us : List Value) (s' : Shared) : Prop := ∃ vs H', Inv X pins σ H' s' ∧ Vals vs us ∧ Q vs H'
def SP (X : Cx) (pins : List (Addr × Obj)) (D : Ends) (f : Flow) (s' : Shared) : Prop :=
  match f with
  | .next => ∃ σ' H', Inv X pins σ' H' s' ∧ D.nx σ' H'
  | .brk => ∃ σ' H', Inv X pins σ' H' s' ∧ D.bk σ' H'
  | .cont => ∃ σ' H', Inv X pins σ' H' s' ∧ D.ct σ' H'
  | .ret u => ∃ v σ' H', Inv X pins σ' H' s' ∧ RelV v u ∧ D.rt v H'

def PE (X : Cx) (e : Expr) (t : TE) : Prop :=
  ∀ (pins : List (Addr × Obj)) (s : Shared) (σ : St) (H : Hp) (Q : VK), Inv X pins σ H s → t σ H Q → wpAny (model X.prog X.w) X.A (eval e X.env) (EP X pins σ Q) X.xe s
def PT (X : Cx) (e : Expr) (t : TT) : Prop :=
  ∀ (pins : List (Addr × Obj)) (s : Shared) (σ : St) (H : Hp) (Q : Bool → Hp → Prop), Inv X pins σ H s → t σ H Q → wpAny (model X.prog X.w) X.A (isTrue e X.env (eval e X.env)) (TP X pins σ Q) X.xe s
/-- an argument list (no star), from the left -/
def PA (X : Cx) (es : List Expr) (t : TA) : Prop :=
  ∀ (pos : Pos) (pins : List (Addr × Obj)) (s : Shared) (σ : St) (H : Hp) (Q : List V → Hp → Prop), Inv X pins σ H s → t σ H Q → wpAny (model X.prog X.w) X.A (spliced (backTo pos (starEach es X.env))) (AP X pins σ Q) X.xe s
def PS (X : Cx) (st : Stmt) (t : TS) : Prop :=
  ∀ (pins : List (Addr × Obj)) (s : Shared) (σ : St) (H : Hp) (D : Ends), Inv X pins σ H s → t D σ H → wpAny (model X.prog X.w) X.A (exec st X.env) (SP X pins D) X.xe s
def PSs (X : Cx) (st : List Stmt) (t : TS) : Prop :=
  ∀ (pins : List (Addr × Obj)) (s : Shared) (σ : St) (H : Hp) (D : Ends), Inv X pins σ H s → t D σ H → wpAny (model X.prog X.w) X.A (execs st X.env) (SP X pins D) X.xe s
/-- weaken the end -/
theorem thn {α : Type} {t : Sem α} {Q Q' : α → Shared → Prop} {M : Model} {A : Around} {E : Value → Shared → Prop} {s : Shared} (h : wpAny M A t Q E s) (hQ : ∀ a s, Q a s → Q' a s) : wpAny M A t Q' E s := wpAny_mono h hQ fun _ _ x => x
end L2

namespace L2
open PySem PySem.Spec PyProof.Rows
section
variable {X : Cx}

/-! ### names and constants -/
def tVar (i : Nat) : TE := fun σ H Q => ∃ v, σ[i]? = some (some v) ∧ Q v H
def tC (v : V) : TE := fun _ H Q => Q v H
theorem pe_var {i : Nat} {x : Str} {pos : Pos} (hN : X.N[i]? = some x) (hv : Vis X.env.scope x) (hd : (x == ("__debug__" : Str)) = false := by decide) (hcd : (x == ("__classdict__" : Str)) = false := by decide) : PE X (.Name x pos) (tVar i) := by
  intro pins s σ H Q I h
  obtain ⟨v, e, h⟩ := h
  obtain ⟨m, hn, hl⟩ := I.loc
  obtain ⟨u, r, l⟩ := hl i x v hN e hv
  have fin : EP X pins σ Q u s := ⟨v, H, I, r, h⟩
  rcases l with ⟨hk, hm⟩ | ⟨hk, c, hc, hcell⟩
  · exact wpAny_Name (wpAny_loadName_local I.ok.kind hk hn hm fin) hd
  · rcases hk with hk | hk
    · exact wpAny_Name (wpAny_loadName_cell I.ok.kind hk hc hcell fin) hd
    · exact wpAny_Name (wpAny_loadName_free I.ok.kind hk hc hcell fin hcd) hd
theorem pe_int {i j pos} : PE X (.Constant (.int i) j pos) (tC (.int i)) := fun _ _ _ H _ I h => wpAny_Constant_int ⟨.int i, H, I.tok _, ⟨_, rfl⟩, h⟩
theorem pe_bl {b j pos} : PE X (.Constant (.bool b) j pos) (tC (.bl b)) := fun _ _ _ H _ I h => Constant_bool ⟨.bl b, H, I, rfl, h⟩
theorem pe_str {x j pos} : PE X (.Constant (.str x) j pos) (tC (.str x)) := fun _ _ _ H _ I h => Calls.Constant_str ⟨.str x, H, I.tok _, ⟨_, rfl⟩, h⟩

/-- a global name of the def -/
def Gl (X : Cx) (x : Str) : Prop := X.env.kindOf x = some .globalImplicit
theorem ld_glob {E : Value → Shared → Prop} {pins : List (Addr × Obj)} {s : Shared} {σ : St} {H : Hp} {x : Str} {u : Value} {pos : Pos} {Q : Value → Shared → Prop} (I : Inv X pins σ H s) (hg : Gl X x) (hm : X.mg x = some u) (h : Q u s)
    (hd : (x == ("__debug__" : Str)) = false := by decide) : wpAny (model X.prog X.w) X.A (eval (.Name x pos) X.env) Q E s :=
  Calls.Name_function_global I.ok.kind hg (Calls.loadGlobal_global (by rw [I.ok.glob]; exact I.mod.glob.keeps I.bk) hm h) hd
theorem ld_blt {E : Value → Shared → Prop} {pins : List (Addr × Obj)} {s : Shared} {σ : St} {H : Hp} {x : Str} {u : Value} {pos : Pos} {Q : Value → Shared → Prop} (I : Inv X pins σ H s) (hg : Gl X x) (hm : X.mg x = none) (hv : bootBuiltins x = some u) (h : Q u s)
    (hn : x ≠ "__name__" := by decide) (hd : (x == ("__debug__" : Str)) = false := by decide) : wpAny (model X.prog X.w) X.A (eval (.Name x pos) X.env) Q E s := by
  obtain ⟨mb, h1, h2⟩ := I.mod.blt
  exact Calls.Name_function_global I.ok.kind hg (Calls.loadGlobal_builtin (by rw [I.ok.glob]; exact I.mod.glob.keeps I.bk) hm (by rw [I.ok.blt]; exact h1.keeps I.bk) ((h2 x hn).trans hv) h) hd
/-- a module's constant, a class, a function, as a value -/
theorem pe_glob {x : Str} {v : V} {u : Value} {pos : Pos} (hg : Gl X x) (hm : X.mg x = some u) (r : RelV v u) (hd : (x == ("__debug__" : Str)) = false := by decide) : PE X (.Name x pos) (tC v) :=
  fun _ _ _ H _ I h => ld_glob I hg hm ⟨v, H, I, r, h⟩ hd
/-! ### arithmetic -/
variable {a b : Expr} {ta tb : TE} {pos : Pos}
/-! ### comparisons -/
/-! ### and, or, not -/
variable {tA tB' : TT} {rest : List Expr}
def tNot (t : TT) : TT := fun σ H Q => t σ H fun c H1 => Q (!c) H1
theorem pt_not (ha : PT X a tA) : PT X (.UnaryOp .Not a pos) (tNot tA) := by
  intro pins s σ H Q I h
  exact isTrue_not (ha pins s σ H (fun c H1 => Q (!c) H1) I h)
theorem pe_one {op} {t : TE} (h : PE X a t) : PE X (.BoolOp op [a] pos) t := fun pins s σ H Q I hw => BoolOp_one (h pins s σ H Q I hw)
/-- a if t else b -/
def tIf (t : TT) (ta tb : TE) : TE := fun σ H Q => t σ H fun c H1 => if c = true then ta σ H1 Q else tb σ H1 Q
theorem pe_ifExp {c : Expr} (hc : PT X c tA) (ha : PE X a ta) (hb : PE X b tb) : PE X (.IfExp c a b pos) (tIf tA ta tb) := by
  intro pins s σ H Q I h
  refine wpAny_IfExp (thn (hc pins s σ H _ I h) fun d s1 ⟨H1, I1, q1⟩ => ?_)
  cases d with
  | true => exact ha pins s1 σ H1 Q I1 q1
  | false => exact hb pins s1 σ H1 Q I1 q1
end
end L2

namespace L2
open PySem PySem.Spec PyProof.Rows

/-! ### a list, a tuple that is read: tracked, frozen, or an object of the module -/
def SqL (K : PySem.W.Frag) (H : Hp) (a : Addr) (xs : List V) : Prop :=
  Rd H a (.lst xs) ∨
    ∃ (o : Obj) (its : Array Value) (n : Nat), K.lookup a = some o ∧ o.cls = .type "list" ∧ o.dict = none ∧ o.data = .seq its n ∧ its.size ≤ sizeLine ∧ Vals xs its.toList
def SqT (K : PySem.W.Frag) (H : Hp) (a : Addr) (xs : List V) : Prop :=
  Rd H a (.tup xs) ∨
    ∃ (o : Obj) (its : Array Value) (n : Nat), K.lookup a = some o ∧ o.cls = .type "tuple" ∧ o.data = .seq its n ∧ its.size ≤ sizeLine ∧ Vals xs its.toList
def absV : Value → Option V
  | .none => some .non
  | .bool b => some (.bl b)
  | .int i _ => some (.int i)
  | .str x _ => some (.str x)
  | .bytes b _ => some (.byt b)
  | .float b _ => some (.flt b)
  | .ref a => some (.ref a)
  | .type n => some (.ty n)
  | _ => none
theorem RelV.abs {x : V} {u : Value} (r : RelV x u) : absV u = some x := by
  cases x with
  | non => cases r; rfl
  | bl _ => cases r; rfl
  | int _ => obtain ⟨t, rfl⟩ := r; rfl
  | str _ => obtain ⟨t, rfl⟩ := r; rfl
  | byt _ => obtain ⟨t, rfl⟩ := r; rfl
  | flt _ => obtain ⟨t, rfl⟩ := r; rfl
  | ref _ => cases r; rfl
  | ty _ => cases r; rfl
theorem RelV.inj {x y : V} {u : Value} (r : RelV x u) (q : RelV y u) : x = y := Option.some.inj (r.abs.symm.trans q.abs)
theorem Vals.inj : ∀ {xs ys : List V} {us : List Value}, Vals xs us → Vals ys us → xs = ys
  | _, _, _, .nil, .nil => rfl
  | _, _, _, .cons r t, .cons r' t' => by rw [r.inj r', Vals.inj t t']
section
variable {X : Cx} {pins : List (Addr × Obj)} {σ : St} {H : Hp} {s : Shared} {a : Addr} {xs ys : List V}
theorem SqL.of {K : PySem.W.Frag} (h : H a = some (.lst xs)) : SqL K H a xs := .inl (.inl h)
theorem SqT.of {K : PySem.W.Frag} (h : H a = some (.tup xs)) : SqT K H a xs := .inl (.inl h)
theorem Inv.list (I : Inv X pins σ H s) (h : SqL X.K H a xs) : ∃ its : List Value, Vals xs its ∧ PlainL s.heap a its.toArray ∧ xs.length ≤ sizeLine := by
  rcases h with h | ⟨o, its, n, hk, hc, hd, hs, hz, r⟩
  · obtain ⟨z, its, n, r, e⟩ := h.ok I.hok
    exact ⟨its, r, ⟨_, n, e, rfl, rfl, rfl⟩, z⟩
  · refine ⟨its.toList, r, ⟨o, n, I.kIn a o hk, hc, hd, by simpa using hs⟩, ?_⟩
    have e := r.length
    simp only [Array.length_toList] at e
    omega
theorem Inv.tuple (I : Inv X pins σ H s) (h : SqT X.K H a xs) : ∃ its : List Value, Vals xs its ∧ IsTup s.heap a its.toArray ∧ xs.length ≤ sizeLine := by
  rcases h with h | ⟨o, its, n, hk, hc, hs, hz, r⟩
  · obtain ⟨z, its, r, p⟩ := h.ok I.hok
    exact ⟨its, r, p, z⟩
  · refine ⟨its.toList, r, ⟨o, I.kIn a o hk, hc, n, by simpa using hs⟩, ?_⟩
    have e := r.length
    simp only [Array.length_toList] at e
    omega
theorem Inv.list_inj (I : Inv X pins σ H s) (h : SqL X.K H a xs) (h' : SqL X.K H a ys) : xs = ys := by
  obtain ⟨its, r, ⟨o, n, e, _, _, d⟩, _⟩ := I.list h
  obtain ⟨its', r', ⟨o', n', e', _, _, d'⟩, _⟩ := I.list h'
  rw [e] at e'; cases e'
  rw [d] at d'
  injection d' with d1 _
  have : its = its' := by simpa using congrArg Array.toList d1
  subst this
  exact r.inj r'
end

/-! ### another wish about exceptions -/
abbrev Cx.wish (X : Cx) (E : Value → Shared → Prop) : Cx := { X with xe := E }
/-- no exception leaves -/
abbrev Cx.nox (X : Cx) : Cx := X.wish fun _ _ => False
theorem Cx.Ok.wish {X : Cx} (ok : X.Ok) (E : Value → Shared → Prop) : (X.wish E).Ok :=
  ⟨ok.mod, ok.kind, ok.glob, ok.blt, ok.above, ok.inj, ok.has, ok.cab, ok.hd, ok.frames, ok.stk, ok.exf, ok.bs, ok.bsz, ok.noex, ok.exfs, ok.funs, ok.frf⟩
theorem Cx.Ok.unwish {X : Cx} {E : Value → Shared → Prop} (ok : (X.wish E).Ok) : X.Ok :=
  ⟨ok.mod, ok.kind, ok.glob, ok.blt, ok.above, ok.inj, ok.has, ok.cab, ok.hd, ok.frames, ok.stk, ok.exf, ok.bs, ok.bsz, ok.noex, ok.exfs, ok.funs, ok.frf⟩
section
variable {X : Cx} {pins : List (Addr × Obj)} {σ : St} {H : Hp} {s : Shared} {E : Value → Shared → Prop}
theorem Inv.wish (I : Inv X pins σ H s) (E : Value → Shared → Prop) : Inv (X.wish E) pins σ H s := ⟨I.ok.wish E, I.os, I.bare, I.base, I.loc, I.cell, I.free, I.freeC, I.pin, I.hok, I.len⟩
theorem Inv.unwish (I : Inv (X.wish E) pins σ H s) : Inv X pins σ H s := ⟨I.ok.unwish, I.os, I.bare, I.base, I.loc, I.cell, I.free, I.freeC, I.pin, I.hok, I.len⟩
theorem SP.unwish {D : Ends} {f : Flow} {s' : Shared} (h : SP (X.wish E) pins D f s') : SP X pins D f s' := by
  cases f with
  | next => obtain ⟨σ', H', I, q⟩ := h; exact ⟨σ', H', I.unwish, q⟩
  | brk => obtain ⟨σ', H', I, q⟩ := h; exact ⟨σ', H', I.unwish, q⟩
  | cont => obtain ⟨σ', H', I, q⟩ := h; exact ⟨σ', H', I.unwish, q⟩
  | ret u => obtain ⟨v, σ', H', I, r, q⟩ := h; exact ⟨v, σ', H', I.unwish, r, q⟩
theorem PSs.nox {st : List Stmt} {t : TS} (h : PSs X.nox st t) : PSs X st t := fun pins s σ H D I hw =>
  wpAny_mono (h pins s σ H D (I.wish _) hw) (fun _ _ q => q.unwish) fun _ _ z => False.elim z
end

/-! ### blocks and small statements -/
section
variable {X : Cx} {st : Stmt} {rest : List Stmt} {t u : TS} {e : Expr} {te : TE} {pos : Pos}
def tNext : TS := fun D σ H => D.nx σ H
def tSeq (t u : TS) : TS := fun D σ H => t { D with nx := u D } σ H
theorem pss_nil : PSs X [] tNext := fun _ _ σ H _ I h => wpAny_execs_nil ⟨σ, H, I, h⟩
theorem pss_cons (h1 : PS X st t) (h2 : PSs X rest u) : PSs X (st :: rest) (tSeq t u) := by
  intro pins s σ H D I h
  refine wpAny_execs_cons (thn (h1 pins s σ H { D with nx := u D } I h) fun f s1 q => ?_)
  cases f with
  | next =>
    obtain ⟨σ', H', I', q⟩ := q
    exact h2 pins s1 σ' H' D I' q
  | ret v => exact q
  | brk => exact q
  | cont => exact q
theorem pss_one (h1 : PS X st t) : PSs X [st] t := by
  intro pins s σ H D I h
  refine wpAny_execs_cons (thn (h1 pins s σ H D I h) fun f s1 q => ?_)
  cases f with
  | next => exact wpAny_execs_nil q
  | ret v => exact q
  | brk => exact q
  | cont => exact q
/-- in a def's body nothing is shown -/
theorem Inv.quiet {pins : List (Addr × Obj)} {σ : St} {H : Hp} {s : Shared} (I : Inv X pins σ H s) : interactive X.env = false := by simp [interactive, I.ok.kind]
/-- an expression whose value is dropped -/
def tDrop (te : TE) : TS := fun D σ H => te σ H fun _ H1 => D.nx σ H1
theorem ps_expr (he : PE X e te) (hs : swapsWith e none pos.line X.env = pure false := by rfl) : PS X (.Expr e pos) (tDrop te) := by
  intro pins s σ H D I h
  exact wpAny_Expr_any (thn (he pins s σ H _ I h) fun v s1 ⟨x, H1, I1, r1, q1⟩ => ⟨σ, H1, I1, q1⟩) I.quiet hs
def tRet (te : TE) : TS := fun D σ H => te σ H D.rt
theorem ps_ret (he : PE X e te) : PS X (.Return (some e) pos) (tRet te) := by
  intro pins s σ H D I h
  exact wpAny_Return_some (thn (he pins s σ H _ I h) fun v s1 ⟨x, H1, I1, r1, q1⟩ => ⟨x, σ, H1, I1, r1, q1⟩)
end

/-! ### targets -/
abbrev TG := V → St → Hp → (St → Hp → Prop) → Prop
abbrev TGs := List V → St → Hp → (St → Hp → Prop) → Prop
def PG (X : Cx) (target : Expr) (t : TG) : Prop :=
  ∀ (pins : List (Addr × Obj)) (s : Shared) (σ : St) (H : Hp) (v : V) (u : Value) (Q : St → Hp → Prop), Inv X pins σ H s → RelV v u → t v σ H Q →
    wpAny (model X.prog X.w) X.A (assign target X.env u) (fun _ s' => ∃ σ' H', Inv X pins σ' H' s' ∧ Q σ' H') X.xe s
/-- several targets, one after another -/
def PGs (X : Cx) (ts : List Expr) (t : TGs) : Prop :=
  ∀ (pins : List (Addr × Obj)) (s : Shared) (σ : St) (H : Hp) (vs : List V) (us : List Value) (Q : St → Hp → Prop), Inv X pins σ H s → Vals vs us → t vs σ H Q →
    wpAny (model X.prog X.w) X.A (assignInOrder ((assignEach ts X.env).map (·.2)) us) (fun _ s' => ∃ σ' H', Inv X pins σ' H' s' ∧ Q σ' H') X.xe s
/-- o[i] = v, by values -/
abbrev TSet := V → V → V → Hp → (Hp → Prop) → Prop
def PSet (X : Cx) (t : TSet) : Prop :=
  ∀ (pins : List (Addr × Obj)) (s : Shared) (σ : St) (H : Hp) (o i v : V) (ov iv u : Value) (Q : Hp → Prop), Inv X pins σ H s → RelV o ov → RelV i iv → RelV v u → t o i v H Q →
    wpAny (model X.prog X.w) X.A (setItem ov iv u) (fun _ s' => ∃ H', Inv X pins σ H' s' ∧ Q H') X.xe s
/-- a op= b, by values -/
abbrev TIp := V → V → Hp → VK → Prop
def PIp (X : Cx) (op : Operator) (t : TIp) : Prop :=
  ∀ (pins : List (Addr × Obj)) (s : Shared) (σ : St) (H : Hp) (x y : V) (v u : Value) (Q : VK), Inv X pins σ H s → RelV x v → RelV y u → t x y H Q →
    wpAny (model X.prog X.w) X.A (inplaceOp op v u) (EP X pins σ Q) X.xe s
section
variable {X : Cx} {pos : Pos}
def gName (i : Nat) : TG := fun v σ H Q => Q (σ.set i (some v)) H
theorem pg_name {i : Nat} {x : Str} (hN : X.N.Nodup) (hi : X.N[i]? = some x) (hx : Loc X.env.scope x) (hf : X.fn x = true ∨ X.env.scope.names.lookup x = some .local := by first | exact .inl rfl | exact .inr rfl | assumption) : PG X (.Name x pos) (gName i) := by
  intro pins s σ H v u Q I r h
  exact wpAny_assign_Name (store_ok I hN hi hx r (fun s' I' => ⟨_, H, I', h⟩) hf)
def gNil : TGs := fun vs σ H Q => vs = [] ∧ Q σ H
def gCons (t : TG) (u : TGs) : TGs := fun vs σ H Q => ∃ v r, vs = v :: r ∧ t v σ H fun σ' H' => u r σ' H' Q
theorem pgs_nil : PGs X [] gNil := by
  intro pins s σ H vs us Q I r h
  obtain ⟨e, h⟩ := h
  subst e
  cases r
  exact assignInOrder_nil ⟨σ, H, I, h⟩
theorem pgs_cons {e : Expr} {es : List Expr} {t : TG} {u : TGs} (h1 : PG X e t) (h2 : PGs X es u)
    (hs : (assignEach (e :: es) X.env).map (·.2) = assign e X.env :: (assignEach es X.env).map (·.2) := by rfl) : PGs X (e :: es) (gCons t u) := by
  intro pins s σ H vs us Q I r h
  obtain ⟨v, vr, e1, h⟩ := h
  subst e1
  cases r with
  | cons r rr =>
    rw [hs]
    refine assignInOrder_cons (thn (h1 pins s σ H _ _ _ I r h) fun _ s1 ⟨σ1, H1, I1, q1⟩ => ?_)
    exact h2 pins s1 σ1 H1 _ _ Q I1 rr q1
/-- (a, b, ..) = a tuple of that length -/
def gTup (K : PySem.W.Frag) (n : Nat) (t : TGs) : TG := fun v σ H Q => ∃ a xs, v = .ref a ∧ SqT K H a xs ∧ xs.length = n ∧ t xs σ H Q
theorem pg_tup {es : List Expr} {k : Nat} {t : TGs} {n : Nat} (hc : X.calm = true) (h : PGs X es t)
    (hn : (assignEach es X.env).length = n := by rfl) (hst : (assignEach es X.env).findIdx? (·.1) = none := by rfl) : PG X (.Tuple es k pos) (gTup X.K n t) := by
  intro pins s σ H v u Q I r hw
  obtain ⟨a, xs, e1, hq, hl, hw⟩ := hw
  subst e1
  cases r
  obtain ⟨its, rv, ht, hz⟩ := I.tuple hq
  refine assign_Tuple_tuple (I.ok.hd hc) ht (by simp [hn, ← hl, rv.length]) hst fun h' hx => ?_
  have I1 : Inv X pins σ H { s with heap := h' } := I.kept (t' := s.toks) fun b o e => hx b o (Nat.ne_of_lt (Heap.lt_size e)) e
  exact h pins _ σ H xs _ Q I1 (by simpa using rv) hw
/-- o[i] = .. -/
def gSub (to ti : TE) (t : TSet) : TG := fun v σ H Q => to σ H fun o H1 => ti σ H1 fun i H2 => t o i v H2 fun H3 => Q σ H3
theorem pg_sub {o i : Expr} {to ti : TE} {t : TSet} (ho : PE X o to) (hi : PE X i ti) (hs : PSet X t)
    (ha : ∀ v, assign (.Subscript o i pos) X.env v = (do
      let ov ← holding [v] (eval o X.env)
      let iv ← holding [v, ov] (eval i X.env)
      standAt pos
      holding [v, ov, iv] (setItem ov iv v)
      release [v, ov, iv] []) := by intro _; rfl) : PG X (.Subscript o i pos) (gSub to ti t) := by
  intro pins s σ H v u Q I r h
  rw [ha]
  refine wpAny_bind (wpAny_holding (thn (ho pins s σ H _ I h) fun ov s1 ⟨x, H1, I1, r1, q1⟩ => ?_))
  refine wpAny_bind (wpAny_holding (thn (hi pins s1 σ H1 _ I1 q1) fun iv s2 ⟨y, H2, I2, r2, q2⟩ => ?_))
  refine wpAny_bind (wpAny_standAt (wpAny_bind (wpAny_holding (thn (hs pins s2 σ H2 x y v ov iv u _ I2 r1 r2 r q2) fun _ s3 ⟨H3, I3, q3⟩ => ?_))))
  exact wpAny_release ⟨σ, H3, I3, q3⟩
/-- target = value -/
def tAsg (te : TE) (g : TG) : TS := fun D σ H => te σ H fun x H1 => g x σ H1 D.nx
theorem ps_asg {tg e : Expr} {te : TE} {g : TG} (he : PE X e te) (hg : PG X tg g) (hs : swapsWithSole [tg] e pos.line X.env = pure false := by rfl) (hw : swappedStores [tg] e X.env = pure none := by rfl)
    (h1 : (assignEach [tg] X.env).map (·.2) = [assign tg X.env] := by rfl) : PS X (.Assign [tg] e pos) (tAsg te g) := by
  intro pins s σ H D I h
  refine wpAny_Assign_stores (thn (he pins s σ H _ I h) fun v s1 ⟨x, H1, I1, r1, q1⟩ => ?_) hs hw
  rw [h1]
  exact thn (hg pins s1 σ H1 x v _ I1 r1 q1) fun _ s2 q => q
/-- name = value -/
theorem ps_set {i : Nat} {x : Str} {e : Expr} {te : TE} {pos' : Pos} (hN : X.N.Nodup) (hi : X.N[i]? = some x) (hx : Loc X.env.scope x) (he : PE X e te) (hs : swapsWith e (some (.Name x pos')) pos.line X.env = pure false := by rfl) (hf : X.fn x = true ∨ X.env.scope.names.lookup x = some .local := by first | exact .inl rfl | exact .inr rfl | assumption) :
    PS X (.Assign [.Name x pos'] e pos) (tAsg te (gName i)) := by
  intro pins s σ H D I h
  refine wpAny_Assign_Name (thn (he pins s σ H _ I h) fun v s1 ⟨y, H1, I1, r1, q1⟩ => ?_) hs
  exact store_ok I1 hN hi hx r1 (fun s2 I2 => ⟨_, H1, I2, q1⟩) hf
/-- name op= e -/
def tAug (i : Nat) (te : TE) (ti : TIp) : TS := fun D σ H => ∃ x, σ[i]? = some (some x) ∧ te σ H fun y H1 => ti x y H1 fun z H2 => D.nx (σ.set i (some z)) H2
theorem ps_aug {i : Nat} {x : Str} {e : Expr} {te : TE} {op : Operator} {ti : TIp} {pos' : Pos} (hN : X.N.Nodup) (hi : X.N[i]? = some x) (hx : Loc X.env.scope x) (he : PE X e te) (ho : PIp X op ti) (hf : X.fn x = true ∨ X.env.scope.names.lookup x = some .local := by first | exact .inl rfl | exact .inr rfl | assumption) :
    PS X (.AugAssign (.Name x pos') op e pos) (tAug i te ti) := by
  intro pins s σ H D I h
  obtain ⟨v, e1, h⟩ := h
  obtain ⟨m, hn, hl⟩ := I.loc
  have vis : Vis X.env.scope x := by rcases hx with k | k; exact .inl k; exact .inr (.inl k)
  obtain ⟨u, r, l⟩ := hl i x v hi e1 vis
  refine wpAny_AugAssign_Name ?_
  have go : wpAny (model X.prog X.w) X.A (eval e X.env) (fun w s₂ => wpAny (model X.prog X.w) X.A (inplaceOp op u w) (fun r s₃ => wpAny (model X.prog X.w) X.A (storeName X.env x r) (fun _ => SP X pins D .next) X.xe s₃) X.xe s₂) X.xe s := by
    refine thn (he pins s σ H _ I h) fun w s1 ⟨y, H1, I1, r1, q1⟩ => ?_
    refine thn (ho pins s1 σ H1 v y u w _ I1 r r1 q1) fun z s2 ⟨zv, H2, I2, r2, q2⟩ => ?_
    exact store_ok I2 hN hi hx r2 (fun s3 I3 => ⟨_, H2, I3, q2⟩) hf
  rcases l with ⟨hk, hm⟩ | ⟨hk, c, hc, hcell⟩
  · exact wpAny_loadName_local I.ok.kind hk hn hm go
  · rcases hk with hk | hk
    · exact wpAny_loadName_cell I.ok.kind hk hc hcell go
    · rcases hx with k | k
      · have : X.env.scope.names.lookup x = some .free := hk
        rw [k] at this; cases this
      · have : X.env.scope.names.lookup x = some .free := hk
        rw [k] at this; cases this
/-- ints -/
def ipI (f : Int → Int → Int) : TIp := fun x y H Q => ∃ i j, x = .int i ∧ y = .int j ∧ Q (.int (f i j)) H
theorem ip_add : PIp X .Add (ipI fun i j => i + j) := by
  intro pins s σ H x y v u Q I r1 r2 h
  obtain ⟨i, j, e1, e2, q⟩ := h
  subst e1; subst e2
  obtain ⟨t, rfl⟩ := r1
  obtain ⟨t', rfl⟩ := r2
  exact iadd_int ⟨.int _, H, I.tok _, ⟨_, rfl⟩, q⟩
end

/-! ### while -/
section
variable {X : Cx} {pos : Pos}
/-- the invariant W with its measure -/
def tWhile (c : TT) (tb : TS) : TS := fun D σ H => ∃ W : Nat → St → Hp → Prop, (∃ m, W m σ H) ∧ ∀ m σ H, W m σ H →
  c σ H fun b H1 => if b = true then ∃ N : St → Hp → Prop, (∀ σ' H', N σ' H' → ∃ m', m' < m ∧ W m' σ' H') ∧ tb { D with nx := N, ct := N, bk := D.nx } σ H1 else D.nx σ H1
theorem ps_while {c : Expr} {body : List Stmt} {tc : TT} {tb : TS} (hp : PassesOwn (model X.prog X.w) X.A X.env X.xe) (hc : PT X c tc) (hb : PSs X body tb) : PS X (.While c body [] pos) (tWhile tc tb) := by
  intro pins s σ H D I h
  obtain ⟨W, ⟨m0, w0⟩, turn⟩ := h
  refine wpAny_While (codeAny_whileLoop (fun n s' => ∃ σ' H', Inv X pins σ' H' s' ∧ W n σ' H') ?_ m0 ⟨σ, H, I, w0⟩)
  rintro n s1 ⟨σ1, H1, I1, w1⟩
  refine wpAny_passesOwn hp (thn (hc pins s1 σ1 H1 _ I1 (turn n σ1 H1 w1)) fun b s2 ⟨H2, I2, q2⟩ => ?_)
  cases b with
  | true =>
    obtain ⟨N, hN, q2⟩ := q2
    rw [if_pos rfl]
    refine wpAny_passesOwn hp (thn (hb pins s2 σ1 H2 _ I2 q2) fun f s3 q3 => ?_)
    cases f with
    | next =>
      obtain ⟨σ3, H3, I3, n3⟩ := q3
      obtain ⟨m', hm, w3⟩ := hN σ3 H3 n3
      exact ⟨m', hm, σ3, H3, I3, w3⟩
    | cont =>
      obtain ⟨σ3, H3, I3, n3⟩ := q3
      obtain ⟨m', hm, w3⟩ := hN σ3 H3 n3
      exact ⟨m', hm, σ3, H3, I3, w3⟩
    | brk => exact q3
    | ret v => exact q3
  | false =>
    rw [if_neg Bool.false_ne_true]
    exact wpAny_execs_nil ⟨σ1, H2, I2, q2⟩
end

/-! ### what a loop or a comprehension walks -/
/-- at turn i: it yields x (the heap may grow), or it stops -/
structure It where
  go : Nat → Hp → Prop
  yld : Nat → Hp → V → Hp → Prop
  stop : Nat → Hp → Prop
/-- the iterator's own objects may turn: they are not the frame's, not pinned, younger than the entry (or a comprehension's own) -/
def FpOk (X : Cx) (pins : List (Addr × Obj)) (H : Hp) (b : Addr) : Prop :=
  H b = none ∧ b ≠ X.env.locals ∧ b ∉ X.fs ∧ (b ∈ X.ex ∨ X.s₀.heap.objs.size ≤ b) ∧ (∀ x c, X.env.cells.lookup x = some c → c ≠ b) ∧ ∀ p ∈ X.pn ++ pins, p.1 ≠ b
theorem Inv.fpOk {X : Cx} {pins : List (Addr × Obj)} {σ : St} {H H' : Hp} {s : Shared} {b : Addr} (I : Inv X pins σ H s) (hb : s.heap.objs.size ≤ b) (hn : H' b = none) : FpOk X pins H' b := by
  refine ⟨hn, Nat.ne_of_gt (Nat.lt_of_lt_of_le I.lt hb), I.nofs hb, .inr (Nat.le_trans I.sz hb), fun x c e z => ?_, fun p hp z => ?_⟩
  · obtain ⟨v, q⟩ := I.cell x c e
    exact absurd (Nat.lt_of_lt_of_le q.lt (by rw [z]; exact hb)) (Nat.lt_irrefl _)
  · exact absurd (Nat.lt_of_lt_of_le (Heap.lt_size (I.pin p hp).1) (by rw [z]; exact hb)) (Nat.lt_irrefl _)
structure Turn (P : Program) (w : World) (K : PySem.W.Frag) (tg : Expr) (J : It) (fp : List Addr) (it : Addr) (tn : Nat → Heap → Prop) : Prop where
  mem : it ∈ fp
  obj : ∀ i h, tn i h → ∀ b ∈ fp, ∃ o, h.get? b = some o ∧ ∀ v, o.data ≠ .cell v
  keep : ∀ i h h', tn i h → (∀ b ∈ fp, ∀ o, h.get? b = some o → h'.get? b = some o) → tn i h'
  item : ∀ (X : Cx), X.prog = P → X.w = w → X.K = K → X.calm = true → ∀ (i : Nat) (pins : List (Addr × Obj)) (s : Shared) (σ : St) (H : Hp) (E : Value → Shared → Prop), Inv X pins σ H s → (∀ b ∈ fp, FpOk X pins H b) → tn i s.heap → J.go i H →
    wpAny (model P w) X.A (pyNext (.ref it)) (fun r s1 => ∃ u, r = some u ∧
      wpAny (model P w) X.A (letOwnedTupleGo tg (.ref it) u) (fun _ s2 => ∃ x H', Inv X pins σ H' s2 ∧ RelV x u ∧ J.yld i H x H' ∧ tn (i + 1) s2.heap ∧ ∀ b ∈ fp, H' b = none) E s1) E s
  done : ∀ (X : Cx), X.prog = P → X.w = w → X.K = K → X.calm = true → ∀ (i : Nat) (pins : List (Addr × Obj)) (s : Shared) (σ : St) (H : Hp) (E : Value → Shared → Prop), Inv X pins σ H s → (∀ b ∈ fp, FpOk X pins H b) → tn i s.heap → J.stop i H →
    wpAny (model P w) X.A (pyNext (.ref it)) (fun r s1 => r = none ∧ Inv X pins σ H s1) E s
  self : ∀ (A : Around) (i : Nat) (s : Shared) (Q : Value → Shared → Prop) (E : Value → Shared → Prop), tn i s.heap → Q (.ref it) s → wpAny (model P w) A (pyIter (.ref it)) Q E s
abbrev TI := St → Hp → (It → Hp → Prop) → Prop
/-- an iterator has come -/
def PIE (X : Cx) (pins : List (Addr × Obj)) (σ : St) (tg : Expr) (R : It → Hp → Prop) (itv : Value) (s2 : Shared) : Prop :=
  ∃ (it : Addr) (fp : List Addr) (tn : Nat → Heap → Prop) (J : It) (H' : Hp), itv = .ref it ∧ Inv X pins σ H' s2 ∧ Turn X.prog X.w X.K tg J fp it tn ∧ tn 0 s2.heap ∧ (∀ b ∈ fp, FpOk X pins H' b) ∧ R J H'
def PI (X : Cx) (tg iter : Expr) (wi : TI) : Prop :=
  ∀ (pins : List (Addr × Obj)) (s : Shared) (σ : St) (H : Hp) (R : It → Hp → Prop), Inv X pins σ H s → wi σ H R →
    wpAny (model X.prog X.w) X.A (eval iter X.env) (fun v s1 => wpAny (model X.prog X.w) X.A (pyIter v) (PIE X pins σ tg R) X.xe s1) X.xe s

/-- the step ahead of the store is nothing for an iterator that keeps no tuple -/
theorem go_of {M : Model} {A : Around} {E : Value → Shared → Prop} {s : Shared} {tg : Expr} {it : Addr} {u : Value} {o : Obj} {n : String} {vs : Array Value} {Q : Unit → Shared → Prop} (ho : s.heap.get? it = some o) (hc : o.cls = .type n) (hd : o.data = .fields vs)
    (hn : ["enumerate", "zip", "dict_itemiterator", "dict_reverseitemiterator", "odict_iterator", "itertools.zip_longest", "itertools.pairwise"].contains n = false) (hQ : Q () s) : wpAny M A (letOwnedTupleGo tg (.ref it) u) Q E s := by
  unfold letOwnedTupleGo
  cases tg <;> first
    | exact wpAny_pure hQ
    | (cases u <;> first
        | exact wpAny_pure hQ
        | (refine wpAny_bind (wpAny_load ho ?_)
           rw [hc, hd]
           show wpAny M A (if (["enumerate", "zip", "dict_itemiterator", "dict_reverseitemiterator", "odict_iterator", "itertools.zip_longest", "itertools.pairwise"].contains n && vs[0]? == some (rawInt _)) = true then _ else _) Q E s
           rw [if_neg (by intro h; rw [hn, Bool.false_and] at h; cases h)]
           exact wpAny_pure hQ))

/-- the list at a, as it stands at each turn (a loop may append to it) -/
def Itl (K : PySem.W.Frag) (a : Addr) : It :=
  ⟨fun i H => ∃ xs x, SqL K H a xs ∧ xs[i]? = some x, fun i H x H' => H' = H ∧ ∀ xs, SqL K H a xs → xs[i]? = some x, fun i H => ∃ xs, SqL K H a xs ∧ xs.length ≤ i⟩
/-- lo, lo + 1, .. (n of them) -/
def Itr (lo : Int) (n : Nat) : It := ⟨fun i _ => i < n, fun i H x H' => H' = H ∧ x = .int (lo + i), fun i _ => n ≤ i⟩
theorem turn_list {P : Program} {w : World} {K : PySem.W.Frag} {tg : Expr} (a it : Addr) : Turn P w K tg (Itl K a) [it] it (fun i h => h.IsListIter it a i) where
  mem := by simp
  obj := fun i h st b hb => by
    have e : b = it := by simpa using hb
    subst e
    obtain ⟨o, e, c, d⟩ := st
    exact ⟨o, e, fun v z => by rw [d] at z; cases z⟩
  keep := fun i h h' st k => st.at fun o e => k it (by simp) o e
  item := by
    intro X hP hw hK hc i pins s σ H E I hf st hg
    subst hP hw hK
    obtain ⟨xs, x, hq, hx⟩ := hg
    obtain ⟨its, rv, p, hz⟩ := I.list hq
    obtain ⟨u, hu, ru⟩ := rv.get hx
    obtain ⟨f0, f1, f2, f3, f4, f5⟩ := hf it (by simp)
    refine wpAny_pyNext_list_item st p.isList (x := u) (by simpa using hu) fun h' st' sb => ?_
    have I1 : Inv X pins σ H { s with heap := h' } := I.turned (t' := s.toks) (fun b o hb e => (sb.2 b hb).trans e) f0 f1 f3 f4 f5
    obtain ⟨o, e, c, d⟩ := id st'
    exact ⟨u, rfl, go_of (s := { s with heap := h' }) e c d (by decide) ⟨x, H, I1, ru, ⟨rfl, fun ys hy => by rw [I.list_inj hy hq]; exact hx⟩, st', fun b hb => (hf b hb).1⟩⟩
  done := by
    intro X hP hw hK hc i pins s σ H E I hf st hg
    subst hP hw hK
    obtain ⟨xs, hq, hx⟩ := hg
    obtain ⟨its, rv, p, hz⟩ := I.list hq
    obtain ⟨f0, f1, f2, f3, f4, f5⟩ := hf it (by simp)
    have hl := rv.length
    exact wpAny_pyNext_list_end (I.ok.hd hc) st p.isList (by simp; omega) fun h' eb => ⟨rfl, I.turned (t' := s.toks) (fun b o hb e => eb b o hb e) f0 f1 f3 f4 f5⟩
  self := fun _ _ _ _ _ st h => wpAny_pyIter_listiter st h
theorem turn_range {P : Program} {w : World} {K : PySem.W.Frag} {tg : Expr} (it : Addr) (lo : Int) (n : Nat) : Turn P w K tg (Itr lo n) [it] it (fun i h => IsRangeIter h it (lo + (i : Nat) * 1) ((n : Int) - (i : Nat)) 1) where
  mem := by simp
  obj := fun i h st b hb => by
    have e : b = it := by simpa using hb
    subst e
    exact ⟨_, st, fun v z => by
      have z' : Data.fields _ = Data.cell v := z
      cases z'⟩
  keep := fun i h h' st k => k it (by simp) _ st
  item := by
    intro X hP hw hK hc i pins s σ H E I hf st hg
    subst hP hw hK
    obtain ⟨f0, f1, f2, f3, f4, f5⟩ := hf it (by simp)
    have W := Walks.range (prog := X.prog) (w := X.w) (I.ok.hd hc) it lo 1 n
    refine W.item i s _ _ hg st fun v h' tk hv st' kk => ?_
    obtain ⟨t, rfl⟩ := hv
    have I1 : Inv X pins σ H { s with heap := h', toks := tk } := I.turned (fun b o hb e => kk b o (by simpa using hb) e) f0 f1 f3 f4 f5
    refine ⟨_, rfl, go_of (s := { s with heap := h', toks := tk }) (n := "range_iterator") st' rfl rfl (by decide) ⟨.int (lo + i), H, I1, ⟨t, ?_⟩, ⟨rfl, rfl⟩, st', fun b hb => (hf b hb).1⟩⟩
    rw [Int.mul_one]
  done := by
    intro X hP hw hK hc i pins s σ H E I hf st hg
    subst hP hw hK
    obtain ⟨f0, f1, f2, f3, f4, f5⟩ := hf it (by simp)
    exact wpAny_pyNext_range_end (I.ok.hd hc) st (by have : n ≤ i := hg; omega) fun h' eb => ⟨rfl, I.turned (t' := s.toks) (fun b o hb e => eb b o hb e) f0 f1 f3 f4 f5⟩
  self := fun _ _ _ _ _ st h => wpAny_pyIter_rangeiter st h
end L2

namespace L2
open PySem PySem.Spec PyProof.Rows
section
variable {X : Cx} {tg : Expr}
/-- a range object just made, walked -/
theorem range_it {pins : List (Addr × Obj)} {σ : St} {H : Hp} {s : Shared} {R : It → Hp → Prop} {E : Value → Shared → Prop} {lo hi : Int} {t u v : Tok} {tk : Nat} (I : Inv X pins σ H s) (h1 : -(2 ^ 62) ≤ lo) (h2 : lo < 2 ^ 62) (h3 : -(2 ^ 62) ≤ hi) (h4 : hi < 2 ^ 62)
    (q : R (Itr lo (hi - lo).toNat) H) : wpAny (model X.prog X.w) X.A (pyIter (.ref s.heap.objs.size)) (PIE X pins σ tg R) E { s with heap := s.heap.push { cls := .type "range", data := .fields #[.int lo t, .int hi u, .int 1 v] }, toks := tk } := by
  refine wpAny_pyIter_range (IsRange.new ..) (small_one h1 h2 h3 h4) ?_
  have I1 : Inv X pins σ H { s with heap := s.heap.push { cls := .type "range", data := .fields #[.int lo t, .int hi u, .int 1 v] }, toks := tk } := I.kept fun b o e => Heap.get?_push_of_some _ e
  refine ⟨(s.heap.push { cls := .type "range", data := .fields #[.int lo t, .int hi u, .int 1 v] }).objs.size, [(s.heap.push { cls := .type "range", data := .fields #[.int lo t, .int hi u, .int 1 v] }).objs.size], _, _, H, rfl,
    I1.kept (t' := tk) fun b o e => Heap.get?_push_of_some _ e, turn_range _ lo (hi - lo).toNat, ?_, fun b hb => ?_, q⟩
  · have e1 : lo + ((0 : Nat) : Int) * 1 = lo := by simp
    have e2 : (((hi - lo).toNat : Nat) : Int) - ((0 : Nat) : Int) = Builtin.Range.rangeSize lo hi 1 := by rw [rangeSize_one]; split <;> omega
    show IsRangeIter _ _ (lo + ((0 : Nat) : Int) * 1) ((((hi - lo).toNat : Nat) : Int) - ((0 : Nat) : Int)) 1
    rw [e1, e2]
    exact Heap.get?_push_size _ rfl
  · have e : b = (s.heap.push { cls := .type "range", data := .fields #[.int lo t, .int hi u, .int 1 v] }).objs.size := by simpa using hb
    subst e
    exact I1.fpOk (Nat.le_refl _) (I1.hok.fresh (Nat.le_refl _))
/-! ### for -/
/-- W: the invariant by the turn and a measure; N: what the body is to reach -/
def tFor (wi : TI) (g : TG) (tb : TS) : TS := fun D σ H => wi σ H fun J H1 => ∃ W : Nat → Nat → St → Hp → Prop, (∃ m, W 0 m σ H1) ∧ ∀ i m σ H, W i m σ H →
  (J.stop i H ∧ D.nx σ H) ∨ (J.go i H ∧ ∃ N : St → Hp → Prop, (∀ σ' H', N σ' H' → ∃ m', m' < m ∧ W (i + 1) m' σ' H') ∧ ∀ x H', J.yld i H x H' → g x σ H' fun σ2 H2 => tb { D with nx := N, ct := N, bk := D.nx } σ2 H2)
/-- the records at fp as they stand -/
def pinsAt (fp : List Addr) (h : Heap) : List (Addr × Obj) := fp.filterMap fun b => (h.get? b).map fun o => (b, o)
theorem mem_pinsAt {fp : List Addr} {h : Heap} {b : Addr} {o : Obj} (hb : b ∈ fp) (e : h.get? b = some o) : (b, o) ∈ pinsAt fp h := List.mem_filterMap.mpr ⟨b, hb, by rw [e]; rfl⟩
theorem of_pinsAt {fp : List Addr} {h : Heap} {p : Addr × Obj} (hp : p ∈ pinsAt fp h) : p.1 ∈ fp ∧ h.get? p.1 = some p.2 := by
  obtain ⟨b, hb, e⟩ := List.mem_filterMap.mp hp
  cases q : h.get? b with
  | none => rw [q] at e; cases e
  | some o =>
    rw [q] at e
    have e' : (b, o) = p := Option.some.inj e
    subst e'
    exact ⟨hb, q⟩
theorem Inv.pinned {pins : List (Addr × Obj)} {σ : St} {H : Hp} {s : Shared} {fp : List Addr} (I : Inv X pins σ H s) (hf : ∀ b ∈ fp, FpOk X pins H b) (ho : ∀ b ∈ fp, ∃ o, s.heap.get? b = some o ∧ ∀ v, o.data ≠ .cell v) : Inv X (pins ++ pinsAt fp s.heap) σ H s :=
  I.pins_of fun p hp => (List.mem_append.mp hp).elim (fun z => I.pin p (List.mem_append_right _ z)) fun z => by
    obtain ⟨hb, e⟩ := of_pinsAt z
    obtain ⟨f0, f1, f2, _⟩ := hf p.1 hb
    obtain ⟨o, e', d⟩ := ho p.1 hb
    rw [e] at e'; cases e'
    exact ⟨e, f0, f1, f2, d⟩
theorem Inv.unpinned {pins pl : List (Addr × Obj)} {σ : St} {H : Hp} {s : Shared} (I : Inv X (pins ++ pl) σ H s) : Inv X pins σ H s := I.pins_of fun p hp => I.pin p (List.mem_append_right _ (List.mem_append_left _ hp))
theorem ps_for {iter : Expr} {body : List Stmt} {wi : TI} {g : TG} {tb : TS} {pos : Pos} (hp : PassesOwn (model X.prog X.w) X.A X.env X.xe) (hc : X.calm = true) (hi : PI X tg iter wi) (hg : PG X tg g) (hb : PSs X body tb)
    (hs : ∀ x, foldedSetIterable iter X.env x = pure x := by intro _; rfl) : PS X (.For tg iter body [] pos) (tFor wi g tb) := by
  intro pins s σ H D I h
  refine wpAny_For (thn (hi pins s σ H _ I h) fun v s1 h1 => thn h1 fun itv s2 h2 => ?_) hs
  obtain ⟨it, fp, tn, J, H2, e, I2, T, st2, f2, W, ⟨m0, w0⟩, turn⟩ := h2
  subst e
  -- what stays true of the iterator's objects through the loop
  have stat : ∀ {H' : Hp}, (∀ b ∈ fp, H' b = none) → ∀ b ∈ fp, FpOk X pins H' b := fun hn b hb => ⟨hn b hb, (f2 b hb).2⟩
  refine codeAny_forLoop_any (fun n s' => ∃ i σ' H', Inv X pins σ' H' s' ∧ tn i s'.heap ∧ (∀ b ∈ fp, H' b = none) ∧ W i n σ' H') ?_ m0 ⟨0, σ, H2, I2, st2, fun b hb => (f2 b hb).1, w0⟩
  rintro n s3 ⟨i, σ3, H3, I3, st3, fr3, w3⟩
  rcases turn i n σ3 H3 w3 with ⟨stop, qn⟩ | ⟨go, N, hN, step⟩
  · refine wpAny_passesOwn hp (thn (T.done X rfl rfl rfl hc i pins s3 σ3 H3 X.xe I3 (stat fr3) st3 stop) fun r s4 ⟨hr, I4⟩ => ?_)
    subst hr
    exact wpAny_execs_nil ⟨σ3, H3, I4, qn⟩
  · refine wpAny_passesOwn hp (thn (T.item X rfl rfl rfl hc i pins s3 σ3 H3 X.xe I3 (stat fr3) st3 go) fun r s4 ⟨u, hr, h4⟩ => ?_)
    subst hr
    refine wpAny_passesOwn hp (thn h4 fun _ s5 ⟨x, H5, I5, r5, y5, st5, fr5⟩ => ?_)
    have I5' := I5.pinned (stat fr5) (T.obj _ _ st5)
    refine wpAny_passesOwn hp (thn (hg _ s5 σ3 H5 x u _ I5' r5 (step x H5 y5)) fun _ s6 ⟨σ6, H6, I6, q6⟩ => ?_)
    refine wpAny_passesOwn hp (thn (hb _ s6 σ6 H6 _ I6 q6) fun f s7 q7 => ?_)
    have again : ∀ {σ7 : St} {H7 : Hp}, Inv X (pins ++ pinsAt fp s5.heap) σ7 H7 s7 → N σ7 H7 → ∃ m, m < n ∧ ∃ i σ' H', Inv X pins σ' H' s7 ∧ tn i s7.heap ∧ (∀ b ∈ fp, H' b = none) ∧ W i m σ' H' := fun {σ7 H7} I7 n7 => by
      obtain ⟨m', hm, w7⟩ := hN σ7 H7 n7
      refine ⟨m', hm, i + 1, σ7, H7, I7.unpinned, T.keep _ _ _ st5 fun b hb o e => (I7.pin (b, o) (List.mem_append_right _ (List.mem_append_right _ (mem_pinsAt hb e)))).1, fun b hb => ?_, w7⟩
      obtain ⟨o, e, d⟩ := T.obj _ _ st5 b hb
      exact (I7.pin (b, o) (List.mem_append_right _ (List.mem_append_right _ (mem_pinsAt hb e)))).2.1
    cases f with
    | next => obtain ⟨σ7, H7, I7, n7⟩ := q7; exact again I7 n7
    | cont => obtain ⟨σ7, H7, I7, n7⟩ := q7; exact again I7 n7
    | brk => obtain ⟨σ7, H7, I7, q7⟩ := q7; exact ⟨σ7, H7, I7.unpinned, q7⟩
    | ret v => obtain ⟨x7, σ7, H7, I7, r7, q7⟩ := q7; exact ⟨x7, σ7, H7, I7.unpinned, r7, q7⟩
end

/-! ### the forms one uses -/
theorem for_range {lo : Int} {n : Nat} {g : TG} {tb : TS} {D : Ends} {σ : St} {H : Hp} (Pv : Nat → St → Hp → Prop) (h0 : Pv 0 σ H)
    (hs : ∀ i σ H, i < n → Pv i σ H → g (.int (lo + i)) σ H fun σ2 H2 => tb { D with nx := Pv (i + 1), ct := Pv (i + 1), bk := D.nx } σ2 H2) (hd : ∀ σ H, Pv n σ H → D.nx σ H) :
    ∃ W : Nat → Nat → St → Hp → Prop, (∃ m, W 0 m σ H) ∧ ∀ i m σ H, W i m σ H →
      ((Itr lo n).stop i H ∧ D.nx σ H) ∨ ((Itr lo n).go i H ∧ ∃ N : St → Hp → Prop, (∀ σ' H', N σ' H' → ∃ m', m' < m ∧ W (i + 1) m' σ' H') ∧ ∀ x H', (Itr lo n).yld i H x H' → g x σ H' fun σ2 H2 => tb { D with nx := N, ct := N, bk := D.nx } σ2 H2) := by
  refine ⟨fun i m σ H => m = n - i ∧ i ≤ n ∧ Pv i σ H, ⟨n, by simp, Nat.zero_le _, h0⟩, ?_⟩
  rintro i m σ H ⟨rfl, hi, p⟩
  by_cases hlt : i < n
  · refine .inr ⟨hlt, Pv (i + 1), fun σ' H' p' => ⟨n - (i + 1), by omega, rfl, hlt, p'⟩, fun x H' y => ?_⟩
    obtain ⟨e, y⟩ := y
    subst e y
    exact hs i σ _ hlt p
  · have e : i = n := by omega
    subst e
    exact .inl ⟨Nat.le_refl _, hd σ H p⟩
end L2

namespace L2
open PySem PySem.Spec PyProof.Rows

abbrev R2 := V → V → Hp → VK → Prop
/-- a two-place operation on values: f is binaryOp op, inplaceOp op or compareOp op -/
def OpR (X : Cx) (f : Value → Value → Sem Value) (r : R2) : Prop :=
  ∀ (pins : List (Addr × Obj)) (s : Shared) (σ : St) (H : Hp) (x y : V) (v u : Value) (Q : VK), Inv X pins σ H s → RelV x v → RelV y u → r x y H Q →
    wpAny (model X.prog X.w) X.A (f v u) (EP X pins σ Q) X.xe s
/-- a one-place operation -/
def UnR (X : Cx) (f : Value → Sem Value) (r : V → Hp → VK → Prop) : Prop :=
  ∀ (pins : List (Addr × Obj)) (s : Shared) (σ : St) (H : Hp) (x : V) (v : Value) (Q : VK), Inv X pins σ H s → RelV x v → r x H Q →
    wpAny (model X.prog X.w) X.A (f v) (EP X pins σ Q) X.xe s
/-- a call of a value that is known (a builtin, a type) with values -/
def CallR (X : Cx) (f : Value) (r : List V → Hp → VK → Prop) : Prop :=
  ∀ (pins : List (Addr × Obj)) (s : Shared) (σ : St) (H : Hp) (xs : List V) (us : List Value) (Q : VK), Inv X pins σ H s → Vals xs us → r xs H Q →
    wpAny (model X.prog X.w) X.A (call f us) (EP X pins σ Q) X.xe s
def tOp (r : R2) (ta tb : TE) : TE := fun σ H Q => ta σ H fun x H1 => tb σ H1 fun y H2 => r x y H2 Q
def tUn (r : V → Hp → VK → Prop) (ta : TE) : TE := fun σ H Q => ta σ H fun x H1 => r x H1 Q
/-- ints in, under C, and a value out -/
def rI (C : Int → Int → Prop) (g : Int → Int → V) : R2 := fun x y H Q => ∃ i j, x = .int i ∧ y = .int j ∧ C i j ∧ Q (g i j) H
def rI0 (g : Int → Int → V) : R2 := fun x y H Q => ∃ i j, x = .int i ∧ y = .int j ∧ Q (g i j) H
def rU (g : Int → V) : V → Hp → VK → Prop := fun x H Q => ∃ i, x = .int i ∧ Q (g i) H

section
variable {X : Cx} {a b c : Expr} {ta tb tc : TE} {pos : Pos}

theorem binT (ha : PE X a ta) (hb : PE X b tb) {pins : List (Addr × Obj)} {s : Shared} {σ : St} {H : Hp} {R : V → V → Hp → Prop} (I : Inv X pins σ H s)
    (h : ta σ H fun x H1 => tb σ H1 fun y H2 => R x y H2) {Q : Value → Shared → Prop} {f : Value → Value → Sem Value}
    (hf : ∀ v u s2 x y H2, Inv X pins σ H2 s2 → RelV x v → RelV y u → R x y H2 → wpAny (model X.prog X.w) X.A (f v u) Q X.xe s2) :
    wpAny (model X.prog X.w) X.A (eval a X.env) (fun v s₁ => wpAny (model X.prog X.w) X.A (eval b X.env) (fun u s₂ => wpAny (model X.prog X.w) X.A (f v u) Q X.xe s₂) X.xe s₁) X.xe s := by
  refine thn (ha pins s σ H _ I h) fun v s1 ⟨x, H1, I1, r1, q1⟩ => ?_
  refine thn (hb pins s1 σ H1 _ I1 q1) fun u s2 ⟨y, H2, I2, r2, q2⟩ => ?_
  exact hf v u s2 x y H2 I2 r1 r2 q2

theorem pe_op {op : Operator} {r : R2} (ho : OpR X (binaryOp op) r) (ha : PE X a ta) (hb : PE X b tb) : PE X (.BinOp a op b pos) (tOp r ta tb) := by
  intro pins s σ H Q I h
  exact wpAny_BinOp (binT ha hb I h fun v u s2 x y H2 I2 rx ry q => ho pins s2 σ H2 x y v u Q I2 rx ry q)
theorem pe_un {op : UnaryOp} {r : V → Hp → VK → Prop} (ho : UnR X (unaryOp op) r) (ha : PE X a ta) : PE X (.UnaryOp op a pos) (tUn r ta) := by
  intro pins s σ H Q I h
  exact UnaryOp_ (thn (ha pins s σ H _ I h) fun v s1 ⟨x, H1, I1, r1, q1⟩ => ho pins s1 σ H1 x v Q I1 r1 q1)
/-! ### ints -/
theorem opI {f : Value → Value → Sem Value} {C : Int → Int → Prop} {g : Int → Int → Int}
    (rule : ∀ (i j : Int) (t u : Tok) (s : Shared) (Q : Value → Shared → Prop) (E : Value → Shared → Prop), C i j → Q (.int (g i j) s.toks) { s with toks := s.toks + 1 } → wpAny (model X.prog X.w) X.A (f (.int i t) (.int j u)) Q E s) :
    OpR X f (rI C fun i j => .int (g i j)) := by
  intro pins s σ H x y v u Q I rx ry h
  obtain ⟨i, j, rfl, rfl, hc, q⟩ := h
  obtain ⟨t, rfl⟩ := rx
  obtain ⟨t', rfl⟩ := ry
  exact rule i j t t' s _ _ hc ⟨.int (g i j), H, I.tok _, ⟨_, rfl⟩, q⟩
theorem opI0 {f : Value → Value → Sem Value} {g : Int → Int → Int}
    (rule : ∀ (i j : Int) (t u : Tok) (s : Shared) (Q : Value → Shared → Prop) (E : Value → Shared → Prop), Q (.int (g i j) s.toks) { s with toks := s.toks + 1 } → wpAny (model X.prog X.w) X.A (f (.int i t) (.int j u)) Q E s) :
    OpR X f (rI0 fun i j => .int (g i j)) := by
  intro pins s σ H x y v u Q I rx ry h
  obtain ⟨i, j, rfl, rfl, q⟩ := h
  obtain ⟨t, rfl⟩ := rx
  obtain ⟨t', rfl⟩ := ry
  exact rule i j t t' s _ _ ⟨.int (g i j), H, I.tok _, ⟨_, rfl⟩, q⟩
theorem opB0 {f : Value → Value → Sem Value} {g : Int → Int → Bool}
    (rule : ∀ (i j : Int) (t u : Tok) (s : Shared) (Q : Value → Shared → Prop) (E : Value → Shared → Prop), Q (.bool (g i j)) s → wpAny (model X.prog X.w) X.A (f (.int i t) (.int j u)) Q E s) :
    OpR X f (rI0 fun i j => .bl (g i j)) := by
  intro pins s σ H x y v u Q I rx ry h
  obtain ⟨i, j, rfl, rfl, q⟩ := h
  obtain ⟨t, rfl⟩ := rx
  obtain ⟨t', rfl⟩ := ry
  exact rule i j t t' s _ _ ⟨.bl (g i j), H, I, rfl, q⟩

def CPow (i j : Int) : Prop := 0 ≤ j ∧ j ≤ 1000000 ∧ i.natAbs < 2 ^ 64
def CMul (i j : Int) : Prop := (-(2 ^ 64) < i ∧ i < 2 ^ 64) ∨ (-(2 ^ 64) < j ∧ j < 2 ^ 64)
theorem CMul.ok {i j : Int} (h : CMul i j) : IntMulOk i j := by
  rcases h with ⟨h1, h2⟩ | ⟨h1, h2⟩
  · exact .of_left (intBits_le_64 h1 h2)
  · exact .of_right (intBits_le_64 h1 h2)
theorem op_add : OpR X (binaryOp .Add) (rI0 fun i j => .int (i + j)) := opI0 fun _ _ _ _ _ _ _ q => add_int q
theorem op_sub : OpR X (binaryOp .Sub) (rI0 fun i j => .int (i - j)) := opI0 fun _ _ _ _ _ _ _ q => sub_int q
theorem op_mul : OpR X (binaryOp .Mult) (rI CMul fun i j => .int (i * j)) := opI fun _ _ _ _ _ _ _ hc q => mul_int q hc.ok
/-- % by a positive divisor of any size -/
theorem op_mod : OpR X (binaryOp .Mod) (rI (fun _ j => 0 < j) fun i j => .int (i % j)) := opI fun i j _ _ _ _ _ hc q => by
  have h1 : (0 : Int) < j := hc
  exact mod_int' (by omega) (by rw [Int.fmod_eq_emod_of_nonneg i (by omega)]; exact q)
theorem op_pow : OpR X (binaryOp .Pow) (rI CPow fun i j => .int (i ^ j.toNat)) := opI fun _ _ _ _ _ _ _ hc q => pow_int_small hc.1 hc.2.1 hc.2.2 q
theorem unI {f : Value → Sem Value} {g : Int → Int}
    (rule : ∀ (i : Int) (t : Tok) (s : Shared) (Q : Value → Shared → Prop) (E : Value → Shared → Prop), Q (.int (g i) s.toks) { s with toks := s.toks + 1 } → wpAny (model X.prog X.w) X.A (f (.int i t)) Q E s) :
    UnR X f (rU fun i => .int (g i)) := by
  intro pins s σ H x v Q I rx h
  obtain ⟨i, rfl, q⟩ := h
  obtain ⟨t, rfl⟩ := rx
  exact rule i t s _ _ ⟨.int (g i), H, I.tok _, ⟨_, rfl⟩, q⟩
theorem un_neg : UnR X (unaryOp .USub) (rU fun i => .int (-i)) := unI fun _ _ _ _ _ q => neg_int q
/-! ### bools among ints: n += (a < b) -/
end

/-! ### comparisons -/
section
variable {X : Cx} {a b c : Expr} {ta tb tc : TE} {pos : Pos}
theorem fin_bl {pins : List (Addr × Obj)} {σ : St} {H : Hp} {s : Shared} {Q : VK} {k k' : Bool} (I : Inv X pins σ H s) (q : Q (.bl k) H) (e : k = k') : EP X pins σ Q (.bool k') s := by
  subst e
  exact ⟨.bl k, H, I, rfl, q⟩
theorem op_lt : OpR X (compareOp .Lt) (rI0 fun i j => .bl (decide (i < j))) := opB0 fun _ _ _ _ _ _ _ q => lt_int q
theorem op_le : OpR X (compareOp .LtE) (rI0 fun i j => .bl (decide (i ≤ j))) := opB0 fun _ _ _ _ _ _ _ q => le_int q
theorem op_gt : OpR X (compareOp .Gt) (rI0 fun i j => .bl (decide (j < i))) := opB0 fun _ _ _ _ _ _ _ q => gt_int q
theorem nomark (b : Expr) {op : CmpOp} (h : op ≠ .In := by decide) (h2 : op ≠ .NotIn := by decide) : behindInMarks op b = false := by
  have e1 : (op == CmpOp.In) = false := by cases op <;> first | rfl | exact absurd rfl h
  have e2 : (op == CmpOp.NotIn) = false := by cases op <;> first | rfl | exact absurd rfl h2
  cases b <;> simp [behindInMarks, e1, e2]
/-- a comparison as a value; hm: nomark b, or (for in, not in) by with_unfolding_all rfl -/
theorem pe_cmpR {op : CmpOp} {r : R2} (ho : OpR X (compareOp op) r) (ha : PE X a ta) (hb : PE X b tb) (hm : behindInMarks op b = false) : PE X (.Compare a [op] [b] pos) (tOp r ta tb) := by
  intro pins s σ H Q I h
  exact wpAny_Compare1 (binT ha hb I h fun v u s2 x y H2 I2 rx ry q => ho pins s2 σ H2 x y v u Q I2 rx ry q) hm
/-! ### truth -/
theorem line63 : (sizeLine : Nat) < 2 ^ 63 := by rw [sizeLine_eq]; decide
/-! ### strs and bytes -/
/-! ### scalar builtins, by CallR -/
theorem vals1 {x : V} {us : List Value} (r : Vals [x] us) : ∃ u, us = [u] ∧ RelV x u := by
  cases r with
  | cons r1 r2 => cases r2; exact ⟨_, rfl, r1⟩
theorem vals2 {x y : V} {us : List Value} (r : Vals [x, y] us) : ∃ u w', us = [u, w'] ∧ RelV x u ∧ RelV y w' := by
  cases r with
  | cons r1 r2 =>
    cases r2 with
    | cons r3 r4 => cases r4; exact ⟨_, _, rfl, r1, r3⟩
theorem call_max2 (hc : X.calm = true) : CallR X (.builtin "max") (fun xs H Q => ∃ i j, xs = [.int i, .int j] ∧ Q (.int (if j > i then j else i)) H) := by
  intro pins s σ H xs us Q I r h
  obtain ⟨i, j, rfl, q⟩ := h
  obtain ⟨u, w', rfl, ⟨t, rfl⟩, ⟨t', rfl⟩⟩ := vals2 r
  refine max_two_ints (I.ok.hd hc) fun h' tk k => ⟨_, H, I.kept k, ?_, q⟩
  by_cases hj : j > i
  · rw [if_pos hj, if_pos hj]; exact ⟨_, rfl⟩
  · rw [if_neg hj, if_neg hj]; exact ⟨_, rfl⟩
theorem call_int1 : CallR X (.type "int") (fun xs H Q => (∃ i, xs = [.int i] ∧ Q (.int i) H) ∨ ∃ k, xs = [.bl k] ∧ Q (.int (if k then 1 else 0)) H) := by
  intro pins s σ H xs us Q I r h
  rcases h with ⟨i, rfl, q⟩ | ⟨k, rfl, q⟩
  · obtain ⟨u, rfl, t, rfl⟩ := vals1 r
    exact call_int_int ⟨.int i, H, I, ⟨_, rfl⟩, q⟩
  · obtain ⟨u, rfl, r1⟩ := vals1 r
    cases r1
    exact call_int_bool ⟨.int (if k then 1 else 0), H, I.tok _, ⟨_, rfl⟩, q⟩
end
end L2

namespace L2
open PySem PySem.Spec PyProof.Rows

/-! ### an instance, its attributes a map -/
structure ObjM (h : Heap) (x dx C : Addr) (mA : Str → Option Value) : Prop where
  obj : h.get? x = some (PySem.W.instObj C dx)
  ns : h.Ns1 dx mA
  ne : dx ≠ x

theorem lookIn_ns {h : Heap} {dx : Addr} {mA : Str → Option Value} (n : h.Ns1 dx mA) : ∃ od, h.get? dx = some od ∧ ∀ name, PySem.W.lookIn name od = some (mA name) := by
  obtain ⟨o, es, ep, ho, hd, hk, _, hm⟩ := n
  refine ⟨o, ho, fun name => ?_⟩
  have e := hm name
  unfold nsFind findBy at e
  rw [← Array.find?_toList] at e
  unfold PySem.W.lookIn
  rw [hd]
  dsimp only
  split
  · rename_i y q
    rw [q] at e
    exact congrArg some e
  · rename_i q
    rw [q] at e
    have a : es.toList.any (·.refKey) = false := by
      rw [List.any_eq_false]
      intro y hy
      obtain ⟨z, t, hkey⟩ := hk y (Array.mem_toList_iff.mp hy)
      simp [DictEntry.refKey, hkey]
    have a' : ¬ es.toList.any (·.refKey) = true := by rw [a]; exact Bool.false_ne_true
    rw [if_neg a']
    exact congrArg some e

theorem ObjM.look {h : Heap} {x dx C : Addr} {mA : Str → Option Value} (I : ObjM h x dx C mA) : ∃ od, PySem.W.InstAt h x (PySem.W.instObj C dx) C (some od) ∧ ∀ name, PySem.W.lookIn name od = some (mA name) :=
  let ⟨od, ho, hl⟩ := lookIn_ns I.ns
  ⟨od, ⟨I.obj, rfl, rfl, ho⟩, hl⟩

section
variable {prog : Program} {w : World} {A : Around} {E : Value → Shared → Prop} {s : Shared} {K : PySem.W.Frag} {x dx C f : Addr} {mA : Str → Option Value} {name : Str} {v : Value}

theorem get_map {expr : Bool} {Q : Value → Shared → Prop} (X : K.In s.heap) (I : ObjM s.heap x dx C mA) (hg : PySem.W.plainGet K C name = true) (hh : PySem.W.hasDictIn K C = true)
    (ha : PySem.W.findIn K (.ref C) name = some none) (hv : mA name = some v) (hv' : PySem.W.handedIn v = true) (h : Q v { s with toks := s.toks + 1 }) :
    wpAny (model prog w) A (getAttr (.ref x) name expr) Q E s := by
  obtain ⟨od, J, hl⟩ := I.look
  exact PySem.W.get_value X J (PySem.W.plainGet_of hg).1 (PySem.W.findObj_own hh ha rfl (by rw [hl, hv])) hv' h

theorem get_meth {pl : Sem Bool} {Q : Value × List Value → Shared → Prop} (X : K.In s.heap) (I : ObjM s.heap x dx C mA) (hg : PySem.W.plainGet K C name = true)
    (hf : PySem.W.findIn K (.ref C) name = some (some (.ref f))) (ht : PySem.W.isFn K (.ref f) = true) (hv : mA name = none) (h : Q (.ref f, [.ref x]) s) :
    wpAny (model prog w) A (getMethod (.ref x) name pl) Q E s := by
  obtain ⟨od, J, hl⟩ := I.look
  exact PySem.W.method_fn X J (PySem.W.plainGet_of hg).1 (PySem.W.plainGet_of hg).2 hf (beq_iff_eq.mp ht) (by show (PySem.W.lookIn name od).map (·.isSome) = some false; rw [hl, hv]; rfl) h

theorem set_map {ns : List Str} {Q : Unit → Shared → Prop} (X : K.In s.heap) (I : ObjM s.heap x dx C mA)
    (hs : PySem.W.findIn K (.ref C) "__setattr__" = some (some (.builtin "object.__setattr__"))) (hp : PySem.W.plainOver K C = true) (ht : PySem.W.takerIn K C name = some none) (hh : PySem.W.hasDictIn K C = true)
    (hw : PySem.Within mA ns) (hsz : ns.length ≤ sizeLine)
    (h : ∀ h', ObjM h' x dx C (fun y => if y = name then some v else mA y) → Heap.SameBut dx s.heap h' → Q () { s with heap := h', toks := s.toks + 2 }) :
    wpAny (model prog w) A (setAttr (.ref x) name v) Q E s := by
  obtain ⟨od, J, hl⟩ := I.look
  refine PySem.W.set_plain X J hs (PySem.W.osa_open (s := { s with toks := s.toks + 1 }) (r := none) X J hp ht fun b => ?_)
  obtain ⟨cd, hc, hd'⟩ := PySem.W.any_some hh
  have hx : s.heap.get? x = some ⟨.ref C, some dx, .plain, #[]⟩ := I.obj
  refine wpAny_bind (wpAny_pure (wpAny_bind (wpAny_bind (wpAny_loadPart hx (wpAny_bind (PySem.W.Looks.here (s := { s with toks := s.toks + 1 }) (PySem.W.looks_clsIn X hc) ?_))))))
  rw [hd']
  refine wpAny_pure (a := some dx) (wpAny_bind (wpAny_pure (wpAny_bind ?_)))
  refine wpAny_nsSet1 (s := { s with toks := s.toks + 1 }) I.ns fun h' hn2 hs2 => ?_
  obtain ⟨oD, esD, epD, hoD, hdD, hcD⟩ := hn2.count (PySem.Within.cons name v hw)
  refine wpAny_bind (wpAny_lookBehind hoD (by rw [hdD]; exact pastItsLine_dict (Nat.le_trans hcD (by rw [List.length_cons]; omega))) ?_)
  exact wpAny_pure (h _ ⟨(hs2.2 _ (Ne.symm I.ne)).trans I.obj, hn2, I.ne⟩ hs2)

/-- C(..): the dict at the heap's end, the instance behind it; then its __init__ -/
theorem make_map {R : Result → Shared → Prop} {vs : List Value} {kw : List (Str × Value)} (X : K.In s.heap) (hm : PySem.W.makesIn K C = true)
    (hi : PySem.W.findIn K (.ref C) "__init__" = some (some (.ref f))) (hf : PySem.W.typeIn K (.ref f) = some (.type "function"))
    (h : codeAny (model prog w) (A.under (.builtin "type.__call__" ⟨.ref C :: vs, kw⟩)) (.call (.ref f) ⟨.ref (s.heap.objs.size + 1) :: vs, kw⟩) (PySem.W.InitBack (s.heap.objs.size + 1) R)
      { s with heap := (s.heap.push PySem.W.emptyDict).push (PySem.W.instObj C s.heap.objs.size) }) :
    codeAny (model prog w) A (.call (.ref C) ⟨vs, kw⟩) R s := by
  obtain ⟨hh, g, d, t, os⟩ := s
  exact PySem.W.make_core (PySem.W.makes_of X hm) (PySem.W.looks_findIn X hi) (fun self => PySem.W.bind_fn X self hf) (.inl rfl) h
end

/-! ### the attributes as a list of pairs -/
def putF (f : Str) (v : V) : List (Str × V) → List (Str × V)
  | [] => [(f, v)]
  | (g, x) :: r => if g = f then (g, v) :: r else (g, x) :: putF f v r
theorem lookup_putF (f g : Str) (v : V) : ∀ fs : List (Str × V), (putF f v fs).lookup g = if g = f then some v else fs.lookup g
  | [] => by
    show List.lookup g [(f, v)] = _
    by_cases h : g = f
    · have hb : (g == f) = true := beq_iff_eq.mpr h
      simp only [List.lookup, hb, if_pos h]
    · have hb : (g == f) = false := beq_eq_false_iff_ne.mpr h
      simp only [List.lookup, hb, if_neg h]
  | (k, x) :: r => by
    have ih := lookup_putF f g v r
    rw [show putF f v ((k, x) :: r) = (if k = f then (k, v) :: r else (k, x) :: putF f v r) from rfl]
    by_cases hk : k = f
    · rw [if_pos hk]
      by_cases h : g = k
      · have hb : (g == k) = true := beq_iff_eq.mpr h
        simp only [List.lookup, hb, if_pos (h.trans hk)]
      · have hb : (g == k) = false := beq_eq_false_iff_ne.mpr h
        simp only [List.lookup, hb, if_neg (fun e : g = f => h (e.trans hk.symm))]
    · rw [if_neg hk]
      by_cases h : g = k
      · have hb : (g == k) = true := beq_iff_eq.mpr h
        simp only [List.lookup, hb, if_neg (fun e : g = f => hk (h.symm.trans e))]
      · have hb : (g == k) = false := beq_eq_false_iff_ne.mpr h
        simp only [List.lookup, hb]
        exact ih
theorem keys_putF (f : Str) (v : V) : ∀ fs : List (Str × V), f ∈ (putF f v fs).map (·.1) ∧ ∀ g, g ∈ fs.map (·.1) → g ∈ (putF f v fs).map (·.1)
  | [] => ⟨by simp [putF], fun g h => by simp at h⟩
  | (k, x) :: r => by
    obtain ⟨i1, i2⟩ := keys_putF f v r
    rw [show putF f v ((k, x) :: r) = (if k = f then (k, v) :: r else (k, x) :: putF f v r) from rfl]
    by_cases hk : k = f
    · rw [if_pos hk]
      subst hk
      exact ⟨by simp, fun g h => by simpa using h⟩
    · rw [if_neg hk]
      refine ⟨?_, fun g h => ?_⟩
      · rw [List.map_cons]
        exact List.mem_cons_of_mem _ i1
      · rw [List.map_cons] at h ⊢
        rcases List.mem_cons.mp h with e | e
        · exact List.mem_cons.mpr (.inl e)
        · exact List.mem_cons_of_mem _ (i2 g e)
theorem length_putF (f : Str) (v : V) : ∀ fs : List (Str × V), (putF f v fs).length ≤ fs.length + 1
  | [] => by simp [putF]
  | (k, x) :: r => by
    have ih := length_putF f v r
    rw [show putF f v ((k, x) :: r) = (if k = f then (k, v) :: r else (k, x) :: putF f v r) from rfl]
    by_cases hk : k = f
    · rw [if_pos hk, List.length_cons, List.length_cons]; omega
    · rw [if_neg hk, List.length_cons, List.length_cons]; omega

theorem RelO.some_of {v : V} {o : Option Value} (r : RelO (some v) o) : ∃ u, o = some u ∧ RelV v u := by
  cases o with
  | none => exact (show False from r).elim
  | some u => exact ⟨u, rfl, r⟩
theorem RelO.none_of {o : Option Value} (r : RelO none o) : o = none := by
  cases o with
  | none => rfl
  | some u => exact (show False from r).elim
theorem handed_of {v : V} {u : Value} (r : RelV v u) : PySem.W.handedIn u = true := by
  cases v with
  | non => cases (show u = Value.none from r); rfl
  | bl b => cases (show u = Value.bool b from r); rfl
  | int i => obtain ⟨t, e⟩ := (show ∃ t, u = Value.int i t from r); cases e; rfl
  | str x => obtain ⟨t, e⟩ := (show ∃ t, u = Value.str x t from r); cases e; rfl
  | byt b => obtain ⟨t, e⟩ := (show ∃ t, u = Value.bytes b t from r); cases e; rfl
  | flt b => obtain ⟨t, e⟩ := (show ∃ t, u = Value.float b t from r); cases e; rfl
  | ref a => cases (show u = Value.ref a from r); rfl
  | ty n => cases (show u = Value.type n from r); rfl

section
variable {P : Program} {w : World} {H H' : Hp} {h h' : Heap} {a C dx : Addr} {fs fs' : List (Str × V)}
theorem ins_get (hok : HOk P w H h) (e : H a = some (.ins C dx fs)) : ∃ mA, ObjM h a dx C mA ∧ (∀ f, RelO (fs.lookup f) (mA f)) ∧ PySem.Within mA (fs.map (·.1)) ∧ fs.length ≤ 1000 ∧ H dx = some (.own a) := by
  obtain ⟨d, z, ne, ob, mA, n, r, q⟩ := (show ObjOk P w H h a (.ins C dx fs) from hok a _ e)
  exact ⟨mA, ⟨ob, n, ne⟩, r, q, z, d⟩
end

/-! ### what of the text a class must have -/
structure Cls (K : PySem.W.Frag) (C : Addr) : Prop where
  pg : PySem.W.plainGet K C Str.empty = true
  hd : PySem.W.hasDictIn K C = true
  po : PySem.W.plainOver K C = true
  sa : PySem.W.findIn K (.ref C) "__setattr__" = some (some (.builtin "object.__setattr__"))
theorem Cls.get {K : PySem.W.Frag} {C : Addr} (c : Cls K C) (f : Str) : PySem.W.plainGet K C f = true := c.pg
/-- no class of it has the name -/
def NoAttr (K : PySem.W.Frag) (C : Addr) (f : Str) : Prop := PySem.W.findIn K (.ref C) f = some none
theorem NoAttr.taker {K : PySem.W.Frag} {C : Addr} {f : Str} (n : NoAttr K C f) : PySem.W.takerIn K C f = some none := by
  unfold PySem.W.takerIn
  rw [show PySem.W.findIn K (.ref C) f = some none from n]
  rfl
/-- a method: a plain def of the class or of one above it -/
structure Meth (K : PySem.W.Frag) (C : Addr) (m : Str) (f : Addr) : Prop where
  at_ : PySem.W.findIn K (.ref C) m = some (some (.ref f))
  fn : PySem.W.isFn K (.ref f) = true
  kp : PySem.W.keepIn K (.ref f) = true

section
variable {X : Cx} {pins : List (Addr × Obj)} {σ : St} {H : Hp} {s : Shared} {a C dx : Addr} {fs : List (Str × V)} {f : Str} {v : V} {A : Around} {E : Value → Shared → Prop}

theorem getattr_ok {b : Bool} {Q : Value → Shared → Prop} (I : Inv X pins σ H s) (e : H a = some (.ins C dx fs)) (c : Cls X.K C) (n : NoAttr X.K C f) (l : fs.lookup f = some v)
    (h : ∀ u s', Inv X pins σ H s' → RelV v u → Q u s') : wpAny (model X.prog X.w) A (getAttr (.ref a) f b) Q E s := by
  obtain ⟨mA, O, r, _, _, _⟩ := ins_get I.hok e
  obtain ⟨u, hu, ru⟩ := RelO.some_of (v := v) (o := mA f) (by rw [← l]; exact r f)
  exact get_map I.kIn O (c.get f) c.hd n hu (handed_of ru) (h u _ (I.tok _) ru)

theorem getmeth_ok {m : Str} {g : Addr} {pl : Sem Bool} {Q : Value × List Value → Shared → Prop} (I : Inv X pins σ H s) (e : H a = some (.ins C dx fs)) (c : Cls X.K C) (k : Meth X.K C m g) (l : fs.lookup m = none)
    (h : Q (.ref g, [.ref a]) s) : wpAny (model X.prog X.w) A (getMethod (.ref a) m pl) Q E s := by
  obtain ⟨mA, O, r, _, _, _⟩ := ins_get I.hok e
  have hn : mA m = none := RelO.none_of (by rw [← l]; exact r m)
  exact get_meth I.kIn O (c.get m) k.at_ k.fn hn h

theorem setattr_ok {y : V} {u : Value} {Q : Unit → Shared → Prop} (I : Inv X pins σ H s) (e : H a = some (.ins C dx fs)) (c : Cls X.K C) (n : NoAttr X.K C f) (hl : fs.length < 1000) (ry : RelV y u)
    (h : ∀ s', Inv X pins σ (upd H a (.ins C dx (putF f y fs))) s' → Q () s') : wpAny (model X.prog X.w) A (setAttr (.ref a) f u) Q E s := by
  obtain ⟨mA, O, r, wi, _, ho⟩ := ins_get I.hok e
  have hz : (fs.map (·.1)).length ≤ sizeLine := by rw [List.length_map, sizeLine_eq]; omega
  refine set_map I.kIn O c.sa c.po n.taker c.hd wi hz fun h' O' sb => h _ ?_
  have hd : ∃ o, h'.get? dx = some o := let ⟨o, _, _, e', _⟩ := O'.ns; ⟨o, e'⟩
  refine I.write (x := a) (e := dx) (by rw [e]; exact True.intro) (.inr ho) (fun b q hb z => (sb.2 b hb).trans z) hd ?_
  refine ⟨by rw [upd_ne O.ne]; exact ho, ?_, O.ne, O'.obj, _, O'.ns, fun g => ?_, fun g hg => ?_⟩
  · have := length_putF f y fs; omega
  · show RelO ((putF f y fs).lookup g) (if g = f then some u else mA g)
    rw [lookup_putF]
    by_cases q : g = f
    · rw [if_pos q, if_pos q]; exact ry
    · rw [if_neg q, if_neg q]; exact r g
  · by_cases q : g = f
    · rw [q]; exact (keys_putF f y fs).1
    · refine (keys_putF f y fs).2 g (wi g fun z => hg ?_)
      show (if g = f then some u else mA g) = none
      rw [if_neg q]; exact z

/-- a new instance, tracked, without attributes -/
theorem Inv.made (I : Inv X pins σ H s) : Inv X pins σ (upd (upd H s.heap.objs.size (.own (s.heap.objs.size + 1))) (s.heap.objs.size + 1) (.ins C s.heap.objs.size []))
    { s with heap := (s.heap.push PySem.W.emptyDict).push (PySem.W.instObj C s.heap.objs.size) } := by
  have e1 : (s.heap.push PySem.W.emptyDict).get? s.heap.objs.size = some PySem.W.emptyDict := Heap.get?_push_size s.heap rfl
  have e2 : ((s.heap.push PySem.W.emptyDict).push (PySem.W.instObj C s.heap.objs.size)).get? (s.heap.objs.size + 1) = some (PySem.W.instObj C s.heap.objs.size) := by
    have := Heap.get?_push_size (s.heap.push PySem.W.emptyDict) (o := PySem.W.instObj C s.heap.objs.size) rfl
    rwa [Heap.size_push] at this
  have e3 : (s.heap.push PySem.W.emptyDict).Ns s.heap.objs.size (fun _ => none) := ⟨PySem.W.emptyDict, #[], _, e1, rfl, (fun e he => absurd he (by simp)), fun _ => rfl⟩
  have I1 := I.laid (a := s.heap.objs.size) (o := .own (s.heap.objs.size + 1)) (h' := s.heap.push PySem.W.emptyDict) (t' := s.toks) (fun b u q => Heap.get?_push_of_some _ q) (Nat.le_refl _) ⟨_, e1⟩
  refine I1.laid (a := s.heap.objs.size + 1) (o := .ins C s.heap.objs.size []) (t' := s.toks) (fun b u q => Heap.get?_push_of_some _ q) (Nat.le_of_eq (Heap.size_push _ _)) ?_
  have ne : s.heap.objs.size ≠ s.heap.objs.size + 1 := Nat.ne_of_lt (Nat.lt_succ_self _)
  refine ⟨by rw [upd_ne ne, upd_same], Nat.zero_le _, ne, e2, fun _ => none, (Heap.Ns1.of_empty e3).at fun o q => Heap.get?_push_of_some _ q, fun _ => True.intro, fun y hy => absurd rfl hy⟩

/-- e.f where nothing but the object is asked: through attributeBase (super) and the last hold -/
theorem attr_of {prog : Program} {w : World} {env : Env} {e : Expr} {f : Str} {pos : Pos} {s : Shared} {Q : Value → Shared → Prop} (hb : attributeBase e f env (eval e env) = eval e env)
    (h : wpAny (model prog w) A (eval e env) (fun o s₁ => wpAny (model prog w) A (getAttr o f true) Q E s₁) E s) : wpAny (model prog w) A (eval (.Attribute e f pos) env) Q E s :=
  Attribute_any_ h (by rw [arm_eval_Attribute, hb])
end

/-! ### readings and rules -/
/-- e.f, an attribute of the instance -/
def tFld (K : PySem.W.Frag) (ta : TE) (f : Str) : TE := fun σ H Q => ta σ H fun x H1 => ∃ a C dx fs v, x = .ref a ∧ H1 a = some (.ins C dx fs) ∧ Cls K C ∧ NoAttr K C f ∧ fs.lookup f = some v ∧ Q v H1
/-- e.f = value -/
def sFld (K : PySem.W.Frag) (ta tv : TE) (f : Str) : TS := fun D σ H => tv σ H fun y H1 => ta σ H1 fun x H2 => ∃ a C dx fs, x = .ref a ∧ H2 a = some (.ins C dx fs) ∧ Cls K C ∧ NoAttr K C f ∧ fs.length < 1000 ∧
  D.nx σ (upd H2 a (.ins C dx (putF f y fs)))
/-- an augmented operator on two values -/
def InOp (X : Cx) (op : Operator) (rd : V → V → Hp → VK → Prop) : Prop :=
  ∀ (pins : List (Addr × Obj)) (s : Shared) (σ : St) (H : Hp) (x y : V) (u v : Value) (Q : VK), Inv X pins σ H s → RelV x u → RelV y v → rd x y H Q → wpAny (model X.prog X.w) X.A (inplaceOp op u v) (EP X pins σ Q) X.xe s
/-- e.f op= value -/
def sFldAug (K : PySem.W.Frag) (ta tv : TE) (rd : V → V → Hp → VK → Prop) (f : Str) : TS := fun D σ H => ta σ H fun x H1 => ∃ a C dx fs v, x = .ref a ∧ H1 a = some (.ins C dx fs) ∧ Cls K C ∧ NoAttr K C f ∧ fs.lookup f = some v ∧
  tv σ H1 fun y H2 => rd v y H2 fun z H3 => ∃ dx' fs', H3 a = some (.ins C dx' fs') ∧ fs'.length < 1000 ∧ D.nx σ (upd H3 a (.ins C dx' (putF f z fs')))

section
variable {X : Cx} {o e value : Expr} {f : Str} {pos pos' tpos : Pos} {ta tv : TE}
theorem pe_fld (he : PE X e ta) (hb : attributeBase e f X.env (eval e X.env) = eval e X.env) : PE X (.Attribute e f pos) (tFld X.K ta f) := by
  intro pins s σ H Q I h
  refine attr_of hb (thn (he pins s σ H _ I h) fun u s1 ⟨x, H1, I1, rx, a, C, dx, fs, v, ex, ea, c, n, l, q⟩ => ?_)
  subst ex
  obtain rfl : u = Value.ref a := rx
  exact getattr_ok I1 ea c n l fun u' s2 I2 ru => ⟨v, H1, I2, ru, q⟩
theorem ps_fld (ha : PE X o ta) (hv : PE X value tv) (hs : swapsWith value (some (.Attribute o f pos')) pos.line X.env = pure false) : PS X (.Assign [.Attribute o f pos'] value pos) (sFld X.K ta tv f) := by
  intro pins s σ H D I h
  refine plainObj_wpAny_Assign_Attribute (thn (hv pins s σ H _ I h) fun u s1 ⟨y, H1, I1, ry, q⟩ => thn (ha pins s1 σ H1 _ I1 q) fun ov s2 ⟨x, H2, I2, rx, a, C, dx, fs, ex, ea, c, n, l, q2⟩ => ?_) hs
  subst ex
  obtain rfl : ov = Value.ref a := rx
  exact setattr_ok I2 ea c n l ry fun s3 I3 => ⟨σ, _, I3, q2⟩
theorem ps_fldaug {op : Operator} {rd : V → V → Hp → VK → Prop} (ha : PE X o ta) (hv : PE X value tv) (hop : InOp X op rd) : PS X (.AugAssign (.Attribute o f tpos) op value pos) (sFldAug X.K ta tv rd f) := by
  intro pins s σ H D I h
  refine wpAny_AugAssign_AttributeAny (thn (ha pins s σ H _ I h) fun ov s1 ⟨x, H1, I1, rx, a, C, dx, fs, v, ex, ea, c, n, l, q⟩ => ?_)
  subst ex
  obtain rfl : ov = Value.ref a := rx
  refine getattr_ok I1 ea c n l fun u s2 I2 ru => thn (hv pins s2 σ H1 _ I2 q) fun w3 s3 ⟨y, H2, I3, ry, q3⟩ => thn (hop pins s3 σ H2 v y u w3 _ I3 ru ry q3) fun w4 s4 ⟨z, H3, I4, rz, dx', fs', ea', l', q4⟩ => ?_
  exact setattr_ok I4 ea' c n l' rz fun s5 I5 => ⟨σ, _, I5, q4⟩
def rAdd : V → V → Hp → VK → Prop := fun x y H Q => ∃ i j, x = .int i ∧ y = .int j ∧ Q (.int (i + j)) H
theorem in_add : InOp X .Add rAdd := by
  rintro pins s σ H x y u v Q I rx ry ⟨i, j, rfl, rfl, q⟩
  obtain ⟨t, rfl⟩ := (show ∃ t, u = Value.int i t from rx)
  obtain ⟨t', rfl⟩ := (show ∃ t', v = Value.int j t' from ry)
  exact PyProof.Rows.iadd_int ⟨.int (i + j), H, I.tok _, ⟨_, rfl⟩, q⟩
end

/-! ### isinstance -/
section
variable {X : Cx} {pins : List (Addr × Obj)} {σ : St} {H : Hp} {s : Shared} {A : Around} {E : Value → Shared → Prop} {Q : Value → Shared → Prop} {c : Value} {b : Bool}
end
end L2

namespace L2
open PySem PySem.Spec PyProof.Rows

/-! ### room -/
structure Room (k : Nat) (A : Around) : Prop where
  hd : A.handled = none
  dp : A.depth + 3 * k + 5 < recursionLimit
  un : A.units + 16 * k + 200 < cLine
theorem Room.mono {j k : Nat} {A : Around} (r : Room k A) (h : j ≤ k) : Room j A := ⟨r.hd, by have := r.dp; omega, by have := r.un; omega⟩
theorem Room.deeper {k : Nat} {A : Around} (r : Room (k + 1) A) (env : Env) : Room k (A.deeper env) :=
  ⟨r.hd, by have := r.dp; show A.depth + 1 + 3 * k + 5 < _; omega, by have := r.un; show A.units + 3 + 16 * k + 200 < _; omega⟩
theorem make_depth {A : Around} {C : Addr} {us : List Value} {kw : List (Str × Value)} : (A.under (.builtin "type.__call__" ⟨.ref C :: us, kw⟩)).depth = A.depth + 1 := by
  first | rfl | simp [Around.under, Code.weight, Code.isCreation, Code.isGuard, Code.isCaller, Code.frames, Code.isFrame, guardIds]
theorem make_units {A : Around} {C : Addr} {us : List Value} {kw : List (Str × Value)} : (A.under (.builtin "type.__call__" ⟨.ref C :: us, kw⟩)).units = A.units + 1 := by
  first | rfl | simp [Around.under, Code.cUnits, Code.frames, Code.isFrame]
theorem Room.make {k : Nat} {A : Around} (r : Room (k + 1) A) (C : Addr) (us : List Value) (kw : List (Str × Value)) : Room k (A.under (.builtin "type.__call__" ⟨.ref C :: us, kw⟩)) :=
  ⟨r.hd, by have := r.dp; rw [make_depth]; omega, by have := r.un; rw [make_units]; omega⟩
theorem Room.depth {k : Nat} {A : Around} (r : Room k A) : A.depth < recursionLimit := by have := r.dp; omega
theorem Room.units {k : Nat} {A : Around} (r : Room k A) : A.units + 64 < cLine := by have := r.un; omega
/-! ### argument lists and displays -/
def tNil : TA := fun _ H Q => Q [] H
def tCons (ta : TE) (tr : TA) : TA := fun σ H Q => ta σ H fun x H1 => tr σ H1 fun xs H2 => Q (x :: xs) H2
section
variable {X : Cx} {e : Expr} {es : List Expr} {te : TE} {t : TA} {pos : Pos}
theorem pa_nil : PA X [] tNil := fun _ _ _ _ H Q I h => Calls.spliced_nil ⟨[], H, I, .nil, h⟩
theorem pa_cons (ha : PE X e te) (hr : PA X es t) (hs : starEach (e :: es) X.env = (false, eval e X.env) :: starEach es X.env := by rfl) : PA X (e :: es) (tCons te t) := by
  intro pos pins s σ H Q I h
  rw [hs]
  show wpAny _ _ (spliced ((false, eval e X.env) :: backTo pos (starEach es X.env))) _ _ s
  refine Calls.spliced_cons (thn (ha pins s σ H _ I h) fun u s1 ⟨x, H1, I1, r1, q1⟩ => ?_)
  exact thn (hr pos pins s1 σ H1 _ I1 q1) fun us s2 ⟨xs, H2, I2, r2, q2⟩ => ⟨x :: xs, H2, I2, .cons r1 r2, q2⟩

/-- a tuple, a list of written items -/
def tTup (t : TA) : TE := fun σ H Q => t σ H fun xs H1 => xs.length ≤ sizeLine ∧ ∀ p, H1 p = none → Q (.ref p) (upd H1 p (.tup xs))
def tLst (t : TA) : TE := fun σ H Q => t σ H fun xs H1 => xs.length ≤ sizeLine ∧ ∀ p, H1 p = none → Q (.ref p) (upd H1 p (.lst xs))
theorem pe_tup {x1} (h : PA X es t) : PE X (.Tuple es x1 pos) (tTup t) := by
  intro pins s σ H Q I hq
  refine wpAny_Tuple_spliced (thn (h pos pins s σ H _ I hq) fun us s1 ⟨xs, H1, I1, r, z, q⟩ => ⟨by rw [← r.length]; exact z, ?_⟩)
  have hf : H1 s1.heap.objs.size = none := I1.hok.fresh (Nat.le_refl _)
  refine ⟨.ref s1.heap.objs.size, upd H1 s1.heap.objs.size (.tup xs), I1.laid (t' := s1.toks) (fun b u e => Heap.get?_push_of_some _ e) (Nat.le_refl _) ?_, rfl, q _ hf⟩
  exact ⟨z, us, r, ⟨_, Heap.get?_push_size _ rfl, rfl, _, rfl⟩⟩
theorem pe_lst (h : PA X es t) : PE X (.List es pos) (tLst t) := by
  intro pins s σ H Q I hq
  refine wpAny_List_spliced (thn (h pos pins s σ H _ I hq) fun us s1 ⟨xs, H1, I1, r, z, q⟩ => ⟨by rw [← r.length]; exact z, ?_⟩)
  have hf : H1 s1.heap.objs.size = none := I1.hok.fresh (Nat.le_refl _)
  refine ⟨.ref s1.heap.objs.size, upd H1 s1.heap.objs.size (.lst xs), I1.laid (t' := s1.toks) (fun b u e => Heap.get?_push_of_some _ e) (Nat.le_refl _) ?_, rfl, q _ hf⟩
  exact ⟨z, us, 0, r, Heap.get?_push_size _ rfl⟩
end

/-! ### what a def promises -/
/-- a def's promise: the bound arguments in the parameters' order, the heap, the wanted end, the wanted exception -/
abbrev Sp := List V → Hp → VK → XK → Prop
/-- how an exception lies behind a call (file 08 gives it): the callers' frames, abstract heap and state ahead of the call, the wish, the exception, the state -/
abbrev CXT := List Env → Hp → Shared → XK → Value → Shared → Prop

/-- the state at a call -/
structure Env0 (P : Program) (w : World) (K : PySem.W.Frag) (mg : Str → Option Value) (base : Heap) (A : Around) (outer : List Env) (s : Shared) (H : Hp) : Prop where
  frames : A.frames = some outer
  mod : Mod K mg base
  bs : ∀ b o, base.get? b = some o → s.heap.get? b = some o ∧ H b = none
  bsz : base.objs.size ≤ s.heap.objs.size
  funs : s.heap.FunFrames base outer
  frf : ∀ b ∈ frs outer, H b = none
  hok : HOk P w H s.heap
  bare : AllBare s.gens
/-- a call's end -/
def CE (outer : List Env) (P : Program) (w : World) (H : Hp) (s : Shared) (Q : VK) (u : Value) (s' : Shared) : Prop :=
  ∃ v H', s'.os = s.os ∧ AllBare s'.gens ∧ Un (frs outer) [] H H' s.heap s'.heap ∧ HOk P w H' s'.heap ∧ RelV v u ∧ Q v H'
def CR (CX : CXT) (outer : List Env) (P : Program) (w : World) (H : Hp) (s : Shared) (Q : VK) (E : XK) (r : Result) (s' : Shared) : Prop :=
  match r with
  | .ok (.ret u) => CE outer P w H s Q u s'
  | .ok _ => False
  | .error e => CX outer H s E e s'
structure FnOk (P : Program) (w : World) (K : PySem.W.Frag) (mg : Str → Option Value) (base : Heap) (CX : CXT) (k : Nat) (f : Addr) (fd : FuncData) (ps : List Str) (sp : Sp) : Prop where
  len : ∀ vs H Q E, sp vs H Q E → vs.length = ps.length
  run : ∀ (A : Around) (outer : List Env) (s : Shared) (H : Hp) (args : Args) (us : List Value) (vs : List V) (Q : VK) (E : XK), Room k A → Env0 P w K mg base A outer s H → BindsTo s fd args (ps.zip us) → Vals vs us → sp vs H Q E →
    codeAny (model P w) A (.call (.ref f) args) (CR CX outer P w H s Q E) s
theorem Env0.make {P : Program} {w : World} {K : PySem.W.Frag} {mg : Str → Option Value} {base : Heap} {A : Around} {outer : List Env} {s : Shared} {H : Hp} (e : Env0 P w K mg base A outer s H) (C : Addr) (us : List Value) (kw : List (Str × Value)) :
    Env0 P w K mg base (A.under (.builtin "type.__call__" ⟨.ref C :: us, kw⟩)) outer s H := ⟨by first | exact e.frames | (simpa [Around.under, Code.envs, Code.isFrame, pushEnvs] using e.frames), e.mod, e.bs, e.bsz, e.funs, e.frf, e.hok, e.bare⟩
section
variable {X : Cx} {pins : List (Addr × Obj)} {σ : St} {H : Hp} {s s' : Shared}
/-- from a body: what a callee wants -/
theorem Inv.env0 (I : Inv X pins σ H s) : Env0 X.prog X.w X.K X.mg X.base X.A X.stack s H :=
  ⟨I.ok.frames, I.ok.mod, I.bs, Nat.le_trans I.ok.bsz I.sz, I.stack, I.stkFree, I.hok, I.bare⟩
/-- behind a call -/
theorem Inv.after {Q : VK} {u : Value} (I : Inv X pins σ H s) (h : CE X.stack X.prog X.w H s Q u s') : EP X pins σ Q u s' := by
  obtain ⟨v, H', os, bare, un, hok, r, q⟩ := h
  obtain ⟨hh, g, d, t, os'⟩ := s'
  obtain rfl : os' = s.os := os
  exact ⟨v, H', I.call (h' := hh) (g' := g) (d' := d) (t' := t) (ch := []) un hok bare (fun b z => absurd z (by simp)), r, q⟩
end

/-! ### calls -/
/-- f(..): the written arguments, then the defaults dvs; E: what is wanted of an exception -/
def tCall (sp : Sp) (dvs : List V) (E : XK) (t : TA) : TE := fun σ H Q => t σ H fun vs H1 => sp (vs ++ dvs) H1 Q E
/-- o.m(..) of an instance of the class at C -/
def tMeth (C : Addr) (m : Str) (sp : Sp) (dvs : List V) (E : XK) (ta : TE) (t : TA) : TE := fun σ H Q => ta σ H fun x H1 => ∃ a dx fs, x = .ref a ∧ H1 a = some (.ins C dx fs) ∧ fs.lookup m = none ∧
  t σ H1 fun vs H2 => sp (x :: (vs ++ dvs)) H2 Q E
/-- C(..): a new instance and its dict, then __init__ -/
def tMake (C : Addr) (sp : Sp) (dvs : List V) (E : XK) (t : TA) : TE := fun σ H Q => t σ H fun vs H1 => ∀ x dx, H1 x = none → H1 dx = none → dx ≠ x →
  sp (.ref x :: (vs ++ dvs)) (upd (upd H1 dx (.own x)) x (.ins C dx [])) (fun v H2 => v = .non ∧ Q (.ref x) H2) E

/-- how the parameters are bound: us the positional arguments, kw the keywords' values by name, ds the defaults that fill up -/
def Binds (K : PySem.W.Frag) (fd : FuncData) (ps : List Str) (ds : List Value) : Prop :=
  ∀ (s : Shared) (us : List Value), K.In s.heap → (us ++ ds).length = ps.length → BindsTo s fd ⟨us, []⟩ (ps.zip (us ++ ds))
/-- every parameter is given -/
theorem Binds.all {K : PySem.W.Frag} {fd : FuncData} {ps : List Str} (h : ∀ us : List Value, us.length = ps.length → bindArgs fd ⟨us, []⟩ = pure (ps.zip us)) : Binds K fd ps [] := fun s us _ hl => by
  rw [List.append_nil] at hl ⊢
  exact .of_eq (h us hl)

/-- an exception of a callee reaches what this body wants of exceptions -/
def Passes (CX : CXT) (X : Cx) (E : XK) : Prop := ∀ (pins : List (Addr × Obj)) (σ : St) (H : Hp) (s : Shared) (e : Value) (s' : Shared), Inv X pins σ H s → CX X.stack H s E e s' → X.xe e s'

section
variable {X : Cx} {CX : CXT} {k : Nat} {f C : Addr} {fd : FuncData} {ps : List Str} {sp : Sp} {dvs : List V} {ds : List Value} {E : XK} {x m : Str} {p pos apos : Pos} {e o : Expr} {es : List Expr} {ta : TE} {t : TA}

/-- the callee runs -/
theorem run_fn {pins : List (Addr × Obj)} {σ : St} {H : Hp} {s : Shared} {Q : VK} {us : List Value} {vs : List V} (F : FnOk X.prog X.w X.K X.mg X.base CX k f fd ps sp) (hr : Room k X.A) (hb : Binds X.K fd ps ds) (hd : Vals dvs ds) (hx : Passes CX X E)
    (I : Inv X pins σ H s) (r : Vals vs us) (h : sp (vs ++ dvs) H Q E) : wpAny (model X.prog X.w) X.A (call (.ref f) us) (EP X pins σ Q) X.xe s := by
  have r2 : Vals (vs ++ dvs) (us ++ ds) := r.append hd
  have hl : (us ++ ds).length = ps.length := by rw [← r2.length]; exact F.len _ _ _ _ h
  refine wpAny_call (codeAny_mono (F.run X.A X.stack s H ⟨us, []⟩ (us ++ ds) (vs ++ dvs) Q E hr I.env0 (hb s us I.kIn hl) r2 h) fun r s' hq => ?_)
  cases r with
  | error e => exact hx pins σ H s e s' I hq
  | ok fl =>
    cases fl with
    | ret u => exact I.after hq
    | next => exact False.elim hq
    | brk => exact False.elim hq
    | cont => exact False.elim hq

theorem pe_call (F : FnOk X.prog X.w X.K X.mg X.base CX k f fd ps sp) (hr : Room k X.A) (hg : Gl X x) (hm : X.mg x = some (.ref f)) (hk : PySem.W.keepIn X.K (.ref f) = true) (hb : Binds X.K fd ps ds) (hd : Vals dvs ds) (hx : Passes CX X E)
    (ha : PA X (e :: es) t) (hdb : (x == ("__debug__" : Str)) = false := by decide) (he : starEach (e :: es) X.env = (false, eval e X.env) :: starEach es X.env := by rfl) (hpl : (backTo pos (starEach es X.env)).any (·.1) = false := by rfl) :
    PE X (.Call (.Name x p) (e :: es) [] pos) (tCall sp dvs E t) := by
  intro pins s σ H Q I h
  refine wpAny_Call_Name_kw (ld_glob I hg hm ?_ hdb)
  refine PySem.W.callWith_K (h₀ := X.base) I.ok.mod.kin hk (thn (ha pos pins s σ H _ I h) fun us s1 ⟨vs, H1, I1, r, q⟩ => ⟨I1.kIn, ?_⟩) he hpl
  exact run_fn F hr hb hd hx I1 r q
/-- o.m(e, ..) -/
theorem pe_meth {pl : Sem Bool} (he : PE X o ta) (c : Cls X.K C) (hm : Meth X.K C m f) (F : FnOk X.prog X.w X.K X.mg X.base CX k f fd ps sp) (hr : Room k X.A) (hb : Binds X.K fd ps ds) (hd : Vals dvs ds) (hx : Passes CX X E) (ha : PA X (e :: es) t)
    (hst : starEach (e :: es) X.env = (false, eval e X.env) :: starEach es X.env := by rfl) (hpl : (backTo pos (starEach es X.env)).any (·.1) = false := by rfl)
    (ht : eval (.Call (.Attribute o m apos) (e :: es) [] pos) X.env = (do
      let ov ← eval o X.env
      standAt apos.atName
      let (f, first) ← holding [ov] (getMethod ov m pl)
      callWith pos f first (backTo pos (starEach (e :: es) X.env)) (backToKw pos (keywordEach [] X.env))) := by rfl) :
    PE X (.Call (.Attribute o m apos) (e :: es) [] pos) (tMeth C m sp dvs E ta t) := by
  intro pins s σ H Q I h
  refine PySem.W.methodCall_KW (pl := pl) (thn (he pins s σ H _ I h) fun u s1 ⟨x, H1, I1, rx, a, dx, fs, ex, ea, l, q⟩ => ?_) ht
  subst ex
  obtain rfl : u = Value.ref a := rx
  refine getmeth_ok I1 ea c hm l ?_
  refine PySem.W.callWith_K (first := [.ref a]) (h₀ := X.base) I.ok.mod.kin hm.kp (thn (ha pos pins s1 σ H1 _ I1 q) fun us s2 ⟨vs, H2, I2, r, q2⟩ => ⟨I2.kIn, ?_⟩) hst hpl
  exact run_fn (us := .ref a :: us) (vs := .ref a :: vs) F hr hb hd hx I2 (.cons rfl r) q2
/-- o.m() -/
theorem pe_meth0 {pl : Sem Bool} (he : PE X o ta) (c : Cls X.K C) (hm : Meth X.K C m f) (F : FnOk X.prog X.w X.K X.mg X.base CX k f fd ps sp) (hr : Room k X.A) (hb : Binds X.K fd ps ds) (hd : Vals dvs ds) (hx : Passes CX X E)
    (ht : eval (.Call (.Attribute o m apos) [] [] pos) X.env = (do
      let ov ← eval o X.env
      standAt apos.atName
      let (f, first) ← holding [ov] (getMethod ov m pl)
      callWith pos f first (backTo pos (starEach [] X.env)) (backToKw pos (keywordEach [] X.env))) := by rfl) :
    PE X (.Call (.Attribute o m apos) [] [] pos) (tMeth C m sp dvs E ta tNil) := by
  intro pins s σ H Q I h
  refine PySem.W.methodCall_KW (pl := pl) (thn (he pins s σ H _ I h) fun u s1 ⟨x, H1, I1, rx, a, dx, fs, ex, ea, l, q⟩ => ?_) ht
  subst ex
  obtain rfl : u = Value.ref a := rx
  refine getmeth_ok I1 ea c hm l ?_
  exact PySem.W.callWith_K0 (first := [.ref a]) I1.kIn hm.kp (run_fn (us := [.ref a]) (vs := [.ref a]) F hr hb hd hx I1 (.cons rfl .nil) q)

/-- what a class must have to be made -/
structure Mk (K : PySem.W.Frag) (C f : Addr) : Prop where
  makes : PySem.W.makesIn K C = true
  init : PySem.W.findIn K (.ref C) "__init__" = some (some (.ref f))
  fn : PySem.W.isFn K (.ref f) = true
  kp : PySem.W.keepIn K (.ref C) = true

theorem run_make {pins : List (Addr × Obj)} {σ : St} {H : Hp} {s : Shared} {Q : VK} {us : List Value} {vs : List V} (M : Mk X.K C f) (F : FnOk X.prog X.w X.K X.mg X.base CX k f fd ps sp) (hr : Room (k + 1) X.A) (hb : Binds X.K fd ps ds) (hd : Vals dvs ds)
    (hx : Passes CX X E) (I : Inv X pins σ H s) (r : Vals vs us)
    (h : ∀ x dx, H x = none → H dx = none → dx ≠ x → sp (.ref x :: (vs ++ dvs)) (upd (upd H dx (.own x)) x (.ins C dx [])) (fun v H2 => v = .non ∧ Q (.ref x) H2) E) :
    wpAny (model X.prog X.w) X.A (call (.ref C) us) (EP X pins σ Q) X.xe s := by
  have hq := h (s.heap.objs.size + 1) s.heap.objs.size (I.hok.fresh (Nat.le_succ _)) (I.hok.fresh (Nat.le_refl _)) (Nat.ne_of_lt (Nat.lt_succ_self _))
  have I2 := Inv.made (C := C) I
  have r2 : Vals (V.ref (s.heap.objs.size + 1) :: (vs ++ dvs)) (Value.ref (s.heap.objs.size + 1) :: (us ++ ds)) := .cons rfl (r.append hd)
  have hl : (Value.ref (s.heap.objs.size + 1) :: us ++ ds).length = ps.length := by
    have e := r2.length
    rw [F.len _ _ _ _ hq] at e
    exact e.symm
  refine wpAny_call (make_map (f := f) I.kIn M.makes M.init (beq_iff_eq.mp M.fn) (codeAny_mono (F.run _ X.stack _ _ ⟨Value.ref (s.heap.objs.size + 1) :: us, []⟩ (Value.ref (s.heap.objs.size + 1) :: (us ++ ds)) _ _ E (hr.make C us [])
    (I2.env0.make C us []) (hb _ (Value.ref (s.heap.objs.size + 1) :: us) I2.kIn hl) r2 hq) fun r s' hq' => ?_))
  cases r with
  | error e => exact hx pins σ _ _ e s' I2 hq'
  | ok fl =>
    cases fl with
    | ret u =>
      obtain ⟨v, H', I3, rv, ev, q3⟩ := I2.after hq'
      subst ev
      exact ⟨rv, ⟨V.ref (s.heap.objs.size + 1), H', I3, rfl, q3⟩⟩
    | next => exact False.elim hq'
    | brk => exact False.elim hq'
    | cont => exact False.elim hq'
theorem pe_make (M : Mk X.K C f) (F : FnOk X.prog X.w X.K X.mg X.base CX k f fd ps sp) (hr : Room (k + 1) X.A) (hg : Gl X x) (hm : X.mg x = some (.ref C)) (hb : Binds X.K fd ps ds) (hd : Vals dvs ds) (hx : Passes CX X E)
    (ha : PA X (e :: es) t) (hdb : (x == ("__debug__" : Str)) = false := by decide) (he : starEach (e :: es) X.env = (false, eval e X.env) :: starEach es X.env := by rfl) (hpl : (backTo pos (starEach es X.env)).any (·.1) = false := by rfl) :
    PE X (.Call (.Name x p) (e :: es) [] pos) (tMake C sp dvs E t) := by
  intro pins s σ H Q I h
  refine wpAny_Call_Name_kw (ld_glob I hg hm ?_ hdb)
  refine PySem.W.callWith_K (h₀ := X.base) I.ok.mod.kin M.kp (thn (ha pos pins s σ H _ I h) fun us s1 ⟨vs, H1, I1, r, q⟩ => ⟨I1.kIn, ?_⟩) he hpl
  exact run_make M F hr hb hd hx I1 r q
end

/-! ### keywords -/
section
variable {X : Cx} {CX : CXT} {k : Nat} {f C : Addr} {fd : FuncData} {ps ks : List Str} {sp : Sp} {E : XK} {x m : Str} {p pos apos kpos : Pos} {e o : Expr} {es : List Expr} {kws : List Keyword} {te ta : TE} {t tk : TA} {nm : Option Str}
variable {g : List Value → List Value → List Value} {gV : List V → List V → List V}
end

/-! ### a def's body keeps its promise -/
/-- names: the parameters first -/
structure FnScope (N P : List Str) (sc : Scope) : Prop where
  kind : sc.kind = .function
  co : sc.isCoroutine = false
  gen : sc.isGenerator = false
  nd : N.Nodup
  pre : N.take P.length = P
  par : ∀ x ∈ P, sc.names.lookup x = some .local ∨ sc.names.lookup x = some .cell
  nofree : ∀ y ∈ sc.names, y.2 ≠ .free

theorem bindL_out {kindOf : Str → Option NameKind} {x : Str} : ∀ {binds : List (Str × Value)} {m : Str → Option Value}, (∀ v, (x, v) ∉ binds) → bindL kindOf binds m x = m x
  | [], _, _ => rfl
  | (n, v) :: r, m, h => by
    unfold bindL
    rw [bindL_out fun w hw => h w (List.mem_cons_of_mem _ hw)]
    split
    · have : x ≠ n := by rintro rfl; exact h v List.mem_cons_self
      simp [this]
    · rfl
theorem bindC_out {kindOf : Str → Option NameKind} {x : Str} : ∀ {binds : List (Str × Value)} {m : Str → Option Value}, (∀ v, (x, v) ∉ binds) → bindC kindOf binds m x = m x
  | [], _, _ => rfl
  | (n, v) :: r, m, h => by
    unfold bindC
    rw [bindC_out fun w hw => h w (List.mem_cons_of_mem _ hw)]
    split
    · rfl
    · have : x ≠ n := by rintro rfl; exact h v List.mem_cons_self
      simp [this]
theorem bindL_get {kindOf : Str → Option NameKind} {x : Str} {v : Value} : ∀ {P : List Str} {vs : List Value} {i : Nat} {m : Str → Option Value}, P.Nodup → P[i]? = some x → vs[i]? = some v → kindOf x = some .local →
    bindL kindOf (P.zip vs) m x = some v
  | [], _, _, _, _, h, _, _ => by simp at h
  | _ :: _, [], _, _, _, _, h, _ => by simp at h
  | p :: P, w :: vs, 0, m, nd, h1, h2, hk => by
    simp at h1 h2; subst h1; subst h2
    show bindL kindOf ((p, w) :: P.zip vs) m p = _
    unfold bindL
    rw [bindL_out fun v hv => (List.nodup_cons.mp nd).1 (List.of_mem_zip hv).1, if_pos hk]
    simp
  | p :: P, w :: vs, i + 1, m, nd, h1, h2, hk => by
    show bindL kindOf ((p, w) :: P.zip vs) m x = _
    unfold bindL
    exact bindL_get (i := i) (List.nodup_cons.mp nd).2 (by simpa using h1) (by simpa using h2) hk
theorem bindC_get {kindOf : Str → Option NameKind} {x : Str} {v : Value} : ∀ {P : List Str} {vs : List Value} {i : Nat} {m : Str → Option Value}, P.Nodup → P[i]? = some x → vs[i]? = some v → kindOf x ≠ some .local →
    bindC kindOf (P.zip vs) m x = some v
  | [], _, _, _, _, h, _, _ => by simp at h
  | _ :: _, [], _, _, _, _, h, _ => by simp at h
  | p :: P, w :: vs, 0, m, nd, h1, h2, hk => by
    simp at h1 h2; subst h1; subst h2
    show bindC kindOf ((p, w) :: P.zip vs) m p = _
    unfold bindC
    rw [bindC_out fun v hv => (List.nodup_cons.mp nd).1 (List.of_mem_zip hv).1, if_neg hk]
    simp
  | p :: P, w :: vs, i + 1, m, nd, h1, h2, hk => by
    show bindC kindOf ((p, w) :: P.zip vs) m x = _
    unfold bindC
    exact bindC_get (i := i) (List.nodup_cons.mp nd).2 (by simpa using h1) (by simpa using h2) hk

/-- the names' values at the entry -/
def start (N : List Str) (vs : List V) : St := vs.map some ++ List.replicate (N.length - vs.length) none

/-- the context of a def's body, at its entry; an exception leaves the frame, then lies as CX says -/
def cxOf (CX : CXT) (P : Program) (w : World) (K : PySem.W.Frag) (mg : Str → Option Value) (base : Heap) (N : List Str) (qual : Str) (scope : Scope) (f : Addr) (cd : Value) (A : Around) (outer : List Env) (s : Shared) (H : Hp) (E : XK) : Cx where
  prog := P
  w := w
  K := K
  mg := mg
  base := base
  A := A.deeper (envOfC qual scope s.heap.objs.size f cd)
  N := N
  s₀ := s
  H₀ := H
  env := envOfC qual scope s.heap.objs.size f cd
  outer := outer
  stack := envOfC qual scope s.heap.objs.size f cd :: outer
  ex := []
  calm := true
  fn := fun _ => true
  pn := []
  xe := fun e s' => wpAny (model P w) (A.deeper (envOfC qual scope s.heap.objs.size f cd)) (leaving (envOfC qual scope s.heap.objs.size f cd) e) (fun _ s'' => CX outer H s E e s'') (fun e' s'' => CX outer H s E e' s'') s'

theorem cell_has {sc : Scope} {n : Nat} {x : Str} (h : sc.names.lookup x = some .cell) : ∃ c, (cellsFrom n sc.names []).lookup x = some c := by
  have q := PySem.W.cellsFrom_some sc.names n [] (.inl h)
  exact Option.isSome_iff_exists.mp q

theorem inv_start {CX : CXT} {P : Program} {w : World} {K : PySem.W.Frag} {mg : Str → Option Value} {base : Heap} {N ps : List Str} {qual : Str} {scope : Scope} {f : Addr} {cd : Value} {A : Around} {outer : List Env} {s s1 : Shared} {H : Hp} {E : XK} {us : List Value} {vs : List V}
    (S : FnScope N ps scope) (hd : A.handled = none) (e0 : Env0 P w K mg base A outer s H) (hl : vs.length = ps.length) (r : Vals vs us)
    (x : InCallC s s.heap.objs.size (bindL (envOfC qual scope s.heap.objs.size f cd).kindOf (ps.zip us) fun _ => none) (cellsFrom (s.heap.objs.size + 1) scope.names []) (bindC (envOfC qual scope s.heap.objs.size f cd).kindOf (ps.zip us) fun _ => none) s1) :
    Inv (cxOf CX P w K mg base N qual scope f cd A outer s H E) [] (start N vs) H s1 := by
  have hpl : ps.length ≤ N.length := by have := congrArg List.length S.pre; rw [List.length_take] at this; omega
  obtain ⟨h1, tk, rfl, hk⟩ := x.done
  have noA : ∀ b : Addr, b ∉ (cxOf CX P w K mg base N qual scope f cd A outer s H E).ex := fun b z => absurd (show b ∈ ([] : List Addr) from z) (by simp)
  refine ⟨⟨e0.mod, S.kind, rfl, rfl, Nat.le_refl _, fun y z c h1 h2 => ?_, fun y hy => ?_, fun y c _ h => ?_, fun _ => hd, Around.frames_deeper e0.frames, .inr ⟨rfl, rfl⟩, fun b z => absurd z (noA b), e0.bs, e0.bsz, fun b _ _ => noA b, fun b z => absurd z (noA b), e0.funs, e0.frf⟩,
    rfl, e0.bare, Un.kept hk, ⟨_, x.toInCall.ns, fun i y v h1 h2 h3 => ?_⟩, fun y c h => ⟨_, x.cell y c h⟩, e0.hok.fresh (Nat.le_refl _), fun y c h => ?_, fun p hp => absurd (show p ∈ ([] : List (Addr × Obj)) from hp) (by simp), e0.hok.kept hk, ?_⟩
  · exact name_of_addr x.apart (PySem.mem_of_lookup h1) (PySem.mem_of_lookup h2)
  · have hy : scope.names.lookup y = some .cell ∨ scope.names.lookup y = some .free := hy
    rcases hy with hy | hy
    · exact cell_has hy
    · exact absurd rfl (S.nofree _ (PySem.mem_of_lookup hy))
  · exact Nat.le_of_lt (x.above y c (PySem.mem_of_lookup h))
  · have hi : i < vs.length := by
      unfold start at h2
      by_cases hi : i < vs.length
      · exact hi
      · rw [List.getElem?_append_right (by simpa using hi)] at h2
        rw [List.getElem?_replicate] at h2
        split at h2 <;> cases h2
    have ha : vs[i]? = some v := by
      unfold start at h2
      rw [List.getElem?_append_left (by simpa using hi), List.getElem?_map] at h2
      cases e : vs[i]? with
      | none => rw [e] at h2; cases h2
      | some a => rw [e] at h2; cases h2; rfl
    obtain ⟨u, hu, rv⟩ := r.get ha
    have hp : ps[i]? = some y := by
      rw [← S.pre, List.getElem?_take_of_lt (by omega)]; exact h1
    have ndP : ps.Nodup := by rw [← S.pre]; exact S.nd.sublist (List.take_sublist _ _)
    refine ⟨u, rv, ?_⟩
    rcases S.par y (List.mem_of_getElem? hp) with k | k
    · exact .inl ⟨k, bindL_get ndP hp hu k⟩
    · obtain ⟨c, e⟩ := cell_has (n := s.heap.objs.size + 1) k
      refine .inr ⟨.inl k, c, e, ?_⟩
      have q := x.cell y c e
      rw [bindC_get ndP hp hu (by show scope.names.lookup y ≠ _; rw [k]; decide)] at q
      exact q
  · exact e0.hok.fresh (Nat.le_of_lt (x.above y c (PySem.mem_of_lookup h)))
  · unfold start
    show _ = N.length
    rw [List.length_append, List.length_map, List.length_replicate]
    omega

/-- THE RULE: a def (or a method) of the text, by its body. The body's reading t is chosen for each entry; it is run at the parameters' values -/
theorem fn_of {CX : CXT} {P : Program} {w : World} {K : PySem.W.Frag} {mg : Str → Option Value} {base : Heap} {k : Nat} {f : Addr} {name qual : Str} {params : Arguments} {body : List Stmt} {scope : Scope} {dV kV doc pm cdv ct oc : Value} {an od : Option Addr}
    {osl : Array (Option Value)} {N ps : List Str} {sp : Sp} (lk : K.lookup f = some ⟨oc, od, .func (PySem.W.fnOf name qual params body scope dV kV doc pm an cdv ct), osl⟩) (hcd : PySem.W.codeIn K cdv qual = true) (S : FnScope N ps scope)
    (len : ∀ vs H Q E, sp vs H Q E → vs.length = ps.length)
    (hbody : ∀ (A : Around) (outer : List Env) (s : Shared) (H : Hp) (vs : List V) (Q : VK) (E : XK), Room k (A.deeper (envOfC qual scope s.heap.objs.size f cdv)) → sp vs H Q E →
      ∃ t, PSs (cxOf CX P w K mg base N qual scope f cdv A outer s H E) body t ∧ t { nx := fun _ H' => Q .non H', rt := Q } (start N vs) H) :
    FnOk P w K mg base CX (k + 1) f (PySem.W.fnOf name qual params body scope dV kV doc pm an cdv ct) ps sp := by
  refine ⟨len, fun A outer s H args us vs Q E hr e0 hb r hsp => ?_⟩
  have hl := len _ _ _ _ hsp
  have KX : K.In s.heap := e0.mod.kin.keeps fun b o e => (e0.bs b o e).1
  have lim : s.heap.NoLimit := e0.mod.nolimit.keeps fun b o e => (e0.bs b o e).1
  have hkind : ∀ y ∈ ps.zip us, scope.names.lookup y.1 = some .local ∨ (scope.names.lookup y.1 = some .cell ∧ ((cellsFrom (s.heap.objs.size + 1) scope.names []).lookup y.1).isSome = true) := fun ⟨n, v⟩ hy => by
    rcases S.par n (List.of_mem_zip hy).1 with q | q
    · exact .inl q
    · exact .inr ⟨q, PySem.W.cellsFrom_some _ _ _ (.inl q)⟩
  refine codeAny_call_function hr.depth (KX _ _ lk) rfl S.co S.gen rfl (PySem.W.codeRec_of KX hcd) (hb _ _ _ _ ?_)
  refine wpAny_newFunctionEnv_cells S.kind hkind fun env he s1 x => ?_
  subst he
  refine ⟨lim.keeps x.toInCall.keep, codeAny_func ?_⟩
  obtain ⟨t, ht, hq⟩ := hbody A outer s H vs Q E (hr.deeper _) hsp
  have I : Inv (cxOf CX P w K mg base N qual scope f cdv A outer s H E) [] (start N vs) H s1 := inv_start S hr.hd e0 hl r x
  refine wpAny_mono (ht [] s1 (start N vs) H _ I hq) (fun fl s' hs => ?_) fun e s' hs => hs
  have fin : ∀ {σ' : St} {H' : Hp} {v : V} {u : Value}, Inv (cxOf CX P w K mg base N qual scope f cdv A outer s H E) [] σ' H' s' → RelV v u → Q v H' → CE outer P w H s Q u s' :=
    fun {σ' H' v u} J rv q => ⟨v, H', J.os, J.bare, J.base, J.hok, rv, q⟩
  cases fl with
  | ret u =>
    obtain ⟨v, σ', H', J, rv, q⟩ := hs
    exact fin J rv q
  | next =>
    obtain ⟨σ', H', J, q⟩ := hs
    exact fin (v := V.non) (u := Value.none) J rfl q
  | brk =>
    obtain ⟨_, _, _, q⟩ := hs
    exact False.elim q
  | cont =>
    obtain ⟨_, _, _, q⟩ := hs
    exact False.elim q
end L2

namespace L2
open PySem PySem.Spec PyProof.Rows
section
variable {X : Cx} {x : Str} {p pos : Pos} {e : Expr} {es : List Expr} {t : TA} {id T : String} {r : List V → Hp → VK → Prop}

def tCB (r : List V → Hp → VK → Prop) (t : TA) : TE := fun σ H Q => t σ H fun vs H1 => r vs H1 Q
/-- f(e, ..), f a built-in function -/
theorem pe_callB (hc : CallR X (.builtin id) r) (hg : Gl X x) (hm : X.mg x = none) (hv : bootBuiltins x = some (.builtin id)) (ha : PA X (e :: es) t) (hn : x ≠ "__name__" := by decide) (hdb : (x == ("__debug__" : Str)) = false := by decide)
    (he : starEach (e :: es) X.env = (false, eval e X.env) :: starEach es X.env := by rfl) (hpl : (backTo pos (starEach es X.env)).any (·.1) = false := by rfl) : PE X (.Call (.Name x p) (e :: es) [] pos) (tCB r t) := by
  intro pins s σ H Q I h
  refine wpAny_Call_Name_kw (ld_blt I hg hm hv ?_ hn hdb)
  exact PyProof.Rows.callWith_builtin1 (thn (ha pos pins s σ H _ I h) fun us s1 ⟨vs, H1, I1, r1, q1⟩ => hc pins s1 σ H1 vs us Q I1 r1 q1) he hpl
/-- T(e, ..), T a built-in type -/
theorem pe_callTy (hc : CallR X (.type T) r) (hg : Gl X x) (hm : X.mg x = none) (hv : bootBuiltins x = some (.type T)) (ha : PA X (e :: es) t) (hn : x ≠ "__name__" := by decide) (hdb : (x == ("__debug__" : Str)) = false := by decide)
    (he : starEach (e :: es) X.env = (false, eval e X.env) :: starEach es X.env := by rfl) (hpl : (backTo pos (starEach es X.env)).any (·.1) = false := by rfl) : PE X (.Call (.Name x p) (e :: es) [] pos) (tCB r t) := by
  intro pins s σ H Q I h
  refine wpAny_Call_Name_kw (ld_blt I hg hm hv ?_ hn hdb)
  exact PyProof.Rows.callWith_type1 (thn (ha pos pins s σ H _ I h) fun us s1 ⟨vs, H1, I1, r1, q1⟩ => hc pins s1 σ H1 vs us Q I1 r1 q1) he hpl
end
end L2

namespace HT
open PySem PyProof.Rows

section
open PySem.SeqAt
open PySem.AutoSeq1 (wpAny_loadPart')
open PySem.MeetsSeq PySem.MeetsSeq2 PySem.MeetsSeq3

end

section
variable {prog : Program} {w : World} {A : Around} {E : Value → Shared → Prop} {s : Shared}

/-- t + u, t not empty -/
theorem cat_tup {t b : Addr} {vs ws : List Value} {Q : Value → Shared → Prop} (ht : IsTup s.heap t vs.toArray) (hb : IsTup s.heap b ws.toArray) (hv : vs ≠ [])
    (h1 : ws = [] → Q (.ref t) s) (h2 : ws ≠ [] → Q (.ref s.heap.objs.size) { s with heap := s.heap.push { cls := .type "tuple", data := .seq (vs ++ ws).toArray } })
    (hsz : vs.length + ws.length ≤ sizeLine) : wpAny (model prog w) A (binaryOp .Add (.ref t) (.ref b)) Q E s := by
  obtain ⟨⟨cls, dd, data, sl⟩, ho, hc, n, hd⟩ := id ht
  obtain ⟨⟨cls2, dd2, data2, sl2⟩, ho2, hc2, n2, hd2⟩ := id hb
  simp only at hc hd hc2 hd2
  subst hc hd hc2 hd2
  have e : vs.toArray ++ ws.toArray = (vs ++ ws).toArray := by simp
  by_cases hw : ws = []
  · exact concat_meets ⟨_, ho, rfl⟩ ⟨_, ho2, rfl⟩ noFill_tuple_add seq_tuple_add PySem.F.slot_tuple_add PySem.F.entry_tuple_add (PySem.F.args_tuple_add_2 _ _)
      (tuple_addW1 t b vs.toArray ws.toArray n n2 dd dd2 sl sl2 (by simpa using hv) (by simp [hw])) ⟨ho, ho2, h1 hw⟩
  · refine concat_meets ⟨_, ho, rfl⟩ ⟨_, ho2, rfl⟩ noFill_tuple_add seq_tuple_add PySem.F.slot_tuple_add PySem.F.entry_tuple_add (PySem.F.args_tuple_add_2 _ _)
      (tuple_addW2 t b vs.toArray ws.toArray n n2 dd dd2 sl sl2 (by simpa using hv) (by simpa using hw) (by rw [List.size_toArray, List.size_toArray]; exact hsz)) ⟨ho, ho2, ?_⟩
    rw [e]
    exact h2 hw

/-! ### t[a:b], not the whole -/
/-- a slice's bound as a place among n (d where it is left out) -/
def sIx (n d : Nat) : Option Int → Nat
  | none => d
  | some v => if v < 0 then (v + (n : Int)).toNat else min v.toNat n
theorem sIx_nat (n d k : Nat) : sIx n d (some (k : Int)) = min k n := by
  show (if (k : Int) < 0 then ((k : Int) + (n : Int)).toNat else min (k : Int).toNat n) = min k n
  rw [if_neg (by omega), Int.toNat_natCast]
theorem sIx_le (n d : Nat) (hd : d ≤ n) (o : Option Int) : sIx n d o ≤ n := by
  cases o with
  | none => exact hd
  | some v =>
    show (if v < 0 then (v + (n : Int)).toNat else min v.toNat n) ≤ n
    by_cases hv : v < 0
    · rw [if_pos hv]; omega
    · rw [if_neg hv]; exact Nat.min_le_right _ _
theorem clip_eq (v : Int) (n d : Nat) : (if v < 0 then max (v + (n : Int)) 0 else min v (n : Int)) = ((sIx n d (some v) : Nat) : Int) := by
  show (if v < 0 then max (v + (n : Int)) 0 else min v (n : Int)) = (((if v < 0 then (v + (n : Int)).toNat else min v.toNat n) : Nat) : Int)
  by_cases hv : v < 0
  · simp only [if_pos hv]; omega
  · simp only [if_neg hv]; omega
theorem adjust_gen (lo hi : Option Int) (n : Nat) : Builtin.Slice.sliceAdjust lo hi 1 (n : Int) = (((sIx n 0 lo : Nat) : Int), ((sIx n n hi : Nat) : Int)) := by
  have h1 : ¬ ((1 : Int) < 0) := by omega
  unfold Builtin.Slice.sliceAdjust
  simp only [h1, if_false]
  refine Prod.ext ?_ ?_
  · cases lo with
    | none => rfl
    | some v => exact clip_eq v n 0
  · cases hi with
    | none => rfl
    | some v => exact clip_eq v n n
theorem places_gen (i j : Nat) : Builtin.Slice.slicePlaces (i : Int) (j : Int) 1 = j - i := by
  unfold Builtin.Slice.slicePlaces
  have h1 : (1 : Int) > 0 := by omega
  simp only [h1, if_true, Int.ediv_one]
  split <;> omega
theorem slicePart_ {v : Value} {o : Option Int} {Q : Option Int → Shared → Prop} (p : IsPart v o) (h : Q o s) : wpAny (model prog w) A (Builtin.Slice.slicePartIndex v) Q E s := by
  cases p with
  | none => exact slicePart_none h
  | int i t => exact slicePart_int h
theorem sliceApplied_gen {sl : Addr} {vl vu : Value} {lo hi : Option Int} {n : Nat} {Q : Int × Int × Nat → Shared → Prop} (hs : s.heap.IsSliceOf sl vl vu .none) (pl : IsPart vl lo) (pu : IsPart vu hi)
    (h : Q (((sIx n 0 lo : Nat) : Int), 1, sIx n n hi - sIx n 0 lo) s) : wpAny (model prog w) A (Builtin.Slice.sliceApplied (.ref sl) (pure (n : Int))) Q E s := by
  obtain ⟨os, hos, hcs, hds⟩ := id hs
  unfold Builtin.Slice.sliceApplied Builtin.Slice.sliceFields
  refine wpAny_bind (wpAny_bind (wpAny_field hos hds (x := vl) rfl (wpAny_bind (wpAny_field hos hds (x := vu) rfl (wpAny_bind (wpAny_field hos hds (x := .none) rfl (wpAny_pure ?_)))))))
  refine wpAny_bind (slicePart_none ?_)
  show wpAny _ _ (if ((1 : Int) == 0) = true then _ else _) _ _ s
  rw [if_neg (by decide)]
  refine wpAny_bind (slicePart_ pl (wpAny_bind (slicePart_ pu (wpAny_bind (wpAny_pure ?_)))))
  show wpAny _ _ (match Builtin.Slice.sliceAdjust lo hi 1 (n : Int) with | (lo, hi) => pure (lo, (1 : Int), Builtin.Slice.slicePlaces lo hi 1)) _ _ s
  rw [adjust_gen lo hi n]
  show wpAny _ _ (pure (((sIx n 0 lo : Nat) : Int), (1 : Int), Builtin.Slice.slicePlaces ((sIx n 0 lo : Nat) : Int) ((sIx n n hi : Nat) : Int) 1)) _ _ s
  rw [places_gen]
  exact wpAny_pure h
theorem pick_gen (xs : Array Value) (i k : Nat) : ((List.range k).filterMap fun (m : Nat) => xs[((i : Int) + (m : Int) * 1).toNat]?).toArray = ((xs.toList.drop i).take k).toArray := by
  have e : (fun (m : Nat) => xs[((i : Int) + (m : Int) * 1).toNat]?) = fun m => xs[i + m]? := by
    funext m
    have : ((i : Int) + (m : Int) * 1).toNat = i + m := by omega
    rw [this]
  rw [e]
  have := pick_run xs i k
  rw [List.filterMap_map] at this
  have e2 : ((fun x => xs[x]?) ∘ fun x => i + x) = fun m => xs[i + m]? := rfl
  rw [e2] at this
  rw [this]

theorem getItem_tuple_cut {t sl : Addr} {items : Array Value} {vl vu : Value} {lo hi : Option Int} {Q : Value → Shared → Prop} (ht : IsTup s.heap t items) (hs : s.heap.IsSliceOf sl vl vu .none) (pl : IsPart vl lo) (pu : IsPart vu hi)
    (hw : ¬ (sIx items.size 0 lo = 0 ∧ sIx items.size items.size hi = items.size))
    (h : Q (.ref s.heap.objs.size) { s with heap := s.heap.push { cls := .type "tuple", data := .seq ((items.toList.drop (sIx items.size 0 lo)).take (sIx items.size items.size hi - sIx items.size 0 lo)).toArray } })
    (hsz : items.size ≤ sizeLine) : wpAny (model prog w) A (getItem (.ref t) (.ref sl)) Q E s := by
  have htake : sizeOk (.seq ((items.toList.drop (sIx items.size 0 lo)).take (sIx items.size items.size hi - sIx items.size 0 lo)).toArray) := by
    show ((items.toList.drop (sIx items.size 0 lo)).take (sIx items.size items.size hi - sIx items.size 0 lo)).toArray.size ≤ sizeLine
    rw [List.size_toArray, List.length_take, List.length_drop, Array.length_toList]
    omega
  have hj : sIx items.size items.size hi ≤ items.size := sIx_le _ _ (Nat.le_refl _) hi
  obtain ⟨os, hos, hcs, hds⟩ := id hs
  have hTs : s.TypeIs (.ref sl) "slice" := ⟨os, hos, hcs⟩
  unfold getItem
  try with_reducible refine wpAny_holding ?_
  first | refine wpAny_bind (wpAny_pure ?_) | skip
  refine wpAny_bind (wpAny_sequenceKey ht.typeIs (by decide) ?_)
  refine wpAny_bind (wpAny_callSpecial?_slot (name := Str.ofString "__getitem__") ht.typeIs PyProof.Rows.slot_tuple_getitem
    (wpAny_call_entry PyProof.Rows.slot_tuple_getitem ht.typeIs entry_tuple_getitem ?_ (args_tuple_getitem _ _)))
  show wpAny _ _ (Builtin.Tuple.tupleItemsOf (.ref t) >>= _) _ _ s
  refine wpAny_bind (tupleItemsOf_ ht ?_)
  refine wpAny_bind (wpAny_typeOf hTs ?_)
  rw [if_pos (by decide)]
  refine wpAny_bind (sliceApplied_gen hs pl pu ?_)
  have hno : ¬ ((((sIx items.size 0 lo : Nat) : Int) == 0 && (1 : Int) == 1 && (sIx items.size items.size hi - sIx items.size 0 lo) == items.size) = true) := by
    intro q
    rw [Bool.and_eq_true, Bool.and_eq_true] at q
    have q1 : ((sIx items.size 0 lo : Nat) : Int) = 0 := eq_of_beq q.1.1
    have q2 : sIx items.size items.size hi - sIx items.size 0 lo = items.size := eq_of_beq q.2
    exact hw ⟨by omega, by omega⟩
  show wpAny _ _ (if (((sIx items.size 0 lo : Nat) : Int) == 0 && (1 : Int) == 1 && (sIx items.size items.size hi - sIx items.size 0 lo) == items.size) = true then _ else _) _ _ s
  rw [if_neg hno, pick_gen]
  first
    | exact wpAny_bind (m := Builtin.Tuple.tupleExact _) (wpAny_newObj_type (wpAny_pure ⟨_, rfl, wpAny_pure h⟩) htake)
    | exact wpAny_bind (m := Builtin.Tuple.tupleExact _) (wpAny_newObj_type (wpAny_bind (wpAny_pure (wpAny_pure ⟨_, rfl, wpAny_pure h⟩))) htake)
    | exact wpAny_bind (wpAny_bind (m := Builtin.Tuple.tupleExact _) (wpAny_newObj_type (wpAny_pure (wpAny_pure ⟨_, rfl, wpAny_pure h⟩)) htake))
    | exact wpAny_bind (wpAny_bind (m := Builtin.Tuple.tupleExact _) (wpAny_newObj_type (wpAny_pure ⟨_, rfl, wpAny_pure h⟩) htake))
end
end HT

namespace L2
open PySem PySem.Spec PyProof.Rows

/-! ### the parts of a slice -/
abbrev TO := St → Hp → (Option Int → Hp → Prop) → Prop
/-- a slice's part (left out, or an int) -/
def PO (X : Cx) (e : Option Expr) (t : TO) : Prop :=
  ∀ (pins : List (Addr × Obj)) (s : Shared) (σ : St) (H : Hp) (Q : Option Int → Hp → Prop), Inv X pins σ H s → t σ H Q →
    wpAny (model X.prog X.w) X.A (evalPart e X.env) (fun u s' => ∃ o H', Inv X pins σ H' s' ∧ IsPart u o ∧ Q o H') X.xe s
def tNoPart : TO := fun _ H Q => Q none H
section
variable {X : Cx} {e : Expr} {te : TE} {lo hi : Option Expr} {tl th : TO} {pos p2 : Pos}

theorem po_none : PO X none tNoPart := by
  intro pins s σ H Q I h
  rw [evalPart_none]
  exact wpAny_pure ⟨none, H, I, .none, h⟩
/-- what a slice of a value is, by values: the slice object stands at sl -/
def SlR (X : Cx) (r : V → Option Int → Option Int → Hp → VK → Prop) : Prop :=
  ∀ (pins : List (Addr × Obj)) (s : Shared) (σ : St) (H : Hp) (x : V) (v vl vu : Value) (lo hi : Option Int) (sl : Addr) (Q : VK), Inv X pins σ H s → RelV x v → s.heap.IsSliceOf sl vl vu .none → IsPart vl lo → IsPart vu hi → r x lo hi H Q →
    ∃ T id, typeLookup (.type T) "__getitem__" = pure (some (.builtin id)) ∧ s.TypeIs v T ∧ wpAny (model X.prog X.w) X.A (getItem v (.ref sl)) (EP X pins σ Q) X.xe s
def tSl (r : V → Option Int → Option Int → Hp → VK → Prop) (te : TE) (tl th : TO) : TE := fun σ H Q => te σ H fun x H1 => tl σ H1 fun l H2 => th σ H2 fun u H3 => r x l u H3 Q
/-- a[lo:hi], any a -/
theorem pe_slice {r : V → Option Int → Option Int → Hp → VK → Prop} (hr : SlR X r) (he : PE X e te) (hl : PO X lo tl) (hu : PO X hi th) : PE X (.Subscript e (.Slice lo hi none p2) pos) (tSl r te tl th) := by
  intro pins s σ H Q I h
  refine Subscript_ (thn (he pins s σ H _ I h) fun v s1 ⟨x, H1, I1, r1, q1⟩ => ?_)
  refine wpAny_Slice (thn (hl pins s1 σ H1 _ I1 q1) fun vl s2 ⟨l, H2, I2, pl, q2⟩ => thn (hu pins s2 σ H2 _ I2 q2) fun vu s3 ⟨u, H3, I3, pu, q3⟩ => ?_)
  rw [evalPart_none]
  refine wpAny_pure ?_
  have I4 : Inv X pins σ H3 { s3 with heap := s3.heap.push { cls := .type "slice", data := .fields #[vl, vu, .none] } } := I3.kept (t' := s3.toks) fun b ob q => Heap.get?_push_of_some _ q
  obtain ⟨T, id, hT, ht, hg⟩ := hr pins { s3 with heap := s3.heap.push { cls := .type "slice", data := .fields #[vl, vu, .none] } } σ H3 x v vl vu l u s3.heap.objs.size Q I4 r1 (Heap.IsSliceOf.new ..) pl pu q3
  show wpAny (model X.prog X.w) X.A (subscriptTail e (.Slice lo hi none p2) v (.ref s3.heap.objs.size)) (EP X pins σ Q) X.xe { s3 with heap := s3.heap.push { cls := .type "slice", data := .fields #[vl, vu, .none] } }
  exact tail_any (ops := [.ref s3.heap.objs.size, v]) ht hT hg (by with_unfolding_all rfl)

/-- the items of xs[lo:hi] -/
def cutV (xs : List V) (lo hi : Option Int) : List V := (xs.drop (HT.sIx xs.length 0 lo)).take (HT.sIx xs.length xs.length hi - HT.sIx xs.length 0 lo)
theorem cutV_length (xs : List V) (lo hi : Option Int) : (cutV xs lo hi).length ≤ xs.length := by
  unfold cutV
  rw [List.length_take, List.length_drop]
  omega
/-- t[lo:hi], not the whole of it (the whole would be t itself) -/
def rSlT (K : PySem.W.Frag) : V → Option Int → Option Int → Hp → VK → Prop := fun x lo hi H Q => ∃ a xs, x = .ref a ∧ SqT K H a xs ∧
  ¬ (HT.sIx xs.length 0 lo = 0 ∧ HT.sIx xs.length xs.length hi = xs.length) ∧ ∀ p, H p = none → Q (.ref p) (upd H p (.tup (cutV xs lo hi)))
theorem sl_tup : SlR X (rSlT X.K) := by
  intro pins s σ H x v vl vu lo hi sl Q I rx hs pl pu h
  obtain ⟨a, xs, rfl, hx, hw, q⟩ := h
  cases rx
  obtain ⟨its, r, ht, hz⟩ := I.tuple hx
  have hlen : its.toArray.size = xs.length := by rw [List.size_toArray]; exact r.length.symm
  refine ⟨"tuple", _, PyProof.Rows.slot_tuple_getitem.lookup, ht.typeIs, ?_⟩
  refine HT.getItem_tuple_cut ht hs pl pu (by rw [hlen]; exact hw) ?_ (by rw [hlen]; exact hz)
  rw [hlen]
  refine ⟨.ref s.heap.objs.size, _, I.laid (t' := s.toks) (o := .tup (cutV xs lo hi)) (fun b ob q => Heap.get?_push_of_some _ q) (Nat.le_refl _) ?_, rfl, q _ (I.hok.fresh (Nat.le_refl _))⟩
  exact ⟨Nat.le_trans (cutV_length xs lo hi) hz, _, (r.drop (HT.sIx xs.length 0 lo)).take (HT.sIx xs.length xs.length hi - HT.sIx xs.length 0 lo), IsTup.new _ _⟩

/-! ### t < u, t + u -/
/-- t + u, t not empty: u empty gives t itself -/
def rCatT (K : PySem.W.Frag) : R2 := fun x y H Q => ∃ a b xs ys, x = .ref a ∧ y = .ref b ∧ SqT K H a xs ∧ SqT K H b ys ∧ xs ≠ [] ∧ xs.length + ys.length ≤ sizeLine ∧
  (ys = [] → Q (.ref a) H) ∧ (ys ≠ [] → ∀ p, H p = none → Q (.ref p) (upd H p (.tup (xs ++ ys))))
theorem Vals.nil_iff {xs : List V} {us : List Value} (r : Vals xs us) : us = [] ↔ xs = [] := by
  cases r with
  | nil => simp
  | cons _ _ => simp
theorem op_catT : OpR X (binaryOp .Add) (rCatT X.K) := by
  intro pins s σ H x y v u Q I rx ry h
  obtain ⟨a, b, xs, ys, rfl, rfl, ha, hb, hx, hz, q1, q2⟩ := h
  cases rx
  cases ry
  obtain ⟨its, r1, p1, _⟩ := I.tuple ha
  obtain ⟨its2, r2, p2, _⟩ := I.tuple hb
  refine HT.cat_tup p1 p2 (fun z => hx (r1.nil_iff.mp z)) (fun z => ⟨.ref a, H, I, rfl, q1 (r2.nil_iff.mp z)⟩) (fun z => ?_) (by rw [← r1.length, ← r2.length]; exact hz)
  refine ⟨.ref s.heap.objs.size, _, I.laid (t' := s.toks) (o := .tup (xs ++ ys)) (fun b ob q => Heap.get?_push_of_some _ q) (Nat.le_refl _) ?_, rfl, q2 (fun w => z (r2.nil_iff.mpr w)) _ (I.hok.fresh (Nat.le_refl _))⟩
  exact ⟨by rw [List.length_append]; exact hz, _, r1.append r2, IsTup.new _ _⟩
end
end L2

namespace L2
open PySem PySem.Spec PyProof.Rows

/-! ### places -/
/-- the place that an index of any sign means -/
def ixN (n : Nat) (i : Int) : Option Nat := if 0 ≤ i then (if i < n then some i.toNat else none) else if -(n : Int) ≤ i then some (i + n).toNat else none
def atI {α : Type} (xs : List α) (i : Int) : Option α := (ixN xs.length i).bind fun j => xs[j]?
theorem ixN_seq {n : Nat} {i : Int} {j : Nat} (h : ixN n i = some j) : seqIndex? i n = some j ∧ j < n ∧ -(n : Int) ≤ i ∧ i < n := by
  unfold ixN at h
  by_cases h0 : 0 ≤ i
  · rw [if_pos h0] at h
    by_cases h1 : i < n
    · rw [if_pos h1] at h
      have e : i.toNat = j := Option.some.inj h
      exact ⟨by rw [seqIndex_of h0 h1, e], by omega, by omega, h1⟩
    · rw [if_neg h1] at h; cases h
  · rw [if_neg h0] at h
    by_cases h1 : -(n : Int) ≤ i
    · rw [if_pos h1] at h
      have e : (i + n).toNat = j := Option.some.inj h
      exact ⟨by rw [seqIndex_neg (by omega) h1, e], by omega, h1, by omega⟩
    · rw [if_neg h1] at h; cases h
theorem atI_get {α : Type} {xs : List α} {i : Int} {v : α} (h : atI xs i = some v) : ∃ j, seqIndex? i xs.length = some j ∧ xs[j]? = some v ∧ j < xs.length ∧ -(xs.length : Int) ≤ i ∧ i < xs.length := by
  unfold atI at h
  cases e : ixN xs.length i with
  | none => rw [e] at h; cases h
  | some j =>
    rw [e] at h
    obtain ⟨h1, h2, h3, h4⟩ := ixN_seq e
    exact ⟨j, h1, h, h2, h3, h4⟩
theorem atI_nat {α : Type} {xs : List α} {j : Nat} {v : α} (h : xs[j]? = some v) : atI xs (j : Int) = some v := by
  have hj : j < xs.length := (List.getElem?_eq_some_iff.mp h).1
  have e : ixN xs.length (j : Int) = some j := by
    unfold ixN
    rw [if_pos (by omega), if_pos (by omega)]; simp
  unfold atI; rw [e]; exact h
/-! ### what may be subscripted -/
/-- what stands as an index of a plain subscript -/
def PlainIx (b : Expr) : Prop := ∀ o i, subscripted b false o i = operate [o, i] (getItem o i)
/-- a subscript by values -/
def IxR (X : Cx) (r : R2) : Prop :=
  ∀ (value slice : Expr) (pins : List (Addr × Obj)) (s : Shared) (σ : St) (H : Hp) (x y : V) (v u : Value) (Q : VK), Inv X pins σ H s → RelV x v → RelV y u → r x y H Q →
    subscripted slice false v u = operate [v, u] (getItem v u) → wpAny (model X.prog X.w) X.A (subscriptTail value slice v u) (EP X pins σ Q) X.xe s
/-- a call of a builtin's method by values: the receiver, the arguments -/
def MtR (X : Cx) (id : String) (r : V → List V → Hp → VK → Prop) : Prop :=
  ∀ (pins : List (Addr × Obj)) (s : Shared) (σ : St) (H : Hp) (x : V) (xs : List V) (v : Value) (us : List Value) (Q : VK), Inv X pins σ H s → RelV x v → Vals xs us → r x xs H Q →
    wpAny (model X.prog X.w) X.A (call (.builtin id) (v :: us)) (EP X pins σ Q) X.xe s
section
variable {X : Cx} {a b : Expr} {ta tb : TE} {pos : Pos}
/-- a[b] -/
theorem pe_ix {r : R2} (hr : IxR X r) (ha : PE X a ta) (hb : PE X b tb) (hs : PlainIx b) : PE X (.Subscript a b pos) (tOp r ta tb) := by
  intro pins s σ H Q I h
  exact Subscript_ (binT ha hb I h fun v u s2 x y H2 I2 rx ry q => hr a b pins s2 σ H2 x y v u Q I2 rx ry q (hs _ _))

def rIxL (K : PySem.W.Frag) : R2 := fun x y H Q => ∃ p xs i v, x = .ref p ∧ y = .int i ∧ SqL K H p xs ∧ atI xs i = some v ∧ Q v H
def rIxT (K : PySem.W.Frag) : R2 := fun x y H Q => ∃ p xs i v, x = .ref p ∧ y = .int i ∧ SqT K H p xs ∧ atI xs i = some v ∧ Q v H
theorem ix_list : IxR X (rIxL X.K) := by
  intro value slice pins s σ H x y v u Q I rx ry h hs
  obtain ⟨p, xs, i, z, rfl, rfl, hq, he, q⟩ := h
  cases rx
  obtain ⟨t, rfl⟩ := ry
  obtain ⟨its, r, pl, hz⟩ := I.list hq
  obtain ⟨j, h1, h2, h3, h4, h5⟩ := atI_get he
  obtain ⟨w, ew, rw'⟩ := r.get h2
  have hl := r.length
  have hn := line63
  have fin : EP X pins σ Q w s := ⟨z, H, I, rw', q⟩
  by_cases h0 : 0 ≤ i
  · have hj : i.toNat = j := by
      rw [seqIndex_of h0 h5] at h1
      exact Option.some.inj h1
    exact item_listR pl.isList h0 (by omega) (by rw [hj]; simpa using ew) fin hs
  · have hj : (i + (its.toArray.size : Int)).toNat = j := by
      rw [seqIndex_neg (by omega) h4] at h1
      rw [List.size_toArray, ← hl]
      exact Option.some.inj h1
    exact subscriptTail_builtinR (x := w) pl.isList.typeIs slot_list_getitem.lookup
      (wpAny_getItem_list_neg (Q := fun r s' => r = w ∧ EP X pins σ Q r s') pl.isList (by omega) (by rw [List.size_toArray] <;> omega) (by omega) (by rw [hj]; simpa using ew) ⟨rfl, fin⟩) hs
theorem ix_tup : IxR X (rIxT X.K) := by
  intro value slice pins s σ H x y v u Q I rx ry h hs
  obtain ⟨p, xs, i, z, rfl, rfl, hq, he, q⟩ := h
  cases rx
  obtain ⟨t, rfl⟩ := ry
  obtain ⟨its, r, pl, hz⟩ := I.tuple hq
  obtain ⟨j, h1, h2, h3, h4, h5⟩ := atI_get he
  obtain ⟨w, ew, rw'⟩ := r.get h2
  have hl := r.length
  have hn := line63
  have fin : EP X pins σ Q w s := ⟨z, H, I, rw', q⟩
  exact subscriptTail_builtinR (x := w) pl.typeIs slot_tuple_getitem.lookup
    (getItem_tuple (j := j) (Q := fun r s' => r = w ∧ EP X pins σ Q r s') pl (by omega) (by omega) (by rw [List.size_toArray, ← hl]; exact h1) (by simpa using ew) ⟨rfl, fin⟩) hs
/-! ### xs[i] = v, any sign -/
/-- the list's object behind a store -/
theorem mapSeq_set (its : List Value) (n j : Nat) (u : Value) : Obj.mapSeq (·.setIfInBounds j u) { cls := .type "list", data := .seq its.toArray n } = { cls := .type "list", data := .seq (its.set j u).toArray n } := by
  simp [Obj.mapSeq]
theorem Inv.lst {pins : List (Addr × Obj)} {σ : St} {H : Hp} {s : Shared} {p : Addr} {xs : List V} (I : Inv X pins σ H s) (h : H p = some (.lst xs)) :
    ∃ (its : List Value) (n : Nat), Vals xs its ∧ s.heap.get? p = some { cls := .type "list", data := .seq its.toArray n } ∧ xs.length ≤ sizeLine := by
  obtain ⟨z, its, n, r, e⟩ := I.hok p _ h
  exact ⟨its, n, r, e, z⟩
/-- the list at p is written by an update of its object -/
theorem Inv.lstUpd {pins : List (Addr × Obj)} {σ : St} {H : Hp} {s : Shared} {p : Addr} {xs ys : List V} {its its' : List Value} {n n' : Nat} {f : Obj → Obj} (I : Inv X pins σ H s) (h : H p = some (.lst xs))
    (ho : s.heap.get? p = some { cls := .type "list", data := .seq its.toArray n }) (hf : f { cls := .type "list", data := .seq its.toArray n } = { cls := .type "list", data := .seq its'.toArray n' }) (r : Vals ys its') (hz : ys.length ≤ sizeLine) (t : Nat) :
    Inv X pins σ (upd H p (.lst ys)) { s with heap := s.heap.update p f, toks := t } := by
  have e : (s.heap.update p f).get? p = some { cls := .type "list", data := .seq its'.toArray n' } := by
    rw [Heap.get?_update_self f ho (by rw [hf] <;> rfl), hf]
  refine I.write (x := p) (e := p) (by rw [h]; trivial) (.inl rfl) (fun b u hb q => (Heap.get?_update_other _ _ (Ne.symm hb)).trans q) ⟨_, e⟩ ?_
  exact ⟨hz, its', n', r, e⟩
def rSetL : V → V → V → Hp → (Hp → Prop) → Prop := fun o i v H Q => ∃ p xs k j, o = .ref p ∧ i = .int k ∧ H p = some (.lst xs) ∧ ixN xs.length k = some j ∧ Q (upd H p (.lst (xs.set j v)))
theorem set_list : PSet X rSetL := by
  intro pins s σ H o i v ov iv u Q I ro ri rv h
  obtain ⟨p, xs, k, j, rfl, rfl, hp, hj, q⟩ := h
  cases ro
  obtain ⟨t, rfl⟩ := ri
  obtain ⟨its, n, r, ho, hz⟩ := I.lst hp
  obtain ⟨h1, h2, h3, h4⟩ := ixN_seq hj
  have hl := r.length
  have hn := line63
  have I' : Inv X pins σ (upd H p (.lst (xs.set j v))) { s with heap := s.heap.update p (Obj.mapSeq (·.setIfInBounds j u)) } :=
    I.lstUpd hp ho (mapSeq_set its n j u) (r.set rv j) (by rw [List.length_set]; exact hz) s.toks
  by_cases h0 : 0 ≤ k
  · have hk : k.toNat = j := by
      rw [seqIndex_of h0 h4] at h1
      exact Option.some.inj h1
    exact PySem.W.ki_setAt ho h0 (by omega) (by rw [List.size_toArray, ← hl]; exact h4) (by rw [hk]; exact ⟨_, I', q⟩)
  · have hk : (k + (its.toArray.size : Int)).toNat = j := by
      rw [seqIndex_neg (by omega) h3] at h1
      rw [List.size_toArray, ← hl]
      exact Option.some.inj h1
    exact PySem.W.ki_setBack ho (by omega) (by rw [List.size_toArray, ← hl]; exact h3) (by omega) (by rw [hk]; exact ⟨_, I', q⟩)

/-! ### slices -/
/-! ### in, not in: flat items -/
def flatV : V → Bool
  | .non => true
  | .bl _ => true
  | .int _ => true
  | .str _ => true
  | _ => false
/-- == of flat values -/
def eqV : V → V → Bool
  | .non, .non => true
  | .bl a, .bl b => a == b
  | .bl a, .int b => (if a then 1 else 0) == b
  | .int a, .bl b => a == (if b then 1 else 0)
  | .int a, .int b => a == b
  | .str a, .str b => a == b
  | _, _ => false
theorem eqAt_V {A : Around} {s : Shared} {y x : V} {u v : Value} (ry : RelV y u) (rx : RelV x v) (fy : flatV y = true) (fx : flatV x = true) : SeqAt.EqAt A s u v (eqV y x) := by
  cases y with
  | non =>
    cases ry
    cases x with
    | non => cases rx; exact SeqAt.EqAt.same _
    | bl b => cases rx; exact SeqAt.EqAt.none_bool b
    | int b => obtain ⟨t, rfl⟩ := rx; exact SeqAt.EqAt.none_int b t
    | str b => obtain ⟨t, rfl⟩ := rx; exact SeqAt.EqAt.none_str b t
    | _ => exact absurd (show false = true from fx) Bool.false_ne_true
  | bl a =>
    cases ry
    cases x with
    | non => cases rx; exact SeqAt.EqAt.bool_none a
    | bl b => cases rx; exact SeqAt.EqAt.bool_bool a b
    | int b => obtain ⟨t, rfl⟩ := rx; exact SeqAt.EqAt.bool_int a b t
    | str b => obtain ⟨t, rfl⟩ := rx; exact SeqAt.EqAt.bool_str a b t
    | _ => exact absurd (show false = true from fx) Bool.false_ne_true
  | int a =>
    obtain ⟨t', rfl⟩ := ry
    cases x with
    | non => cases rx; exact SeqAt.EqAt.int_none a t'
    | bl b => cases rx; exact SeqAt.EqAt.int_bool a t' b
    | int b => obtain ⟨t, rfl⟩ := rx; exact SeqAt.EqAt.int_int a t' b t
    | str b => obtain ⟨t, rfl⟩ := rx; exact SeqAt.EqAt.int_str a t' b t
    | _ => exact absurd (show false = true from fx) Bool.false_ne_true
  | str a =>
    obtain ⟨t', rfl⟩ := ry
    cases x with
    | non => cases rx; exact SeqAt.EqAt.str_none a t'
    | bl b => cases rx; exact SeqAt.EqAt.str_bool a t' b
    | int b => obtain ⟨t, rfl⟩ := rx; exact SeqAt.EqAt.str_int a t' b t
    | str b => obtain ⟨t, rfl⟩ := rx; exact SeqAt.EqAt.str_str a t' b t
    | _ => exact absurd (show false = true from fx) Bool.false_ne_true
  | _ => exact absurd (show false = true from fy) Bool.false_ne_true
/-- the items' answers, read off the values (a value's own answer does not lean on its token) -/
def eqU (x : V) (u : Value) : Bool := match u with
  | .none => eqV .non x
  | .bool b => eqV (.bl b) x
  | .int i _ => eqV (.int i) x
  | .str z _ => eqV (.str z) x
  | _ => false
theorem eqU_of {x y : V} {u : Value} (r : RelV y u) (f : flatV y = true) : eqU x u = eqV y x := by
  cases y with
  | non => cases r; rfl
  | bl b => cases r; rfl
  | int i => obtain ⟨t, rfl⟩ := r; rfl
  | str z => obtain ⟨t, rfl⟩ := r; rfl
  | _ => exact absurd (show false = true from f) Bool.false_ne_true
theorem any_eqU {x : V} : ∀ {xs : List V} {us : List Value}, Vals xs us → xs.all flatV = true → us.any (eqU x) = xs.any fun y => eqV y x
  | _, _, .nil, _ => rfl
  | y :: xs, u :: us, .cons r t, f => by
    rw [List.all_cons, Bool.and_eq_true] at f
    rw [List.any_cons, List.any_cons, eqU_of r f.1, any_eqU t f.2]
theorem mem_eqAt {A : Around} {s : Shared} {x : V} {v : Value} (rx : RelV x v) (fx : flatV x = true) : ∀ {xs : List V} {us : List Value}, Vals xs us → xs.all flatV = true → ∀ u ∈ us, SeqAt.EqAt A s u v (eqU x u)
  | _, _, .nil, _ => fun u hu => by cases hu
  | y :: xs, u :: us, .cons r t, f => fun u' hu => by
    rw [List.all_cons, Bool.and_eq_true] at f
    rcases List.mem_cons.mp hu with rfl | hu
    · rw [eqU_of r f.1]; exact eqAt_V r rx f.1 fx
    · exact mem_eqAt rx fx t f.2 u' hu
def inV (x : V) (xs : List V) : Bool := xs.any fun y => eqV y x
/-- x in a list or tuple of flat items -/
def rIn (K : PySem.W.Frag) (neg : Bool) : R2 := fun x y H Q => ∃ p xs, y = .ref p ∧ (SqL K H p xs ∨ SqT K H p xs) ∧ flatV x = true ∧ xs.all flatV = true ∧ Q (.bl (if neg then !inV x xs else inV x xs)) H
theorem op_in_seq : OpR X (compareOp .In) (rIn X.K false) := by
  intro pins s σ H x y v u Q I rx ry h
  obtain ⟨p, xs, rfl, hq, fx, fs, q⟩ := h
  cases ry
  rcases hq with hq | hq
  · obtain ⟨its, r, pl, hz⟩ := I.list hq
    refine SeqAt.in_listAt (eqU x) pl.isList (fun w hw => mem_eqAt rx fx r fs w (by simpa using hw)) ⟨.bl _, H, I, rfl, ?_⟩
    rw [show its.toArray.any (eqU x) = its.any (eqU x) by simp, any_eqU r fs]
    exact q
  · obtain ⟨its, r, pl, hz⟩ := I.tuple hq
    refine SeqAt.in_tupleAt (eqU x) pl (fun w hw => mem_eqAt rx fx r fs w (by simpa using hw)) ⟨.bl _, H, I, rfl, ?_⟩
    rw [show its.toArray.any (eqU x) = its.any (eqU x) by simp, any_eqU r fs]
    exact q
theorem op_notIn_seq : OpR X (compareOp .NotIn) (rIn X.K true) := by
  intro pins s σ H x y v u Q I rx ry h
  obtain ⟨p, xs, rfl, hq, fx, fs, q⟩ := h
  cases ry
  rcases hq with hq | hq
  · obtain ⟨its, r, pl, hz⟩ := I.list hq
    refine SeqAt.notIn_listAt (eqU x) pl.isList (fun w hw => mem_eqAt rx fx r fs w (by simpa using hw)) ⟨.bl _, H, I, rfl, ?_⟩
    rw [show its.toArray.any (eqU x) = its.any (eqU x) by simp, any_eqU r fs]
    exact q
  · obtain ⟨its, r, pl, hz⟩ := I.tuple hq
    refine SeqAt.notIn_tupleAt (eqU x) pl (fun w hw => mem_eqAt rx fx r fs w (by simpa using hw)) ⟨.bl _, H, I, rfl, ?_⟩
    rw [show its.toArray.any (eqU x) = its.any (eqU x) by simp, any_eqU r fs]
    exact q
/-! ### len, list(x), tuple(x) of any list or tuple that is read -/
theorem call_len_seq : CallR X (.builtin "len") (fun xs H Q => ∃ p ys, xs = [.ref p] ∧ (SqL X.K H p ys ∨ SqT X.K H p ys) ∧ Q (.int ys.length) H) := by
  intro pins s σ H xs us Q I r h
  obtain ⟨p, ys, rfl, hq, q⟩ := h
  obtain ⟨u, rfl, rx⟩ := vals1 r
  cases rx
  have hn := line63
  rcases hq with hq | hq
  · obtain ⟨its, r', pl, hz⟩ := I.list hq
    have hlen := r'.length
    exact Calls.call_len_list pl.isList (by simp only [List.size_toArray] <;> omega) ⟨.int ys.length, H, I.tok _, ⟨s.toks + 1, by rw [List.size_toArray, hlen]⟩, q⟩
  · obtain ⟨its, r', pl, hz⟩ := I.tuple hq
    have hlen := r'.length
    exact len_tuple pl (by simp only [List.size_toArray] <;> omega) ⟨.int ys.length, H, I.tok _, ⟨s.toks + 1, by rw [List.size_toArray, hlen]⟩, q⟩
theorem call_tuple_of : CallR X (.type "tuple") (fun xs H Q => ∃ p ys, xs = [.ref p] ∧ ((SqL X.K H p ys ∧ ∀ l, H l = none → Q (.ref l) (upd H l (.tup ys))) ∨ (SqT X.K H p ys ∧ Q (.ref p) H))) := by
  intro pins s σ H xs us Q I r h
  obtain ⟨p, ys, rfl, h⟩ := h
  obtain ⟨u, rfl, rx⟩ := vals1 r
  cases rx
  rcases h with ⟨hq, q⟩ | ⟨hq, q⟩
  · obtain ⟨its, r', pl, hz⟩ := I.list hq
    have hlen := r'.length
    refine call_tuple_list pl.isList (fun h' kp => ?_) (by simp only [List.size_toArray] <;> omega)
    have I1 : Inv X pins σ H { s with heap := h' } := I.kept (t' := s.toks) kp
    have I2 : Inv X pins σ (upd H h'.objs.size (.tup ys)) { s with heap := h'.push { cls := .type "tuple", data := .seq its.toArray } } :=
      I1.laid (t' := s.toks) (fun b o e => Heap.get?_push_of_some _ e) (Nat.le_refl _) (show ObjOk X.prog X.w _ _ _ (.tup ys) from ⟨hz, its, r', IsTup.new _ _⟩)
    exact ⟨.ref h'.objs.size, _, I2, rfl, q _ (I1.hok.fresh (Nat.le_refl _))⟩
  · obtain ⟨its, r', pl, hz⟩ := I.tuple hq
    exact call_tuple_same pl ⟨.ref p, H, I, rfl, q⟩

/-! ### the call of a builtin's method: o.m(..) -/
/-- the value is of that builtin type -/
def tyV (K : PySem.W.Frag) (T : String) (x : V) (H : Hp) : Prop := match x with
  | .str _ => T = "str"
  | .int _ => T = "int"
  | .ref p => (T = "list" ∧ ∃ xs, SqL K H p xs) ∨ (T = "tuple" ∧ ∃ o, K.lookup p = some o ∧ o.cls = .type "tuple" ∧ o.dict = none) ∨
      (T = "dict" ∧ ((∃ kvs, H p = some (.dK kvs)) ∨ ∃ kvs, H p = some (.dT kvs))) ∨ (T = "set" ∧ ∃ S n, H p = some (.set S n))
  | _ => False
theorem tyV_is {pins : List (Addr × Obj)} {σ : St} {H : Hp} {s : Shared} {T : String} {x : V} {v : Value} (I : Inv X pins σ H s) (r : RelV x v) (ty : tyV X.K T x H) :
    s.TypeIs v T ∧ ∀ a, v = .ref a → ∃ ob, s.heap.get? a = some ob ∧ ob.dict = none := by
  cases x with
  | str z =>
    obtain ⟨t, rfl⟩ := r
    cases (show T = "str" from ty)
    exact ⟨typeIs_str s z t, fun _ e => nomatch e⟩
  | int i =>
    obtain ⟨t, rfl⟩ := r
    cases (show T = "int" from ty)
    exact ⟨typeIs_int s i t, fun _ e => nomatch e⟩
  | ref p =>
    cases r
    rcases ty with ⟨rfl, xs, hq⟩ | ⟨rfl, o, hk, hc, hd⟩ | ⟨rfl, hk⟩ | ⟨rfl, S, n, hk⟩
    · obtain ⟨its, _, pl, _⟩ := I.list hq
      refine ⟨pl.isList.typeIs, fun a e => ?_⟩
      cases e
      obtain ⟨o, n, e, c, hd, _⟩ := pl
      exact ⟨o, e, hd⟩
    · refine ⟨⟨o, I.kIn p o hk, hc⟩, fun a e => ?_⟩
      cases e
      exact ⟨o, I.kIn _ o hk, hd⟩
    · have z : ∃ o, s.heap.get? p = some o ∧ o.ExactDict := by
        rcases hk with ⟨kvs, hk⟩ | ⟨kvs, hk⟩
        · obtain ⟨_, _, _, _, o, _, _, e, ex, _⟩ := I.hok p _ hk
          exact ⟨o, e, ex⟩
        · obtain ⟨_, _, _, _, o, _, _, e, ex, _⟩ := I.hok p _ hk
          exact ⟨o, e, ex⟩
      obtain ⟨o, e, ex⟩ := z
      refine ⟨⟨o, e, ex.1⟩, fun a e2 => ?_⟩
      cases e2
      exact ⟨o, e, ex.2.1⟩
    · obtain ⟨o, _, _, _, e, ex, _⟩ := I.hok p _ hk
      refine ⟨⟨o, e, ex.1⟩, fun a e2 => ?_⟩
      cases e2
      exact ⟨o, e, ex.2.1⟩
  | _ => exact False.elim ty
def tBM (K : PySem.W.Frag) (T : String) (r : V → List V → Hp → VK → Prop) (to : TE) (t : TA) : TE := fun σ H Q => to σ H fun x H1 => tyV K T x H1 ∧ t σ H1 fun xs H2 => r x xs H2 Q
variable {o e : Expr} {es : List Expr} {to : TE} {t : TA} {name : Str} {apos cpos : Pos} {T id : String} {r : V → List V → Hp → VK → Prop}
theorem pe_bm (pa : PlainAttrs T) (slot : Slot T name id) (hty : typeOf (.builtin id) = pure (.type "method_descriptor")) (hm : MtR X id r) (ho : PE X o to) (ha : PA X (e :: es) t)
    (hbase : attributeBase o name X.env (eval o X.env) = eval o X.env := by rfl)
    (hfew : ((backTo cpos (starEach (e :: es) X.env)).all (fun x => !x.1) && (backToKw cpos (keywordEach [] X.env)).all (fun x => x.1.isSome)
      && decide ((e :: es).length + ([] : List Keyword).length + (if ([] : List Keyword).isEmpty then 0 else 1) < 30)) = true := by rfl)
    (hline : (apos.endLine == cpos.line) = true := by rfl) (hs : starEach (e :: es) X.env = (false, eval e X.env) :: starEach es X.env := by rfl) (hplain : (backTo cpos (starEach es X.env)).any (·.1) = false := by rfl) :
    PE X (.Call (.Attribute o name apos) (e :: es) [] cpos) (tBM X.K T r to t) := by
  intro pins s σ H Q I h
  refine wpAny_Call_method_late hbase hfew hline rfl (thn (ho pins s σ H _ I h) fun v s1 ⟨x, H1, I1, r1, ty, q1⟩ => ?_)
  obtain ⟨h1, h2⟩ := tyV_is I1 r1 ty
  refine ⟨T, id, pa, slot, hty, h1, h2, ?_⟩
  have hA := ha cpos pins s1 σ H1 _ I1 q1
  rw [hs] at hA ⊢
  refine Calls.callWith_builtin (by show (false || (backTo cpos (starEach es X.env)).any (·.1)) = false; rw [hplain] <;> rfl) (Calls.evalArgs_plain ?_)
  exact thn hA fun us s2 ⟨vs, H2, I2, r2, q2⟩ => hm pins s2 σ H2 x vs v us Q I2 r1 r2 q2
/- xs.append(e), list.index on a module's tuple .. are MtR facts of 06m -/
end
end L2

namespace L2
open PySem PySem.Spec PyProof.Rows

def MtM (X : Cx) (id : String) (r : V → List V → Hp → VK → Prop) : Prop :=
  ∀ (pins : List (Addr × Obj)) (s : Shared) (σ : St) (H : Hp) (x : V) (xs : List V) (v : Value) (us : List Value) (Q : VK), Inv X pins σ H s → RelV x v → Vals xs us → r x xs H Q →
    wpAny (model X.prog X.w) X.A (call (.builtin id) (v :: us)) (EP X pins σ Q) X.xe s

/-! ### lists of values -/
theorem Vals.one : ∀ {x : V} {us : List Value}, Vals [x] us → ∃ u, us = [u] ∧ RelV x u
  | _, _, .cons r .nil => ⟨_, rfl, r⟩
theorem Vals.reverse {xs : List V} {us : List Value} (h : Vals xs us) : Vals xs.reverse us.reverse := by
  induction h with
  | nil => exact .nil
  | cons r t ih => rw [List.reverse_cons, List.reverse_cons]; exact Vals.append ih (.cons r .nil)
section
variable {X : Cx} {pins : List (Addr × Obj)} {σ : St} {H : Hp} {s : Shared} {l b : Addr} {xs ys zs : List V}

/-! ### the two steps: a tracked list is rewritten, a new list is laid -/
theorem Inv.lset {its its' : List Value} {n : Nat} {f : Array Value → Array Value} {t' : Nat} (I : Inv X pins σ H s) (hH : H l = some (.lst xs))
    (e : s.heap.get? l = some { cls := .type "list", data := .seq its.toArray n }) (hf : f its.toArray = its'.toArray) (hv : Vals ys its') (hz : ys.length ≤ sizeLine) :
    Inv X pins σ (upd H l (.lst ys)) { s with heap := s.heap.update l (Obj.mapSeq f), toks := t' } := by
  have q := PySem.IsL.update e f
  rw [hf] at q
  refine I.write (x := l) (e := l) (by rw [hH]; exact trivial) (.inl rfl) (fun b' u hb hu => (Heap.get?_update_other s.heap (Obj.mapSeq f) (Ne.symm hb)).trans hu) ⟨_, q⟩ ?_
  exact ⟨hz, its', _, hv, q⟩
theorem Inv.lnew {its : List Value} {t' : Nat} (I : Inv X pins σ H s) (hv : Vals ys its) (hz : ys.length ≤ sizeLine) :
    Inv X pins σ (upd H s.heap.objs.size (.lst ys)) { s with heap := s.heap.push { cls := .type "list", data := .seq its.toArray }, toks := t' } :=
  I.laid (fun _ _ q => Heap.get?_push_of_some _ q) (Nat.le_refl _) ⟨hz, its, 0, hv, Heap.get?_push_size _ rfl⟩
theorem Inv.lstM (I : Inv X pins σ H s) (hH : H l = some (.lst xs)) : xs.length ≤ sizeLine ∧ ∃ (its : List Value) (n : Nat), Vals xs its ∧ xs.length = its.length ∧ s.heap.get? l = some { cls := .type "list", data := .seq its.toArray n } := by
  obtain ⟨z, its, n, r, e⟩ := I.hok l _ hH
  exact ⟨z, its, n, r, r.length, e⟩

end

section
variable {X : Cx}

/-! ### methods -/
def rAppend : V → List V → Hp → VK → Prop := fun x vs H Q => ∃ l xs y, x = .ref l ∧ vs = [y] ∧ H l = some (.lst xs) ∧ xs.length < sizeLine ∧ Q .non (upd H l (.lst (xs ++ [y])))
theorem mt_append : MtM X "list.append" rAppend := by
  intro pins s σ H x vs v us Q I rx rv h
  obtain ⟨l, xs, y, rfl, rfl, hH, hz, q⟩ := h
  cases rx
  obtain ⟨u, rfl, ru⟩ := rv.one
  obtain ⟨z, its, n, r, hl, e⟩ := I.lstM hH
  refine call_meets F.slot_list_append ⟨_, e, rfl⟩ F.entry_list_append (F.args_list_append_2 _ _) (PySem.list_append l its.toArray n u (by rw [List.size_toArray]; omega)) ⟨e, ?_⟩
  refine ⟨.non, _, I.lset (its' := its ++ [u]) hH e (by simp) (r.append (.cons ru .nil)) ?_, rfl, q⟩
  rw [List.length_append, List.length_singleton]
  omega

/-! ### list + list, list += list, list * int -/
/-! ### del xs[i] -/
end

/-! ### xs[a:b] = ys -/
section
variable {prog : Program} {w : World} {A : Around} {E : Value → Shared → Prop} {s : Shared}
end

section
variable {X : Cx}
end
end L2

namespace L2
open PySem PySem.Spec PyProof.Rows

/-! ### lists of pairs as tables -/
section
variable {κ : Type} [DecidableEq κ]
def valV (kvs : List (κ × V)) (k : κ) : Option V := (kvs.find? fun kv => decide (kv.1 = k)).map (·.2)
/-- in its place, or at the end -/
def putK (kvs : List (κ × V)) (k : κ) (v : V) : List (κ × V) :=
  if (kvs.any fun kv => decide (kv.1 = k)) = true then kvs.map (fun kv => if kv.1 = k then (kv.1, v) else kv) else kvs ++ [(k, v)]
def dropK (kvs : List (κ × V)) (k : κ) : List (κ × V) := kvs.filter fun kv => decide (kv.1 ≠ k)

theorem valV_pos {p : κ × V} {r : List (κ × V)} {k : κ} (e : p.1 = k) : valV (p :: r) k = some p.2 := by simp [valV, List.find?_cons, e]
theorem valV_neg {p : κ × V} {r : List (κ × V)} {k : κ} (e : ¬ p.1 = k) : valV (p :: r) k = valV r k := by simp [valV, List.find?_cons, e]
theorem valV_any (k : κ) : ∀ kvs : List (κ × V), (kvs.any fun kv => decide (kv.1 = k)) = (valV kvs k).isSome
  | [] => rfl
  | p :: r => by
    rw [List.any_cons]
    by_cases e : p.1 = k
    · simp only [valV_pos e, decide_eq_true e, Bool.true_or, Option.isSome_some]
    · rw [valV_neg e, decide_eq_false e, Bool.false_or]; exact valV_any k r
theorem valV_map (k j : κ) (y : V) : ∀ kvs : List (κ × V), valV (kvs.map fun kv => if kv.1 = k then (kv.1, y) else kv) j = (valV kvs j).map fun x => if j = k then y else x
  | [] => rfl
  | p :: r => by
    have ih := valV_map k j y r
    rw [List.map_cons]
    by_cases h : p.1 = k
    · rw [if_pos h]
      by_cases e : p.1 = j
      · rw [valV_pos (p := (p.1, y)) e, valV_pos e, Option.map_some, if_pos (e.symm.trans h)]
      · rw [valV_neg (p := (p.1, y)) e, valV_neg e, ih]
    · rw [if_neg h]
      by_cases e : p.1 = j
      · rw [valV_pos (p := p) e, valV_pos e, Option.map_some, if_neg (fun z => h (e.trans z))]
      · rw [valV_neg (p := p) e, valV_neg e, ih]
theorem valV_snoc (k j : κ) (y : V) : ∀ kvs : List (κ × V), valV kvs k = none → valV (kvs ++ [(k, y)]) j = if j = k then some y else valV kvs j
  | [], _ => by
    by_cases e : k = j
    · rw [if_pos e.symm]; exact valV_pos (p := (k, y)) e
    · rw [if_neg (fun z => e z.symm)]; exact valV_neg (p := (k, y)) e
  | p :: r, hn => by
    rw [List.cons_append]
    have hk : ¬ p.1 = k := fun z => by rw [valV_pos z] at hn; cases hn
    rw [valV_neg hk] at hn
    have ih := valV_snoc k j y r hn
    by_cases e : p.1 = j
    · rw [valV_pos e, valV_pos e, if_neg (fun z => hk (e.trans z))]
    · rw [valV_neg e, valV_neg e, ih]
theorem valV_put (kvs : List (κ × V)) (k j : κ) (y : V) : valV (putK kvs k y) j = if j = k then some y else valV kvs j := by
  unfold putK
  by_cases a : (kvs.any fun kv => decide (kv.1 = k)) = true
  · rw [if_pos a, valV_map]
    rw [valV_any] at a
    by_cases e : j = k
    · obtain ⟨x, hx⟩ := Option.isSome_iff_exists.mp a
      rw [if_pos e, e, hx, Option.map_some, if_pos rfl]
    · rw [if_neg e]
      cases valV kvs j with
      | none => rfl
      | some x => rw [Option.map_some, if_neg e]
  · rw [if_neg a]
    refine valV_snoc k j y kvs ?_
    rw [valV_any] at a
    cases q : valV kvs k with
    | none => rfl
    | some x => rw [q] at a; exact (a rfl).elim
theorem length_putK (kvs : List (κ × V)) (k : κ) (v : V) : (putK kvs k v).length ≤ kvs.length + 1 := by
  unfold putK
  split
  · rw [List.length_map]; omega
  · rw [List.length_append, List.length_cons, List.length_nil]; omega
theorem RelO.isSome_eq {o : Option V} {u : Option Value} (r : RelO o u) : o.isSome = u.isSome := by
  cases o with
  | none => cases u with
    | none => rfl
    | some _ => exact (show False from r).elim
  | some _ => cases u with
    | none => exact (show False from r).elim
    | some _ => rfl
theorem RelO.getD {o : Option V} {u : Option Value} {d : V} {d' : Value} (r : RelO o u) (rd : RelV d d') : RelV (o.getD d) (u.getD d') := by
  cases o with
  | none => cases u with
    | none => exact rd
    | some _ => exact (show False from r).elim
  | some _ => cases u with
    | none => exact (show False from r).elim
    | some _ => exact r

/-- raw tables of the same keys -/
theorem KV.val {kvs : List (κ × V)} {vs : List (κ × Value)} (r : KV kvs vs) (k : κ) : RelO (valV kvs k) (valueAt vs k) := by
  unfold KV at r
  induction r with
  | nil => exact True.intro
  | @cons p q ps qs h t ih =>
    obtain ⟨h1, h2⟩ := h
    by_cases e : p.1 = k
    · have e' : q.1 = k := h1.symm.trans e
      have b : valueAt (q :: qs) k = some q.2 := by simp [valueAt, List.find?_cons, e']
      rw [valV_pos e, b]; exact h2
    · have e' : ¬ q.1 = k := fun z => e (h1.trans z)
      have b : valueAt (q :: qs) k = valueAt qs k := by simp [valueAt, List.find?_cons, e']
      rw [valV_neg e, b]; exact ih
theorem KV.any {kvs : List (κ × V)} {vs : List (κ × Value)} (r : KV kvs vs) (k : κ) : (kvs.any fun kv => decide (kv.1 = k)) = vs.any fun kv => decide (kv.1 = k) := by
  unfold KV at r
  induction r with
  | nil => rfl
  | cons h t ih => rw [List.any_cons, List.any_cons, ih, h.1]
theorem KV.repl {kvs : List (κ × V)} {vs : List (κ × Value)} (r : KV kvs vs) (k : κ) {y : V} {u : Value} (ry : RelV y u) :
    KV (kvs.map fun kv => if kv.1 = k then (kv.1, y) else kv) (vs.map fun kv => if kv.1 = k then (kv.1, u) else kv) := by
  unfold KV at r ⊢
  induction r with
  | nil => exact .nil
  | @cons p q ps qs h t ih =>
    rw [List.map_cons, List.map_cons]
    refine .cons ?_ ih
    obtain ⟨h1, h2⟩ := h
    by_cases e : p.1 = k
    · rw [if_pos e, if_pos (h1.symm.trans e)]; exact ⟨h1, ry⟩
    · rw [if_neg e, if_neg (fun z => e (h1.trans z))]; exact ⟨h1, h2⟩
theorem KV.put {kvs : List (κ × V)} {vs : List (κ × Value)} (r : KV kvs vs) (k : κ) {y : V} {u : Value} (ry : RelV y u) : KV (putK kvs k y) (stored vs k u) := by
  unfold putK stored
  rw [r.any k]
  by_cases e : (vs.any fun kv => decide (kv.1 = k)) = true
  · rw [if_pos e, if_pos e]; exact r.repl k ry
  · rw [if_neg e, if_neg e]; exact Paired.snoc r ⟨rfl, ry⟩
theorem KV.drop {kvs : List (κ × V)} {vs : List (κ × Value)} (r : KV kvs vs) (k : κ) : KV (dropK kvs k) (without vs k) := by
  unfold KV at r ⊢
  unfold dropK without
  induction r with
  | nil => exact .nil
  | @cons p q ps qs h t ih =>
    obtain ⟨h1, h2⟩ := h
    rw [List.filter_cons, List.filter_cons]
    by_cases e : p.1 = k
    · have a : ¬ decide (p.1 ≠ k) = true := by simp [e]
      have b : ¬ decide (q.1 ≠ k) = true := by simp [h1.symm.trans e]
      rw [if_neg a, if_neg b]; exact ih
    · have e' : ¬ q.1 = k := fun z => e (h1.trans z)
      have a : decide (p.1 ≠ k) = true := by simp [e]
      have b : decide (q.1 ≠ k) = true := by simp [e']
      rw [if_pos a, if_pos b]; exact .cons ⟨h1, h2⟩ ih
theorem KV.length {kvs : List (κ × V)} {vs : List (κ × Value)} (r : KV kvs vs) : kvs.length = vs.length := Paired.length r
theorem dropK_le (kvs : List (κ × V)) (k : κ) : (dropK kvs k).length ≤ kvs.length := List.length_filter_le _ _
end


/-! ### a tracked dict, its keys ints and texts or tuples of these -/
theorem kV_is {P : Program} {w : World} {k : Key} {u : Value} (r : RelV (kV k) u) : (mixKind P w).is k u = true := by
  cases k with
  | inl i => obtain ⟨t, e⟩ := (show ∃ t, u = Value.int i t from r); subst e; exact mixKind_int P w i t
  | inr x => obtain ⟨t, e⟩ := (show ∃ t, u = Value.str x t from r); subst e; exact mixKind_str P w x t
theorem items_are {P : Program} {w : World} : ∀ {ks : List Key} {us : List Value}, Vals (ks.map kV) us → ItemsAre (mixKind P w) ks us
  | [], _, r => by rw [List.map_nil] at r; cases r; exact .nil
  | k :: ks, _, r => by
    rw [List.map_cons] at r
    cases r with
    | cons h t => exact .cons (kV_is h) (items_are t)

/-- raw entries of a dict with tuple keys -/
abbrev KT (H : Hp) : List (List Key × V) → List (List Key × Addr × Value) → Prop := Paired fun p q => p.1 = q.1 ∧ H q.2.1 = some (.tup (p.1.map kV)) ∧ RelV p.2 q.2.2
theorem KT.val {H : Hp} {kvs : List (List Key × V)} {xs : List (List Key × Addr × Value)} (r : KT H kvs xs) (k : List Key) : RelO (valV kvs k) ((atKey xs k).map (·.2)) := by
  induction r with
  | nil => exact True.intro
  | @cons p q ps qs h t ih =>
    obtain ⟨h1, _, h2⟩ := h
    by_cases e : p.1 = k
    · have e' : q.1 = k := h1.symm.trans e
      have b : atKey (q :: qs) k = some q.2 := by simp [atKey, List.find?_cons, e']
      rw [valV_pos e, b]; exact h2
    · have e' : ¬ q.1 = k := fun z => e (h1.trans z)
      have b : atKey (q :: qs) k = atKey qs k := by simp [atKey, List.find?_cons, e']
      rw [valV_neg e, b]; exact ih
theorem KT.repl {H : Hp} {kvs : List (List Key × V)} {xs : List (List Key × Addr × Value)} (r : KT H kvs xs) (k : List Key) {y : V} {u : Value} (ry : RelV y u) :
    KT H (kvs.map fun kv => if kv.1 = k then (kv.1, y) else kv) (xs.map (putAt k u)) := by
  induction r with
  | nil => exact .nil
  | @cons p q ps qs h t ih =>
    rw [List.map_cons, List.map_cons]
    refine .cons ?_ ih
    obtain ⟨h1, h2, h3⟩ := h
    unfold putAt
    by_cases e : p.1 = k
    · rw [if_pos e, if_pos (h1.symm.trans e)]; exact ⟨h1, h2, ry⟩
    · rw [if_neg e, if_neg (fun z => e (h1.trans z))]; exact ⟨h1, h2, h3⟩
theorem KT.put {H : Hp} {kvs : List (List Key × V)} {xs : List (List Key × Addr × Value)} (r : KT H kvs xs) (k : List Key) {b : Addr} {y : V} {u : Value} (hb : H b = some (.tup (k.map kV))) (ry : RelV y u) :
    KT H (putK kvs k y) (storedH xs k b u) := by
  have e : (kvs.any fun kv => decide (kv.1 = k)) = (atKey xs k).isSome := by
    rw [valV_any, (r.val k).isSome_eq, Option.isSome_map]
  unfold putK storedH
  rw [e]
  by_cases q : (atKey xs k).isSome = true
  · rw [if_pos q, if_pos q]; exact r.repl k ry
  · rw [if_neg q, if_neg q]; exact Paired.snoc r ⟨rfl, hb, ry⟩
theorem KT.keeps {H H' : Hp} {kvs : List (List Key × V)} {xs : List (List Key × Addr × Value)} (r : KT H kvs xs) (ht : ∀ b ys, H b = some (.tup ys) → H' b = some (.tup ys)) : KT H' kvs xs :=
  Paired.mapP r fun _ _ z => ⟨z.1, ht _ _ z.2.1, z.2.2⟩

section
variable {P : Program} {w : World} {H : Hp} {h : Heap} {a : Addr}
theorem rd_of {u : HO} (ok : HOk P w H h) (e : Rd H a u) : ObjOk P w H h a u := e.ok ok
theorem dk_rd {kvs : List (Key × V)} (ok : HOk P w H h) (e : Rd H a (.dK kvs)) : kvs.length ≤ sizeLine ∧ (a == sysModules) = false ∧ ∃ vs, KV kvs vs ∧ h.DictOf (mixKind P w) a vs :=
  show ObjOk P w H h a (.dK kvs) from rd_of ok e
theorem dk_of {kvs : List (Key × V)} (ok : HOk P w H h) (e : H a = some (.dK kvs)) : kvs.length ≤ sizeLine ∧ (a == sysModules) = false ∧ ∃ vs, KV kvs vs ∧ h.DictOf (mixKind P w) a vs := dk_rd ok (.inl e)
/-- a tracked tuple of ints and texts is a key -/
theorem key_of {ks : List Key} (ok : HOk P w H h) (e : H a = some (.tup (ks.map kV))) : (tupleKind (mixKind P w)).is h ks a := by
  obtain ⟨_, its, r, o, h1, h2, n, h3⟩ := (show ObjOk P w H h a (.tup (ks.map kV)) from ok a _ e)
  exact ⟨o, its.toArray, n, h1, h2, h3, by simpa using items_are r⟩
theorem dt_rd {kvs : List (List Key × V)} (ok : HOk P w H h) (e : Rd H a (.dT kvs)) : kvs.length ≤ sizeLine ∧ (a == sysModules) = false ∧
    ∃ xs, KT H kvs xs ∧ h.DictOfH (tupleKind (mixKind P w)) a xs := by
  obtain ⟨z, y, xs, r, o, es, ep, h1, h2, h3, h4, h5⟩ := (show ObjOk P w H h a (.dT kvs) from rd_of ok e)
  refine ⟨z, y, xs, r, o, es, ep, h1, h2, h3, h4, fun x hx => ?_, h5⟩
  have all : ∀ {l : List (List Key × V)} {m : List (List Key × Addr × Value)}, KT H l m → ∀ x ∈ m, (tupleKind (mixKind P w)).is h x.1 x.2.1 := by
    intro l m q
    induction q with
    | nil => intro x hx; exact nomatch hx
    | @cons p q ps qs hq t ih =>
      intro x hx
      rcases List.mem_cons.mp hx with e | hx
      · subst e
        exact key_of ok (by rw [← hq.1]; exact hq.2.1)
      · exact ih x hx
  exact all r x hx
theorem dt_of {kvs : List (List Key × V)} (ok : HOk P w H h) (e : H a = some (.dT kvs)) : kvs.length ≤ sizeLine ∧ (a == sysModules) = false ∧
    ∃ xs, KT H kvs xs ∧ h.DictOfH (tupleKind (mixKind P w)) a xs := dt_rd ok (.inl e)
end

/-- what the dict at a holds at the key y -/
def DGet (H : Hp) (a : Addr) (y : V) (r : Option V) : Prop :=
  (∃ kvs k, Rd H a (.dK kvs) ∧ y = kV k ∧ r = valV kvs k) ∨ ∃ kvs k b, Rd H a (.dT kvs) ∧ y = .ref b ∧ H b = some (.tup (k.map kV)) ∧ r = valV kvs k
/-- the heap behind a[y] = v -/
def DPut (H : Hp) (a : Addr) (y v : V) (H' : Hp) : Prop :=
  (∃ kvs k, H a = some (.dK kvs) ∧ y = kV k ∧ kvs.length < sizeLine ∧ H' = upd H a (.dK (putK kvs k v))) ∨
  ∃ kvs k b, H a = some (.dT kvs) ∧ y = .ref b ∧ H b = some (.tup (k.map kV)) ∧ kvs.length < sizeLine ∧ H' = upd H a (.dT (putK kvs k v))
theorem DGet.k {H : Hp} {a : Addr} {kvs : List (Key × V)} {k : Key} (e : H a = some (.dK kvs)) : DGet H a (kV k) (valV kvs k) := .inl ⟨kvs, k, .inl e, rfl, rfl⟩
theorem DPut.k {H : Hp} {a : Addr} {kvs : List (Key × V)} {k : Key} {v : V} (e : H a = some (.dK kvs)) (hl : kvs.length < sizeLine) : DPut H a (kV k) v (upd H a (.dK (putK kvs k v))) := .inl ⟨kvs, k, e, rfl, hl, rfl⟩
section
variable {X : Cx} {pins : List (Addr × Obj)} {σ : St} {H : Hp} {s : Shared} {a : Addr} {y v : V} {u r : Value} {o : Option V} {A : Around} {E : Value → Shared → Prop}

theorem Inv.big (I : Inv X pins σ H s) : sysModules < s.heap.objs.size := by
  have h : mainGlobals < s.heap.objs.size := (I.mod.glob.keeps I.bk).lt
  exact Nat.lt_trans (by decide) h

/-- a dict's object is replaced -/
theorem d_write {h' : Heap} {t' : Nat} {ob : HO} (I : Inv X pins σ H s) (mu : Mut (H a)) (hs : Heap.SameBut a s.heap h') (he : ∃ q, h'.get? a = some q) (new : ObjOk X.prog X.w (upd H a ob) h' a ob) :
    Inv X pins σ (upd H a ob) { s with heap := h', toks := t' } :=
  I.write (x := a) (e := a) mu (.inl rfl) (fun b q hb z => (hs.2 b hb).trans z) he new
theorem dk_new {P : Program} {w : World} {H' : Hp} {h' : Heap} {kvs : List (Key × V)} {vs : List (Key × Value)} (z : kvs.length ≤ sizeLine) (hd : (a == sysModules) = false) (rel : KV kvs vs) (dd : h'.DictOf (mixKind P w) a vs) :
    ObjOk P w H' h' a (.dK kvs) := ⟨z, hd, vs, rel, dd⟩
/-- d[y] = v -/
theorem d_setItem {H' : Hp} {Q : Unit → Shared → Prop} (hu : A.units + 1 < cLine) (I : Inv X pins σ H s) (g : DPut H a y v H') (ry : RelV y u) (rv : RelV v r) (h : ∀ s', Inv X pins σ H' s' → Q () s') :
    wpAny (model X.prog X.w) A (setItem (.ref a) u r) Q E s := by
  rcases g with ⟨kvs, k, e, ey, l, eH⟩ | ⟨kvs, k, b, e, ey, eb, l, eH⟩
  · subst ey eH
    obtain ⟨z, hd, vs, rel, dd⟩ := dk_of I.hok e
    have hz : vs.length ≤ sizeLine := by rw [← rel.length]; exact z
    have hl : (putK kvs k v).length ≤ sizeLine := by have := length_putK kvs k v; omega
    refine wpAny_setItem_pairs (hsz := hz) (kV_is ry) dd fun h' dd' hs => h _ ?_
    have he : ∃ q, h'.get? a = some q := let ⟨q, _, _, hq, _⟩ := dd'; ⟨q, hq⟩
    exact d_write I (by rw [e]; exact True.intro) hs he (dk_new hl hd (rel.put k rv) dd')
  · subst ey eH
    cases (show u = Value.ref b from ry)
    obtain ⟨z, hd, xs, rel, dd⟩ := dt_of I.hok e
    have hz : xs.length ≤ sizeLine := by rw [← Paired.length rel]; exact z
    have hl : (putK kvs k v).length ≤ sizeLine := by have := length_putK kvs k v; omega
    refine wpAny_setItem_heap (hsz := hz) (tupleKind_room_in1 hu) (key_of I.hok eb) dd fun h' dd' hs => h _ ?_
    obtain ⟨q, es, ep, hq, h2, h3, h4, _, h5⟩ := dd'
    refine d_write I (by rw [e]; exact True.intro) hs ⟨q, hq⟩ ⟨hl, hd, _, (rel.put k eb rv).keeps fun c ys ec => ?_, q, es, ep, hq, h2, h3, h4, h5⟩
    rw [upd_ne (ne_of ec e (fun z => nomatch z))]
    exact ec
end

section
variable {X : Cx} {pins : List (Addr × Obj)} {σ : St} {H : Hp} {s : Shared} {a : Addr} {kvs : List (Key × V)} {k : Key} {u : Value} {A : Around} {E : Value → Shared → Prop}
/-- d.pop(k[, x]), there -/
theorem d_pop {v : V} {more : List Value} {Q : Value → Shared → Prop} (I : Inv X pins σ H s) (e : H a = some (.dK kvs)) (ry : RelV (kV k) u) (l : valV kvs k = some v) (hm : more = [] ∨ ∃ x, more = [x])
    (h : ∀ w' s', Inv X pins σ (upd H a (.dK (dropK kvs k))) s' → RelV v w' → Q w' s') : wpAny (model X.prog X.w) A (call (.builtin "dict.pop") (.ref a :: u :: more)) Q E s := by
  obtain ⟨z, hd, vs, rel, dd⟩ := dk_of I.hok e
  obtain ⟨w', hw, rw'⟩ := RelO.some_of (v := v) (o := valueAt vs k) (by rw [← l]; exact rel.val k)
  have hp : (keyPart u).isSome = true := by
    cases k with
    | inl i => obtain ⟨t, q⟩ := (show ∃ t, u = Value.int i t from ry); subst q; rfl
    | inr x => obtain ⟨t, q⟩ := (show ∃ t, u = Value.str x t from ry); subst q; rfl
  have ha : argsOk "dict.pop" ⟨.ref a :: u :: more, []⟩ := by
    rcases hm with q | ⟨x, q⟩
    · subst q; exact PySem.F.args_dict_pop_2 _ _
    · subst q; exact PySem.F.args_dict_pop_3 _ _ _
  refine call_meetsIn PySem.F.slot_dict_pop dd.typeIs PySem.F.entry_dict_pop ha (meets_dict_pop_there (mixKind X.prog X.w) a (kV_is ry) more hm hp)
    ⟨vs, w', dd, by rw [← rel.length]; exact z, hw, fun h' dd' hs => h w' _ ?_ rw'⟩
  have he : ∃ q, h'.get? a = some q := let ⟨q, _, _, hq, _⟩ := dd'; ⟨q, hq⟩
  exact d_write I (by rw [e]; exact True.intro) hs he (dk_new (Nat.le_trans (dropK_le kvs k) z) hd (rel.drop k) dd')
/-- d.pop(k, x), not there -/
theorem d_popD {r : Value} {Q : Value → Shared → Prop} (I : Inv X pins σ H s) (e : H a = some (.dK kvs)) (ry : RelV (kV k) u) (l : valV kvs k = none) (h : ∀ s', Inv X pins σ H s' → Q r s') :
    wpAny (model X.prog X.w) A (call (.builtin "dict.pop") [.ref a, u, r]) Q E s := by
  obtain ⟨z, hd, vs, rel, dd⟩ := dk_of I.hok e
  have hn : valueAt vs k = none := RelO.none_of (by rw [← l]; exact rel.val k)
  have hp : (keyPart u).isSome = true := by
    cases k with
    | inl i => obtain ⟨t, q⟩ := (show ∃ t, u = Value.int i t from ry); subst q; rfl
    | inr x => obtain ⟨t, q⟩ := (show ∃ t, u = Value.str x t from ry); subst q; rfl
  exact call_meetsIn PySem.F.slot_dict_pop dd.typeIs PySem.F.entry_dict_pop (PySem.F.args_dict_pop_3 _ _ _) (meets_dict_pop_default (mixKind X.prog X.w) a (kV_is ry) hd hp r) ⟨vs, dd, hn, h _ (I.tok _)⟩
end


/-! ### readings and rules -/
/-- d[y] = v -/
def sDPut (td ty tv : TE) : TS := fun D σ H => tv σ H fun v H1 => td σ H1 fun x H2 => ty σ H2 fun y H3 => ∃ a H4, x = .ref a ∧ DPut H3 a y v H4 ∧ D.nx σ H4
section
variable {X : Cx} {o i e value : Expr} {pos pos' tpos : Pos} {td ty tv : TE}
theorem ps_dput (hu : X.A.units + 1 < cLine) (ho : PE X o td) (hi : PE X i ty) (hv : PE X value tv) (hs : swapsWith value (some (.Subscript o i pos')) pos.line X.env = pure false) :
    PS X (.Assign [.Subscript o i pos'] value pos) (sDPut td ty tv) := by
  intro pins s σ H D I h
  refine wpAny_Assign_Subscript (thn (hv pins s σ H _ I h) fun r s1 ⟨v, H1, I1, rv, q1⟩ => thn (ho pins s1 σ H1 _ I1 q1) fun u s2 ⟨x, H2, I2, rx, q2⟩ => thn (hi pins s2 σ H2 _ I2 q2) fun iv s3 ⟨y, H3, I3, ry, a, H4, ex, g, q3⟩ => ?_) hs
  subst ex
  obtain rfl : u = Value.ref a := rx
  exact d_setItem hu I3 g ry rv fun s4 I4 => ⟨σ, H4, I4, q3⟩
end


/-! ### displays -/
theorem dk_empty {P : Program} {w : World} {H : Hp} (h : Heap) (hb : sysModules < h.objs.size) : ObjOk P w H (h.push { cls := .type "dict", data := .dict #[] }) h.objs.size (.dK []) :=
  ⟨Nat.zero_le _, beq_eq_false_iff_ne.mpr (Ne.symm (Nat.ne_of_lt hb)), [], .nil, Heap.DictOf.new h⟩
section
variable {X : Cx} {pos : Pos}
end

/-! ### methods -/
structure M2 (X : Cx) (o : Expr) (m : Str) (apos : Pos) (e f : Expr) (cpos : Pos) : Prop where
  base : attributeBase o m X.env (eval o X.env) = eval o X.env
  few : ((backTo cpos (starEach [e, f] X.env)).all (fun x => !x.1) && (backToKw cpos (keywordEach [] X.env)).all (fun x => x.1.isSome)
    && decide (([e, f] : List Expr).length + ([] : List Keyword).length + (if ([] : List Keyword).isEmpty then 0 else 1) < 30)) = true
  line : (apos.endLine == cpos.line) = true
  trees : backTo cpos (starEach [e, f] X.env) = [(false, eval e X.env), (false, eval f X.env)]

/-- a is a dict, whatever its keys -/
def IsD (H : Hp) (a : Addr) : Prop := (∃ kvs, Rd H a (.dK kvs)) ∨ ∃ kvs, Rd H a (.dT kvs)
theorem isD_at {X : Cx} {pins : List (Addr × Obj)} {σ : St} {H : Hp} {s : Shared} {a : Addr} (I : Inv X pins σ H s) (d : IsD H a) :
    s.TypeIs (.ref a) "dict" ∧ (∀ b, Value.ref a = .ref b → ∃ ob, s.heap.get? b = some ob ∧ ob.dict = none) ∧ (a == sysModules) = false := by
  rcases d with ⟨kvs, e⟩ | ⟨kvs, e⟩
  · obtain ⟨_, hd, vs, _, dd⟩ := dk_rd I.hok e
    refine ⟨dd.typeIs, fun b q => ?_, hd⟩
    cases q
    obtain ⟨ob, _, _, h1, h2, _⟩ := dd
    exact ⟨ob, h1, h2.2.1⟩
  · obtain ⟨_, hd, xs, _, dd⟩ := dt_rd I.hok e
    refine ⟨dd.typeIs, fun b q => ?_, hd⟩
    cases q
    obtain ⟨ob, _, _, h1, h2, _⟩ := dd
    exact ⟨ob, h1, h2.2.1⟩

section
variable {X : Cx} {pins : List (Addr × Obj)} {σ : St} {H : Hp} {s : Shared} {a : Addr} {y d : V} {u r : Value} {o : Option V} {A : Around} {E : Value → Shared → Prop}
/-- d.get(y, x) -/
theorem d_get2 {Q : Value → Shared → Prop} (hu : A.units + 1 < cLine) (I : Inv X pins σ H s) (g : DGet H a y o) (ry : RelV y u) (rd : RelV d r) (h : ∀ w' s', Inv X pins σ H s' → RelV (o.getD d) w' → Q w' s') :
    wpAny (model X.prog X.w) A (call (.builtin "dict.get") [.ref a, u, r]) Q E s := by
  rcases g with ⟨kvs, k, e, ey, l⟩ | ⟨kvs, k, b, e, ey, eb, l⟩
  · subst ey
    obtain ⟨z, hd, vs, rel, dd⟩ := dk_rd I.hok e
    refine call_meetsIn PySem.F.slot_dict_get dd.typeIs PySem.F.entry_dict_get (PySem.F.args_dict_get_3 _ _ _) (meets_dict_get_default (mixKind X.prog X.w) a (kV_is ry) hd r) ⟨_, dd.mapOf, h _ _ (I.tok _) ?_⟩
    rw [l]
    exact (rel.val k).getD rd
  · subst ey
    cases (show u = Value.ref b from ry)
    obtain ⟨z, hd, xs, rel, dd⟩ := dt_rd I.hok e
    refine call_meetsIn PySem.F.slot_dict_get dd.typeIs PySem.F.entry_dict_get (PySem.F.args_dict_get_3 _ _ _) (meetsH_dict_get_default (tupleKind (mixKind X.prog X.w)) a b hd r) ⟨tupleKind_room_in1 hu, k, xs, key_of I.hok eb, dd, h _ _ (I.tok _) ?_⟩
    rw [l]
    exact (rel.val k).getD rd
end

def tDGet2 (td ty tx : TE) : TE := fun σ H Q => td σ H fun x H1 => ∃ a, x = .ref a ∧ IsD H1 a ∧ ty σ H1 fun y H2 => tx σ H2 fun z H3 => ∃ o, DGet H3 a y o ∧ Q (o.getD z) H3
def tDPop2 (td ty tx : TE) : TE := fun σ H Q => td σ H fun x H1 => ∃ a, x = .ref a ∧ IsD H1 a ∧ ty σ H1 fun y H2 => tx σ H2 fun z H3 => ∃ kvs k, H3 a = some (.dK kvs) ∧ y = kV k ∧
  (∀ v, valV kvs k = some v → Q v (upd H3 a (.dK (dropK kvs k)))) ∧ (valV kvs k = none → Q z H3)
section
variable {X : Cx} {o e f : Expr} {apos cpos : Pos} {td ty tx : TE}
theorem pe_dget2 (hu : X.A.units + 1 < cLine) (ho : PE X o td) (he : PE X e ty) (hf : PE X f tx) (m : M2 X o "get" apos e f cpos) : PE X (.Call (.Attribute o "get" apos) [e, f] [] cpos) (tDGet2 td ty tx) := by
  intro pins s σ H Q I h
  refine wpAny_Call_method m.base m.few m.line PySem.F.plainAttrs_dict PySem.F.slot_dict_get PySem.F.type_dict_get (thn (ho pins s σ H _ I h) fun u s1 ⟨x, H1, I1, rx, a, ex, d, q1⟩ => ?_)
  subst ex
  obtain rfl : u = Value.ref a := rx
  obtain ⟨t1, t2, _⟩ := isD_at I1 d
  refine ⟨t1, t2, ?_⟩
  rw [m.trees]
  refine Calls.callWith_builtin rfl (Calls.evalArgs_plain (Calls.spliced_cons (thn (he pins s1 σ H1 _ I1 q1) fun iv s2 ⟨y, H2, I2, ry, q2⟩ =>
    Calls.spliced_cons (thn (hf pins s2 σ H2 _ I2 q2) fun fv s3 ⟨z, H3, I3, rz, ov, g, q3⟩ => Calls.spliced_nil ?_))))
  exact d_get2 hu I3 g ry rz fun w' s4 I4 rw' => ⟨_, H3, I4, rw', q3⟩
theorem pe_dpop2 (ho : PE X o td) (he : PE X e ty) (hf : PE X f tx) (m : M2 X o "pop" apos e f cpos) : PE X (.Call (.Attribute o "pop" apos) [e, f] [] cpos) (tDPop2 td ty tx) := by
  intro pins s σ H Q I h
  refine wpAny_Call_method m.base m.few m.line PySem.F.plainAttrs_dict PySem.F.slot_dict_pop PySem.F.type_dict_pop (thn (ho pins s σ H _ I h) fun u s1 ⟨x, H1, I1, rx, a, ex, d, q1⟩ => ?_)
  subst ex
  obtain rfl : u = Value.ref a := rx
  obtain ⟨t1, t2, _⟩ := isD_at I1 d
  refine ⟨t1, t2, ?_⟩
  rw [m.trees]
  refine Calls.callWith_builtin rfl (Calls.evalArgs_plain (Calls.spliced_cons (thn (he pins s1 σ H1 _ I1 q1) fun iv s2 ⟨y, H2, I2, ry, q2⟩ =>
    Calls.spliced_cons (thn (hf pins s2 σ H2 _ I2 q2) fun fv s3 ⟨z, H3, I3, rz, kvs, k, ea, ey, q3, q4⟩ => Calls.spliced_nil ?_))))
  subst ey
  cases l : valV kvs k with
  | some v => exact d_pop I3 ea ry l (.inr ⟨fv, rfl⟩) fun w' s4 I4 rw' => ⟨v, _, I4, rw', q3 v l⟩
  | none => exact d_popD I3 ea ry l fun s4 I4 => ⟨z, H3, I4, rz, q4 l⟩
end

/-! ### dict(d): a copy -/
section
variable {X : Cx} {pins : List (Addr × Obj)} {σ : St} {H : Hp} {s : Shared} {a : Addr} {kvs : List (Key × V)} {A : Around} {E : Value → Shared → Prop}
end


section
variable {X : Cx} {pins : List (Addr × Obj)} {σ : St} {H : Hp} {s : Shared} {a : Addr} {y : V} {u : Value} {A : Around} {E : Value → Shared → Prop}
end
end L2

namespace Att
open PySem PySem.W PySem.Calls PyProof.Rows

/-! ### the script -/
theorem ints_of_wellAll {P : Params} {h : Heap} : ∀ (ns : List Int) (vs : List Value), WellAll P h vs (ns.map WData.int) → IntsAre vs ns := by
  intro ns
  induction ns with
  | nil =>
    intro vs w
    rw [List.map_nil] at w
    cases w
    exact .nil
  | cons n ns ih =>
    intro vs w
    rw [List.map_cons] at w
    cases w with
    | cons a b =>
      cases a
      exact .cons _ _ (ih _ b)

theorem script_of {l : OpenLaw} {n : Nat} (hn : l.most = some n) {P : Params} {h : Heap} {args : List WData} {vals : List Value}
    (hpre : l.row.toRowW.claim.pre args = true) (hwl : WellAll P h vals args) :
    ∃ a vs ns, vals = [Value.ref a] ∧ args = [WData.list (ns.map WData.int)] ∧ h.get? a = some { cls := .type "list", data := .seq vs.toArray } ∧ IntsAre vs ns ∧ ns.length ≤ n := by
  have hsh : WShape.hasAll [] args [.list .int] = true := (pre_splitW hpre).1
  have hc : l.pre.holds [] { args := args } = true := (pre_splitW hpre).2
  obtain ⟨d, r, rfl, h1, h2⟩ := hasAllW_cons hsh
  obtain rfl := hasAllW_nil h2
  obtain ⟨xs, rfl, h3⟩ := hasW_list h1
  obtain ⟨ns, rfl⟩ := items_int h3
  have hlen : ns.length ≤ n := by
    unfold OpenLaw.pre at hc
    have h4 : (WTm.not (.lt (.lit (.int (n : Int))) (.len (.arg 0)))).holds [] { args := [.list (ns.map .int)] } = true := by
      have h4 := (holds_andW hc).1
      rw [hn] at h4
      exact h4
    have h5 := condW_of h4 (w_not (w_lt w_lit (w_len_list (w_arg rfl))))
    rw [List.length_map] at h5
    refine Nat.le_of_not_lt fun q => ?_
    have q' : (n : Int) < ((ns.length : Nat) : Int) := by omega
    first
      | (rw [decide_eq_true q'] at h5; exact absurd h5 (by decide))
      | (simp at h5; omega)
  cases hwl with
  | cons w1 w2 =>
    cases w2
    cases w1 with
    | list ho hall => exact ⟨_, _, ns, rfl, rfl, ho, ints_of_wellAll ns _ hall, hlen⟩

theorem post_true (l : OpenLaw) (args : List WData) : l.row.toRowW.claim.post args (.bool true) args = true :=
  postW_of (r := l.row.toRowW) (X := (true == true))
    (show WShape.has [] (.bool true) .bool = true by first | rfl | decide | simp [WShape.has, WShape.arms, WShape.armsAll])
    (show (WTm.eq .res (.lit (.bool true))).value [] { args := args, res := some (.bool true), after := args } = some (.bool (true == true)) from w_eq_bool (w_res rfl) w_lit) rfl

/-! ### the attachment: holds_open's last premise (the goal 'hc' behind k_head) from a wpAny of the law's body -/
/-- the same from a codeAny of the CALL (for a layer whose function contracts speak of calls) -/
theorem attach_call {l : OpenLaw} {n : Nat} {q : Program} {loose : List Str} {XP : (Str → Option Value) → Heap → Prop} {YP : World → Heap → Prop} {d : DefRec}
    (hn : l.most = some n) (hdf : d.params.defaults = [])
    (call : ∀ (w : World) (s₀ s₁ : Shared) (mg mb : Str → Option Value) (fa : Addr) (o : Obj) (pm cd doc : Value) (a : Addr) (vs : List Value) (ns : List Int),
      Ground q loose [] XP w s₀ mg mb s₁.heap → YP w s₁.heap →
      s₁.heap.get? fa = some o → o.data = .func (docDef d.name d.params d.body d.scope pm cd doc) → s₁.heap.CodeRec cd d.name → mg d.name = some (.ref fa) →
      s₁.heap.get? a = some { cls := .type "list", data := .seq vs.toArray } → IntsAre vs ns → ns.length ≤ n → s₁.gens = #[] →
      codeAny (model l.prog w) callerA (.call (.ref fa) ⟨[.ref a], []⟩) (fun r s' => r = .ok (.ret (.bool true)) ∧ OldK s₁.heap s'.heap ∧ s'.os = s₁.os ∧ AllBare s'.gens) s₁) :
    WalkO q loose XP YP l.row.toRowW d [] (fun f vs => PySem.call f vs) := by
  intro w s₀ s₁ mg mb G Y fa o pm cd doc dV kV ho hd hcd hD hmg hg args vals as hpre hlay hrd hwl hlo
  obtain rfl : dV = .none := Dflts.none hD hdf
  obtain rfl : kV = .none := Dflts.noKw hD
  obtain ⟨a, vs, ns, rfl, rfl, hobj, hints, hlen⟩ := script_of hn hpre hwl
  refine enter_call (codeAny_mono (call w s₀ s₁ mg mb fa o pm cd doc a vs ns G Y ho (fd_plain hd) hcd hmg hobj hints hlen hg) fun r s' hq => ?_)
  obtain ⟨rfl, h2, h3, h4⟩ := hq
  exact ⟨.inl ⟨.bool true, .bool true, [], rfl, fun _ => rfl, .bool true, post_true l _, fun _ => ⟨List.Pairwise.nil, fun _ hm => (nomatch hm)⟩⟩, h2, h3, h4⟩

/-! ### rules over ANY heap (no ledger) from facts about the written part K: the library's own take a ledger (News) for what they write -/
section
variable {prog : Program} {w : World} {A : Around} {E : Value → Shared → Prop} {s : Shared} {K : Frag}

/-! the whole heap as the ledger: makes every rule that writes through a ledger a rule over any heap -/
end
end Att

namespace L2
open PySem PySem.Spec PyProof.Rows

theorem vals_ints : ∀ {vs : List Value} {ns : List Int}, IntsAre vs ns → Vals (ns.map V.int) vs
  | _, _, .nil => .nil
  | _, _, .cons n t h => .cons ⟨t, rfl⟩ (vals_ints h)

/-- nothing is tracked but the script, known to the object (or it is an object of the module) -/
def Only (H : Hp) : Prop := ∀ b, H b = none ∨ ∃ o xs, H b = some (.frz o (.lst xs))

/-- THE HEAD: the law's promise, at the heap behind the top. F, the promise of the law's def, may use that base is part of the heap (so K.In base, base.Ns mainGlobals mg stand in Mod) -/
theorem law_call {P : Program} {w : World} {K : PySem.W.Frag} {mg mb : Str → Option Value} {CX : CXT} {k : Nat} {fa a : Addr} {fd : FuncData} {x : Str} {sp : Sp} {s₁ : Shared} {vs : List Value} {ns : List Int}
    (KX : K.In s₁.heap) (hns : s₁.heap.Ns mainGlobals mg) (hb : s₁.heap.Ns builtinsNs mb) (hbb : ∀ x : Str, x ≠ "__name__" → mb x = bootBuiltins x) (hlim : s₁.heap.NoLimit) (hg : s₁.gens = #[])
    (ha : s₁.heap.get? a = some { cls := .type "list", data := .seq vs.toArray }) (hi : IntsAre vs ns) (hl : ns.length ≤ sizeLine) (hr : Room k callerA)
    (F : ∀ base : Heap, K.In base → base.Ns mainGlobals mg → FnOk P w K mg base CX k fa fd [x] sp) (hbind : ∀ (s : Shared) (u : Value), BindsTo s fd ⟨[u], []⟩ [(x, u)])
    (hsp : ∀ H : Hp, Only H → SqL K H a (ns.map V.int) → sp [.ref a] H (fun v _ => v = .bl true) fun _ _ _ => False)
    (hCX : ∀ H e s', CX [] H s₁ (fun _ _ _ => False) e s' → False) :
    codeAny (model P w) callerA (.call (.ref fa) ⟨[.ref a], []⟩) (fun r s' => r = .ok (.ret (.bool true)) ∧ OldK s₁.heap s'.heap ∧ s'.os = s₁.os ∧ AllBare s'.gens) s₁ := by
  have rv := vals_ints hi
  have lenV := hi.length
  -- from an abstract heap in which nothing but the script may be tracked
  have core : ∀ H : Hp, Only H → SqL K H a (ns.map V.int) → HOk P w H s₁.heap → (∀ b, H b ≠ none → b = a) → (H a ≠ none → K.lookup a = none) →
      codeAny (model P w) callerA (.call (.ref fa) ⟨[.ref a], []⟩) (fun r s' => r = .ok (.ret (.bool true)) ∧ OldK s₁.heap s'.heap ∧ s'.os = s₁.os ∧ AllBare s'.gens) s₁ := by
    intro H hO hS hok hA hK
    have base_of : ∀ {b : Addr} {o : Obj}, s₁.heap.get? b = some o → H b = none → (hidT s₁.heap H).get? b = some o := fun e n => hidT_get e n
    have noA : ∀ {b : Addr} {o : Obj} {es : Array DictEntry} {ep : Nat}, s₁.heap.get? b = some o → o.data = .dict es ep → H b = none := fun {b o es ep} e d => by
      cases q : H b with
      | none => rfl
      | some u =>
        have e' : b = a := hA b (by rw [q]; simp)
        subst e'
        rw [ha] at e; cases e
        have d' : Data.seq vs.toArray _ = Data.dict es ep := d
        cases d'
    have nsK : ∀ {b : Addr} {m : Str → Option Value}, s₁.heap.Ns b m → (hidT s₁.heap H).Ns b m := fun {b m} ⟨o, es, ep, e, d, r⟩ => ⟨o, es, ep, base_of e (noA e d), d, r⟩
    have hKb : K.In (hidT s₁.heap H) := fun b o e => base_of (KX b o e) (by
      cases q : H b with
      | none => rfl
      | some u =>
        have e' : b = a := hA b (by rw [q]; simp)
        subst e'
        rw [hK (by rw [q]; simp)] at e; cases e)
    have hM : Mod K mg (hidT s₁.heap H) := ⟨hKb, nsK hns, ⟨mb, nsK hb, hbb⟩, let ⟨mc, h1, h2⟩ := hlim; ⟨mc, nsK h1, h2⟩⟩
    have e0 : Env0 P w K mg (hidT s₁.heap H) callerA [] s₁ H := ⟨rfl, hM, fun b o e => of_hidT e, Nat.le_of_eq (hidT_size _ _), trivial, fun b hb => absurd (show b ∈ ([] : List Addr) from hb) (by simp), hok, .of_eq hg⟩
    refine codeAny_mono ((F _ hKb (nsK hns)).run callerA [] s₁ H ⟨[.ref a], []⟩ [.ref a] [.ref a] _ _ hr e0 (hbind s₁ (.ref a)) (.cons rfl .nil) (hsp H hO hS)) fun r s' h => ?_
    cases r with
    | error e => exact (hCX H e s' h).elim
    | ok fl =>
      cases fl with
      | next => exact False.elim h
      | brk => exact False.elim h
      | cont => exact False.elim h
      | ret u =>
        obtain ⟨v, H', os, bare, un, hok', r', q⟩ := h
        have q' : v = .bl true := q
        subst q'
        obtain rfl : u = Value.bool true := r'
        refine ⟨rfl, OldK.of_keep fun b o e => ?_, os, bare⟩
        cases q : H b with
        | none => exact un.keep b o e q (by intro z; exact absurd (show b ∈ ([] : List Addr) from z) (by simp)) (by simp)
        | some u =>
          rcases hO b with z | ⟨ob, xs, z⟩
          · rw [q] at z; cases z
          · have z2 := un.frzs b ob _ z
            obtain ⟨e1, _⟩ := hok b _ z
            obtain ⟨e2, _⟩ := hok' b _ z2
            rw [e] at e1; cases e1
            exact e2
  cases hk : K.lookup a with
  | some o =>
    -- the script is one of the module's own objects
    have e := KX a o hk
    rw [ha] at e
    cases e
    refine core (fun _ => none) (fun _ => .inl rfl) (.inr ⟨_, vs.toArray, _, hk, rfl, rfl, rfl, by rw [List.size_toArray, lenV]; exact hl, by simpa using rv⟩) (fun b u z => by have z' : (none : Option HO) = some u := z; cases z') (fun b z => absurd rfl z) fun z => absurd rfl z
  | none =>
    refine core (fun b => if b = a then some (.frz { cls := .type "list", data := .seq vs.toArray } (.lst (ns.map V.int))) else none) (fun b => ?_) (.inl (.inr ⟨{ cls := .type "list", data := .seq vs.toArray }, if_pos rfl⟩)) (fun b u z => ?_) (fun b z => ?_) fun _ => hk
    · by_cases hb : b = a
      · exact .inr ⟨_, _, if_pos hb⟩
      · exact .inl (if_neg hb)
    · by_cases hb : b = a
      · have z' := (if_pos hb).symm.trans z
        cases z'
        subst hb
        exact ⟨ha, by rw [List.length_map]; exact hl, vs, _, rv, ha⟩
      · have z' := (if_neg hb).symm.trans z
        cases z'
    · by_cases hb : b = a
      · exact hb
      · exact absurd (if_neg hb) z
end L2

namespace L2
open PySem PySem.Spec PyProof.Rows

/-- the goal that k_head leaves (case hc), from the law's promise. F gives the function object fd (K's own) once, then the promise over every base -/
theorem walk_of {l : PySem.W.OpenLaw} {n k : Nat} {q : Program} {loose : List Str} {XP : (Str → Option Value) → Heap → Prop} {YP : World → Heap → Prop} {d : DefRec} {K : Params → PySem.W.Frag} {CX : World → CXT} {sp : World → Sp} {x : Str}
    (hn : l.most = some n) (hn2 : n ≤ sizeLine) (hdf : d.params.defaults = []) (hr : Room k callerA)
    (hY : ∀ (w : World) (h : Heap), YP w h → (K w.params).In h)
    (F : ∀ (w : World) (mg : Str → Option Value) (fa : Addr) (h : Heap), (K w.params).In h → h.Ns mainGlobals mg → mg d.name = some (.ref fa) →
      ∃ fd : FuncData, (∀ (s : Shared) (u : Value), BindsTo s fd ⟨[u], []⟩ [(x, u)]) ∧
        ∀ base : Heap, (K w.params).In base → base.Ns mainGlobals mg → FnOk l.prog w (K w.params) mg base (CX w) k fa fd [x] (sp w))
    (hsp : ∀ (w : World) (H : Hp) (a : Addr) (ns : List Int), ns.length ≤ n → Only H → SqL (K w.params) H a (ns.map V.int) → sp w [.ref a] H (fun v _ => v = .bl true) fun _ _ _ => False)
    (hCX : ∀ (w : World) (H : Hp) (s : Shared) (e : Value) (s' : Shared), CX w [] H s (fun _ _ _ => False) e s' → False) :
    PySem.W.WalkO q loose XP YP l.row.toRowW d [] (fun f vs => PySem.call f vs) := by
  refine Att.attach_call hn hdf fun w s₀ s₁ mg mb fa o pm cd doc a vs ns G Y ho hd hcd hmg hobj hints hlen hg => ?_
  have KX := hY w _ Y
  obtain ⟨fd, hb, hF⟩ := F w mg fa _ KX G.T.g hmg
  exact law_call KX G.T.g G.T.b G.T.builtins G.T.nolimit hg hobj hints (Nat.le_trans hlen hn2) hr hF hb (fun H hO hS => hsp w H a ns hlen hO hS) fun H e s' => hCX w H s₁ e s'
end L2

/- THE LAST THEOREM (shape; LID, My.* are yours):
   My.Adr: a structure of the addresses that your layer names (classes, functions); My.Txt K t: a structure (Prop) of the equations over K;
   My.txt_mk : {K} {implicit addresses ..} (e1 : nsIn K mainGlobals "law" = some (some (.ref f))) (e2 : K.lookup f = some ⟨oc, od, .func (fnOf "law" "law" params body scope dV kV doc pm an cdv ct), sl⟩) (e3 : codeIn K cdv "law" = true) .. : ∃ t, My.Txt K t

set_option maxRecDepth 100000 in
set_option maxHeartbeats 0 in
theorem PySem.Challenge.cw_LID_holds : PySem.Challenge.rw_LID.Holds := by
  w_on; o_law; k_head; (case hw => w_witness2)
  k_fill
  refine L2.walk_of (l := PySem.Challenge.rw_LID) (n := 63) (k := 40) (x := "script") (CX := fun w => ..) (sp := fun _ => My.sp_law) rfl (by decide) rfl ⟨rfl, by decide, by decide⟩ (fun w h Y => PySem.W.kIn_of Y) ?F ?S ?C
  case F =>
    intro w mg fa h KX G hmg
    have T : ∃ t, My.Txt (L2.KOf KX) t := by
      dsimp only [L2.KOf]                          -- K must stand as «<heap const> w.params» for k_is
      refine' My.txt_mk ?e1 ?e2 ?e3 ..
      (case e1 => PySem.W.k_is)                    -- in the order: a name -> its address -> its object -> its parts
      (case e2 => PySem.W.k_is)
      ..
    obtain ⟨t, T⟩ := T
    have e0 := hmg.symm.trans (PySem.W.mg_of KX G T.law)
    cases e0                                       -- fa is the law's own address
    exact ⟨_, fun s u => .of_eq rfl, fun base kb nb => My.law_fn T kb nb⟩     -- if «.of_eq rfl» comes too early: refine' ⟨_, ?b, fun base kb nb => My.law_fn T kb nb⟩; exact fun s u => .of_eq rfl
  case S => exact fun w H a ns hl hO hS => ..
  case C => exact ..
(the tactic k_is has no namespace: write k_is) -/

/-! SHORT WORDS over the layer: a def of the text, its body, what a loop and a test want. -/
namespace L2
open PySem PySem.Spec PyProof.Rows

/-! ### the text by places -/
/-- the j-th statement of a class's body -/
def inClass (s : Stmt) (j : Nat) : Stmt := match s with
  | .ClassDef _ _ _ body _ _ _ _ _ _ _ => body.getD j (.Pass ⟨0, 0, 0, 0⟩)
  | _ => .Pass ⟨0, 0, 0, 0⟩
def defArgs (s : Stmt) : Arguments := match s with
  | .FunctionDef _ a _ _ _ _ _ _ _ _ => a
  | _ => { posonlyargs := [], args := [], vararg := none, kwonlyargs := [], kw_defaults := [], kwarg := none, defaults := [] }
def defBody (s : Stmt) : List Stmt := match s with
  | .FunctionDef _ _ b _ _ _ _ _ _ _ => b
  | _ => []
def defScope (s : Stmt) : Scope := match s with
  | .FunctionDef _ _ _ _ _ _ sc _ _ _ => sc
  | _ => { kind := .function, names := [], isGenerator := false, isCoroutine := false }

/-! ### no exception leaves a def -/
abbrev CX0 : CXT := fun _ _ _ _ _ _ => False
abbrev E0 : XK := fun _ _ _ => False
theorem pass0 {X : Cx} : Passes CX0 X E0 := fun _ _ _ _ _ _ _ h => h.elim

/-! ### a def (or method) of the text as it stands behind the top -/
structure Fun (K : PySem.W.Frag) (x qual : Str) (st : Stmt) (f : Addr) (fd : FuncData) : Prop where
  ex : ∃ (oc : Value) (od : Option Addr) (kV doc pm : Value) (an : Option Addr) (cdv ct : Value) (osl : Array (Option Value)),
    fd = PySem.W.fnOf x qual (defArgs st) (defBody st) (defScope st) .none kV doc pm an cdv ct ∧ K.lookup f = some ⟨oc, od, .func fd, osl⟩ ∧ PySem.W.codeIn K cdv qual = true
  kp : PySem.W.keepIn K (.ref f) = true
section
variable {P : Program} {w : World} {K : PySem.W.Frag} {mg : Str → Option Value} {base : Heap}
/-- THE RULE for a def: its body as a term of rules, and the reading of that term -/
theorem Fun.ok {x qual : Str} {st : Stmt} {f : Addr} {fd : FuncData} {N ps : List Str} {k : Nat} {sp : Sp} (F : Fun K x qual st f fd) (S : FnScope N ps (defScope st)) (len : ∀ vs H Q E, sp vs H Q E → vs.length = ps.length)
    (hbody : ∀ (cdv : Value) (A : Around) (outer : List Env) (s : Shared) (H : Hp) (vs : List V) (Q : VK) (E : XK), Room k (A.deeper (envOfC qual (defScope st) s.heap.objs.size f cdv)) → sp vs H Q E →
      ∃ t, PSs (cxOf CX0 P w K mg base N qual (defScope st) f cdv A outer s H E).nox (defBody st) t ∧ t { nx := fun _ H' => Q .non H', rt := Q } (start N vs) H) : FnOk P w K mg base CX0 (k + 1) f fd ps sp := by
  obtain ⟨oc, od, kV, doc, pm, an, cdv, ct, osl, rfl, lk, hcd⟩ := F.ex
  refine fn_of lk hcd S len fun A outer s H vs Q E hr hsp => ?_
  obtain ⟨t, h, q⟩ := hbody cdv A outer s H vs Q E hr hsp
  exact ⟨t, h.nox, q⟩
/-- how its arguments bind (no defaults): h is «fun _ _ _ _ _ _ us hl => match us, hl with | [_, _], _ => rfl», one _ a parameter -/
theorem Fun.binds {x qual : Str} {st : Stmt} {f : Addr} {fd : FuncData} {ps : List Str} (F : Fun K x qual st f fd)
    (h : ∀ (kV doc pm : Value) (an : Option Addr) (cdv ct : Value) (us : List Value), us.length = ps.length → bindArgs (PySem.W.fnOf x qual (defArgs st) (defBody st) (defScope st) .none kV doc pm an cdv ct) ⟨us, []⟩ = pure (ps.zip us)) : Binds K fd ps [] := by
  obtain ⟨oc, od, kV, doc, pm, an, cdv, ct, osl, rfl, lk, hcd⟩ := F.ex
  exact .all (h kV doc pm an cdv ct)
theorem fun_mk {x qual : Str} {st : Stmt} {f : Addr} {oc : Value} {od an : Option Addr} {osl : Array (Option Value)} {kV doc pm cdv ct : Value} (l : K.lookup f = some ⟨oc, od, .func (PySem.W.fnOf x qual (defArgs st) (defBody st) (defScope st) .none kV doc pm an cdv ct), osl⟩)
    (c : PySem.W.codeIn K cdv qual = true) (k : PySem.W.keepIn K (.ref f) = true) : Fun K x qual st f (PySem.W.fnOf x qual (defArgs st) (defBody st) (defScope st) .none kV doc pm an cdv ct) := ⟨⟨oc, od, kV, doc, pm, an, cdv, ct, osl, rfl, l, c⟩, k⟩
end
theorem hu_of {A : Around} {k : Nat} (hr : Room k A) : A.units + 1 < cLine := Nat.lt_of_le_of_lt (Nat.add_le_add_left (by decide : 1 ≤ 64) _) hr.units
/-! ### expressions in short: the name that stands in the i-th slot -/
section
variable {X : Cx}
end

/-! ### tests -/
/-! ### heaps -/
/-! ### a dict's pairs: keys that differ -/
section
variable {κ : Type} [DecidableEq κ]
end
end L2

end
section
set_option Elab.async false
set_option linter.all false
set_option maxRecDepth 100000
set_option maxHeartbeats 4000000
namespace L2
open PySem PySem.Spec PyProof.Rows

/-! ### comprehensions -/
def freeNames (sc : Scope) : List Str := (sc.names.filter fun x => x.2 == .free).map (·.1)
def closOf (sc : Scope) (env : Env) : List (Str × Addr) := ((freeNames sc).reverse).map fun n => (n, (env.cells.lookup n).getD 0)

theorem closureFor_of {sc : Scope} {env : Env} (h : ∀ n ∈ freeNames sc, ∃ c, env.cells.lookup n = some c) : closureFor sc env = pure (closOf sc env) := by
  have key : ∀ (l : List (Str × NameKind)) (cs : List (Str × Addr)), (∀ x ∈ l, x.2 = .free → ∃ c, env.cells.lookup x.1 = some c) →
      (forIn l cs fun (x : Str × NameKind) (r : List (Str × Addr)) => (if (x.2 == NameKind.free) = true then (do let a ← cellOf env x.1; pure (ForInStep.yield ((x.1, a) :: r))) else pure (ForInStep.yield r) : Sem (ForInStep (List (Str × Addr)))))
        = pure ((((l.filter fun x => x.2 == .free).map (·.1)).reverse).map (fun n => (n, (env.cells.lookup n).getD 0)) ++ cs) := by
    intro l
    induction l with
    | nil => intro cs _; rfl
    | cons x r ih =>
      intro cs hx
      rw [List.forIn_cons]
      by_cases hk : x.2 = .free
      · obtain ⟨c, hc⟩ := hx x List.mem_cons_self hk
        have e1 : (x.2 == NameKind.free) = true := by rw [hk]; rfl
        have e2 : cellOf env x.1 = pure c := by unfold cellOf; rw [hc]
        rw [if_pos e1, e2]
        show (forIn r ((x.1, c) :: cs) _ : Sem _) = _
        rw [ih _ fun y hy => hx y (List.mem_cons_of_mem _ hy)]
        rw [List.filter_cons, if_pos e1, List.map_cons, List.reverse_cons, List.map_append, List.append_assoc]
        simp [hc]
      · have e1 : (x.2 == NameKind.free) = false := by simpa using hk
        rw [if_neg (by rw [e1]; decide)]
        show (forIn r cs _ : Sem _) = _
        rw [ih _ fun y hy => hx y (List.mem_cons_of_mem _ hy)]
        rw [List.filter_cons, if_neg (by rw [e1]; decide)]
  unfold closureFor closOf freeNames
  have := key sc.names [] fun x hx hf => h x.1 (by
    unfold freeNames
    exact List.mem_map.mpr ⟨x, List.mem_filter.mpr ⟨hx, by rw [hf]; rfl⟩, rfl⟩)
  rw [List.append_nil] at this
  show (forIn sc.names [] _ >>= pure : Sem _) = _
  refine Eq.trans (congrArg (· >>= pure) (Eq.trans (congrArg (fun f => (forIn sc.names [] f : Sem (List (Str × Addr)))) (funext fun x => funext fun r => ?_)) this)) rfl
  obtain ⟨n, k⟩ := x
  rfl
theorem lookup_tab {f : Str → Addr} {x : Str} : ∀ {l : List Str} {c : Addr}, (l.map fun n => (n, f n)).lookup x = some c → x ∈ l ∧ c = f x
  | [], _, h => by simp at h
  | n :: r, c, h => by
    simp only [List.map_cons, List.lookup_cons] at h
    cases hx : x == n with
    | true =>
      rw [hx] at h
      have e : x = n := by simpa using hx
      subst e
      exact ⟨List.mem_cons_self, (Option.some.inj h).symm⟩
    | false =>
      rw [hx] at h
      obtain ⟨a, b⟩ := lookup_tab h
      exact ⟨List.mem_cons_of_mem _ a, b⟩
theorem tab_lookup {f : Str → Addr} {x : Str} : ∀ {l : List Str}, x ∈ l → (l.map fun n => (n, f n)).lookup x = some (f x)
  | n :: r, h => by
    simp only [List.map_cons, List.lookup_cons]
    cases hx : x == n with
    | true =>
      have e : x = n := by simpa using hx
      subst e
      rfl
    | false =>
      rcases List.mem_cons.mp h with e | e
      · subst e; simp at hx
      · exact tab_lookup e
theorem lookup_relabel_free {env : Env} : ∀ {names : List (Str × NameKind)} {x : Str}, names.lookup x = some .free →
    (names.map fun (n, k) => if (k == NameKind.free && env.scope.kind == .function && env.kindOf n == some .cell) then (n, NameKind.cell) else (n, k)).lookup x = some .cell ∨
    (names.map fun (n, k) => if (k == NameKind.free && env.scope.kind == .function && env.kindOf n == some .cell) then (n, NameKind.cell) else (n, k)).lookup x = some .free
  | [], _, h => by simp at h
  | (n, k) :: r, x, h => by
    have ih := @lookup_relabel_free env r x
    show List.lookup x ((if (k == NameKind.free && env.scope.kind == .function && env.kindOf n == some .cell) = true then (n, NameKind.cell) else (n, k)) :: _) = _ ∨
      List.lookup x ((if (k == NameKind.free && env.scope.kind == .function && env.kindOf n == some .cell) = true then (n, NameKind.cell) else (n, k)) :: _) = _
    cases hx : x == n with
    | true =>
      simp only [List.lookup_cons, hx] at h
      by_cases hc : (k == NameKind.free && env.scope.kind == .function && env.kindOf n == some .cell) = true
      · rw [if_pos hc]; simp only [List.lookup_cons, hx]; exact .inl trivial
      · rw [if_neg hc]; simp only [List.lookup_cons, hx]; exact .inr h
    | false =>
      simp only [List.lookup_cons, hx] at h
      by_cases hc : (k == NameKind.free && env.scope.kind == .function && env.kindOf n == some .cell) = true
      · rw [if_pos hc]; simp only [List.lookup_cons, hx]; exact ih h
      · rw [if_neg hc]; simp only [List.lookup_cons, hx]; exact ih h
/-- what the relabelled table says a cell or a free name is -/
theorem relabel_back {env : Env} : ∀ {names : List (Str × NameKind)} {x : Str}, (∀ y ∈ names, y.2 ≠ .cell) →
    ((names.map fun (n, k) => if (k == NameKind.free && env.scope.kind == .function && env.kindOf n == some .cell) then (n, NameKind.cell) else (n, k)).lookup x = some .cell ∨
    (names.map fun (n, k) => if (k == NameKind.free && env.scope.kind == .function && env.kindOf n == some .cell) then (n, NameKind.cell) else (n, k)).lookup x = some .free) → (x, NameKind.free) ∈ names
  | [], _, _, h => by simp at h
  | (n, k) :: r, x, nc, h => by
    have ih := @relabel_back env r x fun y hy => nc y (List.mem_cons_of_mem _ hy)
    change (List.lookup x ((if (k == NameKind.free && env.scope.kind == .function && env.kindOf n == some .cell) = true then (n, NameKind.cell) else (n, k)) :: _) = _ ∨
      List.lookup x ((if (k == NameKind.free && env.scope.kind == .function && env.kindOf n == some .cell) = true then (n, NameKind.cell) else (n, k)) :: _) = _) at h
    cases hx : x == n with
    | true =>
      have e : x = n := by simpa using hx
      subst e
      by_cases hc : (k == NameKind.free && env.scope.kind == .function && env.kindOf x == some .cell) = true
      · have : k = .free := by
          have := (Bool.and_eq_true_iff.mp (Bool.and_eq_true_iff.mp hc).1).1
          simpa using this
        rw [this]; exact List.mem_cons_self
      · rw [if_neg hc] at h
        simp only [List.lookup_cons, hx] at h
        rcases h with h | h
        · exact absurd (Option.some.inj h) (nc (x, k) List.mem_cons_self)
        · rw [Option.some.inj h]; exact List.mem_cons_self
    | false =>
      refine List.mem_cons_of_mem _ (ih ?_)
      by_cases hc : (k == NameKind.free && env.scope.kind == .function && env.kindOf n == some .cell) = true
      · rw [if_pos hc] at h; simpa only [List.lookup_cons, hx] using h
      · rw [if_neg hc] at h; simpa only [List.lookup_cons, hx] using h

/-- a comprehension's block: N its names (own first), fr the places of the outer names that it sees -/
def compN (X : Cx) (own : List Str) (fr : List Nat) : List Str := own ++ fr.map fun k => X.N.getD k Str.empty
def compSt (n : Nat) (fr : List Nat) (σ : St) : St := List.replicate n none ++ fr.map fun k => (σ[k]?).join
def compCx (X : Cx) (sc : Scope) (own : List Str) (fr : List Nat) (C : Addr) (s₀ : Shared) (H₀ : Hp) (ex : List Addr) : Cx where
  prog := X.prog
  w := X.w
  K := X.K
  mg := X.mg
  base := X.base
  A := X.A
  N := compN X own fr
  s₀ := s₀
  H₀ := H₀
  env := compEnvC sc (closOf sc X.env) C X.env
  outer := X.stack
  stack := X.stack
  ex := ex
  fn := fun _ => false
  calm := X.calm
  pn := []
  xe := fun _ _ => False

def FrOk (X : Cx) (sc : Scope) : List Nat → Prop
  | [] => True
  | k :: r => (sc.names.lookup (X.N.getD k Str.empty) = some .free ∧ (X.env.scope.names.lookup (X.N.getD k Str.empty) = some .cell ∨ X.env.scope.names.lookup (X.N.getD k Str.empty) = some .free)) ∧ FrOk X sc r
theorem FrOk.mem {X : Cx} {sc : Scope} : ∀ {fr : List Nat}, FrOk X sc fr → ∀ k ∈ fr, sc.names.lookup (X.N.getD k Str.empty) = some .free ∧ (X.env.scope.names.lookup (X.N.getD k Str.empty) = some .cell ∨ X.env.scope.names.lookup (X.N.getD k Str.empty) = some .free)
  | _ :: _, h, k, hk => by
    rcases List.mem_cons.mp hk with e | e
    · subst e; exact h.1
    · exact FrOk.mem h.2 k e

def FreesOk (X : Cx) : List Str → Prop
  | [] => True
  | n :: r => (X.env.scope.names.lookup n = some .cell ∨ X.env.scope.names.lookup n = some .free) ∧ FreesOk X r
theorem FreesOk.mem {X : Cx} : ∀ {l : List Str}, FreesOk X l → ∀ n ∈ l, X.env.scope.names.lookup n = some .cell ∨ X.env.scope.names.lookup n = some .free
  | _ :: _, h, n, hn => by
    rcases List.mem_cons.mp hn with e | e
    · subst e; exact h.1
    · exact FreesOk.mem h.2 n e
structure CompScope (X : Cx) (sc : Scope) (fr : List Nat) : Prop where
  kind : sc.kind = .function
  nocell : ∀ y ∈ sc.names, y.2 ≠ .cell
  names : ∀ y ∈ sc.names, y.2 = .local → sc.names.lookup y.1 = some .local
  frees : FreesOk X (freeNames sc)
  fr : FrOk X sc fr

section
variable {X : Cx} {sc : Scope} {own : List Str} {fr : List Nat} {pins : List (Addr × Obj)} {σ : St} {H : Hp} {s : Shared}
theorem CompScope.cells (S : CompScope X sc fr) (I : Inv X pins σ H s) : ∀ n ∈ freeNames sc, ∃ c, X.env.cells.lookup n = some c := fun n hn => I.ok.has n (S.frees.mem n hn)
theorem CompScope.look (S : CompScope X sc fr) (I : Inv X pins σ H s) {x : Str} {c : Addr} (h : (closOf sc X.env).lookup x = some c) : X.env.cells.lookup x = some c := by
  obtain ⟨a, b⟩ := lookup_tab h
  obtain ⟨d, e⟩ := S.cells I x (List.mem_reverse.mp a)
  rw [e] at b
  rw [e, b]
  rfl
theorem mem_freeNames {x : Str} (h : (x, NameKind.free) ∈ sc.names) : x ∈ freeNames sc := List.mem_map.mpr ⟨_, List.mem_filter.mpr ⟨h, rfl⟩, rfl⟩
theorem CompScope.back (S : CompScope X sc fr) (I : Inv X pins σ H s) {x : Str} (hx : x ∈ freeNames sc) : ∃ c, (closOf sc X.env).lookup x = some c ∧ X.env.cells.lookup x = some c := by
  obtain ⟨c, e⟩ := S.cells I x hx
  refine ⟨c, ?_, e⟩
  unfold closOf
  rw [tab_lookup (List.mem_reverse.mpr hx), e]
  rfl

/-- the block's first state -/
theorem inv_comp (S : CompScope X sc fr) {fp : List Addr} (I : Inv X pins σ H s) (hf : ∀ b ∈ fp, FpOk X pins H b) (ho : ∀ b ∈ fp, ∃ o, s.heap.get? b = some o) {h₁ : Heap} {t : Nat}
    (hns : h₁.Ns s.heap.objs.size (fun _ => none)) (hk : ∀ b o, s.heap.get? b = some o → h₁.get? b = some o) :
    Inv (compCx X sc own fr s.heap.objs.size s H fp) [] (compSt own.length fr σ) H { s with heap := h₁, toks := t } := by
  have ltC : ∀ b o, s.heap.get? b = some o → b ≠ s.heap.objs.size := fun b o e => Nat.ne_of_lt (Heap.lt_size e)
  have cellOld : ∀ x c, (closOf sc X.env).lookup x = some c → ∃ v, s.heap.IsCell c v := fun x c e => I.cell x c (S.look I e)
  refine ⟨⟨I.ok.mod, S.kind, I.ok.glob, I.ok.blt, Nat.le_refl _, fun x y c h1 h2 => I.ok.inj x y c (S.look I h1) (S.look I h2), fun x hx => ?_, fun x c z => absurd z (by simp [compCx]), I.ok.hd, I.ok.frames, .inl rfl, fun b hb => ?_, I.bs, Nat.le_trans I.ok.bsz I.sz, fun b o e hb => ?_, fun b hb => ?_, I.stack, I.stkFree⟩,
    rfl, I.bare, Un.kept hk, ⟨_, hns, fun i x v e1 e2 e3 => ?_⟩, fun x c e => ?_, I.hok.fresh (Nat.le_refl _), fun x c e => I.freeC x c (S.look I e), fun p hp => absurd (show p ∈ ([] : List (Addr × Obj)) from hp) (by simp), I.hok.kept hk, ?_⟩
  · have := relabel_back (env := X.env) S.nocell hx
    obtain ⟨c, e, _⟩ := S.back I (mem_freeNames this)
    exact ⟨c, e⟩
  · obtain ⟨o, e⟩ := ho b hb
    obtain ⟨_, _, _, _, f4, _⟩ := hf b hb
    exact ⟨ltC b o e, fun x c e' => f4 x c (S.look I e')⟩
  · obtain ⟨_, _, _, f3, _⟩ := hf b hb
    rcases f3 with z | z
    · exact I.ok.noex b o e z
    · exact absurd (Nat.lt_of_lt_of_le (Heap.lt_size e) (Nat.le_trans I.ok.bsz z)) (Nat.lt_irrefl _)
  · obtain ⟨_, f1, f2, _⟩ := hf b hb
    intro z
    rcases List.mem_cons.mp (I.stkSub b z) with q | q
    · exact f1 q
    · exact f2 q
  · -- a name that is bound
    have hi : own.length ≤ i := by
      rcases Nat.lt_or_ge i own.length with z | z
      · exfalso
        change (List.replicate own.length none ++ fr.map fun k => (σ[k]?).join)[i]? = some (some v) at e2
        rw [List.getElem?_append_left (by simpa using z), List.getElem?_replicate, if_pos z] at e2
        cases e2
      · exact z
    change (List.replicate own.length none ++ fr.map fun k => (σ[k]?).join)[i]? = some (some v) at e2
    rw [List.getElem?_append_right (by simpa using hi), List.length_replicate, List.getElem?_map] at e2
    change (own ++ fr.map fun k => X.N.getD k Str.empty)[i]? = some x at e1
    rw [List.getElem?_append_right hi, List.getElem?_map] at e1
    cases e : fr[i - own.length]? with
    | none => rw [e] at e1; cases e1
    | some k =>
      rw [e] at e1 e2
      have e1 : X.N.getD k Str.empty = x := Option.some.inj e1
      have e2 : (σ[k]?).join = some v := Option.some.inj e2
      have e2' : σ[k]? = some (some v) := by
        cases q : σ[k]? with
        | none => rw [q] at e2; cases e2
        | some z => rw [q] at e2; cases z with
          | none => cases e2
          | some z => rw [show z = v from Option.some.inj e2]
      have hkl : k < X.N.length := by
        have := (List.getElem?_eq_some_iff.mp e2').1
        rw [I.len] at this
        exact this
      have e1' : X.N[k]? = some x := by
        rw [List.getElem?_eq_getElem hkl, ← e1]
        simp [List.getD, hkl]
      obtain ⟨q1, q2⟩ := S.fr.mem k (List.mem_of_getElem? e)
      rw [e1] at q1 q2
      have hvis : Vis X.env.scope x := by
        rcases q2 with z | z
        · exact .inr (.inl z)
        · exact .inr (.inr z)
      obtain ⟨m, hn, hl⟩ := I.loc
      obtain ⟨u, r, l⟩ := hl k x v e1' e2' hvis
      refine ⟨u, r, .inr ⟨?_, ?_⟩⟩
      · exact lookup_relabel_free (env := X.env) q1
      · rcases l with ⟨z, _⟩ | ⟨_, c, hc, z⟩
        · exfalso
          have z : X.env.scope.names.lookup x = some .local := z
          rcases q2 with y | y
          · rw [z] at y; cases y
          · rw [z] at y; cases y
        · obtain ⟨c', h1, h2⟩ := S.back I (mem_freeNames (PySem.mem_of_lookup q1))
          rw [hc] at h2
          cases h2
          obtain ⟨o, ho', hd⟩ := z
          exact ⟨c, h1, o, hk c o ho', hd⟩
  · obtain ⟨v, o, ho', hd⟩ := cellOld x c e
    exact ⟨v, o, hk c o ho', hd⟩
  · show (List.replicate own.length none ++ fr.map fun k => (σ[k]?).join).length = (own ++ fr.map fun k => X.N.getD k Str.empty).length
    simp
end

/-- the tests of a clause -/
def PTs (X : Cx) (ifs : List Expr) (t : TT) : Prop :=
  ∀ (pins : List (Addr × Obj)) (s : Shared) (σ : St) (H : Hp) (Q : Bool → Hp → Prop), Inv X pins σ H s → t σ H Q →
    wpAny (model X.prog X.w) X.A (forIn ifs true fun c r => if r = true then do let ok ← isTrue c X.env (eval c X.env); pure (ForInStep.yield ok) else pure (ForInStep.yield r)) (TP X pins σ Q) X.xe s
def tYes : TT := fun _ H Q => Q true H
theorem pts_nil {X : Cx} : PTs X [] tYes := fun pins s σ H Q I h => wpAny_tests_nil ⟨H, I, h⟩
/-- what a turn does with the accumulator -/
abbrev TM := Addr → St → Hp → (Hp → Prop) → Prop
def PM (X : Cx) (emit : Env → Addr → Sem Unit) (t : TM) : Prop :=
  ∀ (pins : List (Addr × Obj)) (s : Shared) (σ : St) (H : Hp) (D : Addr) (Q : Hp → Prop), Inv X pins σ H s → t D σ H Q →
    wpAny (model X.prog X.w) X.A (emit X.env D) (fun _ s' => ∃ H', Inv X pins σ H' s' ∧ Q H') X.xe s
def tCompB (acc : HO) (wi : TI) (n : Nat) (fr : List Nat) (g : TG) (tc : TT) (tm : TM) : St → Hp → (Addr → Hp → Prop) → Prop := fun σ H Q =>
  wi σ H fun J H1 => ∀ p, H1 p = none → ∃ W : Nat → Nat → St → Hp → Prop, (∃ m, W 0 m (compSt n fr σ) (upd H1 p acc)) ∧
    ∀ i m σ' H', W i m σ' H' → (J.stop i H' ∧ Q p H') ∨ (J.go i H' ∧ ∃ N : St → Hp → Prop, (∀ σ2 H2, N σ2 H2 → ∃ m', m' < m ∧ W (i + 1) m' σ2 H2) ∧ ∀ x H2, J.yld i H' x H2 → g x σ' H2 fun σ3 H3 => tc σ3 H3 fun b H4 =>
      if b = true then tm p σ3 H4 (N σ3) else N σ3 H4)

structure CompForm (e : Expr) (tg iter : Expr) (ifs : List Expr) (emit : Env → Addr → Sem Unit) : Prop where
  cl : ∃ gs, clausesOf e = ⟨tg, iter, ifs, 0⟩ :: gs
  under : ∀ (A : Around) it acc env, A.under (.compLoop e 0 it acc env) = A
  den : ∀ (prog : Program) (w : World) it acc env, (model prog w).den (.compLoop e 0 it acc env) = ((compTurn e 0 it acc env).onRaise (fun x => do noteFrame x env; theTreesLotGoes x))
  turn : ∀ it D env, compTurn e 0 it (.ref D) env = (do
      standAt iter.pos
      match ← pyNext it with
      | none => pure (.done .next)
      | some v =>
        letOwnedTupleGo tg it v
        assign tg env v
        let mut ok := true
        for c in ifs do
          if ok then ok ← isTrue c env (eval c env)
        if ok then
          emit env D
        again (.compLoop e 0 it (.ref D) env))
  start : ∀ (prog : Program) (w : World) (A : Around) (R : Result → Shared → Prop) (s : Shared) it acc env, codeAny (model prog w) A (.compLoop e 0 it acc env) R s →
    wpAny (model prog w) A (pyIter it) (fun it' s' => codeAny (model prog w) A (.compLoop e 0 it' acc env) R s') (notedBy (model prog w) A env fun x s' => R (.error x) s') s →
    codeAny (model prog w) A (.compStart e 0 it acc env) R s

section
variable {X : Cx} {sc : Scope} {own : List Str} {fr : List Nat} {e tg iter : Expr} {ifs : List Expr} {emit : Env → Addr → Sem Unit} {wi : TI} {g : TG} {tc : TT} {tm : TM} {acc : HO}

/-- the loop -/
theorem comp_loop (F : CompForm e tg iter ifs emit) (hc : X.calm = true) {C : Addr} {s₀ : Shared} {H₀ : Hp} {fp : List Addr} {it D : Addr} {tn : Nat → Heap → Prop} {J : It} {R : Result → Shared → Prop} {s : Shared}
    (hg : PG (compCx X sc own fr C s₀ H₀ fp) tg g) (ht : PTs (compCx X sc own fr C s₀ H₀ fp) ifs tc) (hm : PM (compCx X sc own fr C s₀ H₀ fp) emit tm)
    (T : Turn X.prog X.w X.K tg J fp it tn) (hfp : ∀ b ∈ fp, b ≠ C ∧ b ∉ frs X.stack ∧ ∀ x c, (closOf sc X.env).lookup x = some c → c ≠ b)
    (W : Nat → Nat → St → Hp → Prop) {Q : Hp → Prop} (turn : ∀ i m σ' H', W i m σ' H' → (J.stop i H' ∧ Q H') ∨ (J.go i H' ∧ ∃ N : St → Hp → Prop, (∀ σ2 H2, N σ2 H2 → ∃ m', m' < m ∧ W (i + 1) m' σ2 H2) ∧ ∀ x H2, J.yld i H' x H2 → g x σ' H2 fun σ3 H3 => tc σ3 H3 fun b H4 =>
      if b = true then tm D σ3 H4 (N σ3) else N σ3 H4))
    (hR : ∀ σ' H' s', Inv (compCx X sc own fr C s₀ H₀ fp) [] σ' H' s' → Q H' → R (.ok .next) s')
    {m0 : Nat} {σ0 : St} {H0 : Hp} (I0 : Inv (compCx X sc own fr C s₀ H₀ fp) [] σ0 H0 s) (st0 : tn 0 s.heap) (fr0 : ∀ b ∈ fp, H0 b = none) (w0 : W 0 m0 σ0 H0) :
    codeAny (model X.prog X.w) X.A (.compLoop e 0 (.ref it) (.ref D) (compEnvC sc (closOf sc X.env) C X.env)) R s := by
  have stat : ∀ {H' : Hp}, (∀ b ∈ fp, H' b = none) → ∀ b ∈ fp, FpOk (compCx X sc own fr C s₀ H₀ fp) [] H' b := fun hn b hb =>
    ⟨hn b hb, (hfp b hb).1, (hfp b hb).2.1, .inl hb, (hfp b hb).2.2, fun p hp => absurd (show p ∈ ([] : List (Addr × Obj)) from hp) (by simp)⟩
  refine codeAny_loop rfl (fun n s' => ∃ i σ' H', Inv (compCx X sc own fr C s₀ H₀ fp) [] σ' H' s' ∧ tn i s'.heap ∧ (∀ b ∈ fp, H' b = none) ∧ W i n σ' H') (fun n s hI => ?_) m0 ⟨0, σ0, H0, I0, st0, fr0, w0⟩
  rw [F.under, F.den]
  refine wpAny_noted ?_
  rw [F.turn]
  obtain ⟨i, σ3, H3, I3, st3, fr3, w3⟩ := hI
  have lift : ∀ {α : Type} {t : Sem α} {Q' : α → Shared → Prop} {E : Value → Shared → Prop} {s : Shared}, wpAny (model X.prog X.w) X.A t Q' (fun _ _ => False) s → wpAny (model X.prog X.w) X.A t Q' E s := fun h => wpAny_mono h (fun _ _ q => q) fun _ _ z => z.elim
  refine wpAny_bind (wpAny_standAt (wpAny_bind ?_))
  rcases turn i n σ3 H3 w3 with ⟨stop, qn⟩ | ⟨go, N, hN, step⟩
  · refine lift (thn (T.done (compCx X sc own fr C s₀ H₀ fp) rfl rfl rfl hc i [] s σ3 H3 (fun _ _ => False) I3 (stat fr3) st3 stop) fun r s4 ⟨hr, I4⟩ => ?_)
    subst hr
    exact wpAny_pure (hR σ3 H3 s4 I4 qn)
  · refine lift (thn (T.item (compCx X sc own fr C s₀ H₀ fp) rfl rfl rfl hc i [] s σ3 H3 (fun _ _ => False) I3 (stat fr3) st3 go) fun r s4 ⟨u, hr, h4⟩ => ?_)
    subst hr
    refine wpAny_bind (lift (thn h4 fun _ s5 ⟨x, H5, I5, r5, y5, st5, fr5⟩ => ?_))
    have I5' := I5.pinned (stat fr5) (T.obj _ _ st5)
    refine wpAny_bind (lift (thn (hg _ s5 σ3 H5 x u _ I5' r5 (step x H5 y5)) fun _ s6 ⟨σ6, H6, I6, q6⟩ => ?_))
    refine wpAny_bind (lift (thn (ht _ s6 σ6 H6 _ I6 q6) fun ok s7 ⟨H7, I7, q7⟩ => ?_))
    have again : ∀ {σ8 : St} {H8 : Hp} {s8 : Shared}, Inv (compCx X sc own fr C s₀ H₀ fp) ([] ++ pinsAt fp s5.heap) σ8 H8 s8 → (∃ m', m' < n ∧ W (i + 1) m' σ8 H8) → ∃ m, m < n ∧ ∃ i σ' H', Inv (compCx X sc own fr C s₀ H₀ fp) [] σ' H' s8 ∧ tn i s8.heap ∧ (∀ b ∈ fp, H' b = none) ∧ W i m σ' H' := fun {σ8 H8 s8} I8 ⟨m', hm', w8⟩ => by
      refine ⟨m', hm', i + 1, σ8, H8, I8.unpinned, T.keep _ _ _ st5 fun b hb o e => (I8.pin (b, o) (List.mem_append_right _ (List.mem_append_right _ (mem_pinsAt hb e)))).1, fun b hb => ?_, w8⟩
      obtain ⟨o, e, d⟩ := T.obj _ _ st5 b hb
      exact (I8.pin (b, o) (List.mem_append_right _ (List.mem_append_right _ (mem_pinsAt hb e)))).2.1
    cases ok with
    | false => exact wpAny_pure ⟨rfl, again I7 (hN _ _ q7)⟩
    | true =>
      refine wpAny_bind (lift (thn (hm _ s7 σ6 H7 D _ I7 q7) fun _ s8 ⟨H8, I8, q8⟩ => ?_))
      exact wpAny_pure ⟨rfl, again I8 (hN _ _ q8)⟩
end

/-- the accumulator made -/
def PNew (X : Cx) (newAcc : Sem Value) (acc : HO) : Prop :=
  ∀ (pins : List (Addr × Obj)) (s : Shared) (σ : St) (H : Hp) (E : Value → Shared → Prop) (Q : Value → Shared → Prop), Inv X pins σ H s →
    (∀ p s', H p = none → p = s.heap.objs.size → (∀ b o, s.heap.get? b = some o → s'.heap.get? b = some o) → s'.os = s.os → Inv X pins σ (upd H p acc) s' → Q (.ref p) s') → wpAny (model X.prog X.w) X.A newAcc Q E s
theorem pnew_list {X : Cx} : PNew X (newList []) (.lst []) := by
  intro pins s σ H E Q I h
  refine wpAny_newObj_type ?_
  exact h _ _ (I.hok.fresh (Nat.le_refl _)) rfl (fun b o e => Heap.get?_push_of_some _ e) rfl (I.lnew (its := []) (t' := s.toks) .nil (Nat.zero_le _))
theorem pnew_dict {X : Cx} : PNew X newDict (.dK []) := by
  intro pins s σ H E Q I h
  refine wpAny_newObj_type ?_
  exact h _ _ (I.hok.fresh (Nat.le_refl _)) rfl (fun b o e => Heap.get?_push_of_some _ e) rfl (I.laid (a := s.heap.objs.size) (o := .dK []) (t' := s.toks) (fun _ _ q => Heap.get?_push_of_some _ q) (Nat.le_refl _) (dk_empty s.heap I.big))

section
variable {X : Cx} {sc : Scope} {own : List Str} {fr : List Nat} {e tg iter : Expr} {ifs : List Expr} {emit : Env → Addr → Sem Unit} {wi : TI} {g : TG} {tc : TT} {tm : TM} {acc : HO} {newAcc : Sem Value} {pos : Pos}

/-- a comprehension, whatever is done with its value -/
theorem comp_any (F : CompForm e tg iter ifs emit) (hc : X.calm = true) (S : CompScope X sc fr) (hi : PI X tg iter wi) (hnew : PNew X newAcc acc)
    (hg : ∀ C s₀ H₀ fp, PG (compCx X sc own fr C s₀ H₀ fp) tg g) (ht : ∀ C s₀ H₀ fp, PTs (compCx X sc own fr C s₀ H₀ fp) ifs tc) (hm : ∀ C s₀ H₀ fp, PM (compCx X sc own fr C s₀ H₀ fp) emit tm)
    (hs : ∀ x, foldedSetIterable iter X.env x = pure x) {use : Option (Value → Sem Unit)} {pins : List (Addr × Obj)} {s : Shared} {σ : St} {H : Hp} {Q : Addr → Hp → Prop} {Q' : Value → Shared → Prop} (I : Inv X pins σ H s)
    (h : tCompB acc wi own.length fr g tc tm σ H Q)
    (hq : ∀ (p C : Addr) (H' : Hp) (s' : Shared) (m : Str → Option Value), Inv X pins σ H' s' → Q p H' → s'.heap.Ns C m → H' C = none → C ≠ X.env.locals → X.s₀.heap.objs.size ≤ C → (∀ x c, X.env.cells.lookup x = some c → c ≠ C) → (∀ q ∈ X.pn ++ pins, q.1 ≠ C) →
      compPost (model X.prog X.w) X.A X.xe use Q' (.ref p) C (.ok .next) s') :
    wpAny (model X.prog X.w) X.A (comprehension e sc X.env pos newAcc false (eval iter X.env) use) Q' X.xe s := by
  obtain ⟨gs, hcl⟩ := F.cl
  refine wpAny_comprehension_free hcl hs (closureFor_of (S.cells I)) S.kind S.names (thn (hi pins s σ H _ I h) fun v s1 h1 => thn h1 fun itv s2 h2 => ?_)
  obtain ⟨it, fp, tn, J, H2, e2, I2, T, st2, f2, q2⟩ := h2
  subst e2
  refine hnew pins s2 σ H2 _ _ I2 fun p s3 np hp k3 os3 I3 => ?_
  obtain ⟨W, ⟨m0, w0⟩, turn⟩ := q2 p np
  refine wpAny_newFunctionEnv S.nocell (by intro x hx; simp at hx) (fun h₁ hns hsb => ?_) S.kind
  have hk : ∀ b o, s3.heap.get? b = some o → h₁.get? b = some o := fun b o eb => hsb.extBut b o (Nat.ne_of_lt (Heap.lt_size eb)) (Heap.get?_push_of_some _ eb)
  have ob2 : ∀ b ∈ fp, ∃ o, s2.heap.get? b = some o := fun b hb => let ⟨o, eo, _⟩ := T.obj _ _ st2 b hb; ⟨o, eo⟩
  have fpn : ∀ b ∈ fp, b ≠ p := fun b hb z => by
    obtain ⟨o, eo⟩ := ob2 b hb
    rw [z, hp] at eo
    exact absurd (Heap.lt_size eo) (Nat.lt_irrefl _)
  have f3 : ∀ b ∈ fp, FpOk X pins (upd H2 p acc) b := fun b hb => by
    obtain ⟨a1, a2⟩ := f2 b hb
    exact ⟨by rw [upd_ne (fpn b hb)]; exact a1, a2⟩
  have ob3 : ∀ b ∈ fp, ∃ o, s3.heap.get? b = some o := fun b hb => let ⟨o, eo⟩ := ob2 b hb; ⟨o, k3 b o eo⟩
  have I4 := inv_comp (own := own) (t := s3.toks + ([] : List (Str × Value)).length) S I3 f3 ob3 (h₁ := h₁) hns hk
  have st4 : tn 0 h₁ := T.keep _ _ _ st2 fun b hb o eo => hk b o (k3 b o eo)
  have hfp : ∀ b ∈ fp, b ≠ s3.heap.objs.size ∧ b ∉ frs X.stack ∧ ∀ x c, (closOf sc X.env).lookup x = some c → c ≠ b := fun b hb => by
    obtain ⟨_, f1, f2', _, f4, _⟩ := f3 b hb
    obtain ⟨o, eo⟩ := ob3 b hb
    refine ⟨Nat.ne_of_lt (Heap.lt_size eo), fun z => ?_, fun x c ec => f4 x c (S.look I3 ec)⟩
    rcases List.mem_cons.mp (I3.stkSub b z) with q | q
    · exact f1 q
    · exact f2' q
  have loop : codeAny (model X.prog X.w) X.A (.compLoop e 0 (.ref it) (.ref p) (compEnvC sc (closOf sc X.env) s3.heap.objs.size X.env)) (compPost (model X.prog X.w) X.A X.xe use Q' (.ref p) s3.heap.objs.size) { s3 with heap := h₁, toks := s3.toks + ([] : List (Str × Value)).length } := by
    refine comp_loop (s₀ := s3) (H₀ := upd H2 p acc) (own := own) (fr := fr) (Q := fun H' => Q p H') F hc (hg _ _ _ _) (ht _ _ _ _) (hm _ _ _ _) T hfp W turn (fun σ' H' s' J' qq => ?_) I4 st4 (fun b hb => (f3 b hb).1) w0
    obtain ⟨m, hn, _⟩ := J'.loc
    have un : Un (frs X.stack) fp H2 H' s2.heap s'.heap := (Un.laid (o := acc) k3 (by rw [hp]; exact Nat.le_refl _) np).trans J'.base
    have IX : Inv X pins σ H' s' := I2.call' (ch := fp) (J'.os.trans os3) un J'.hok J'.bare fun b hb => by
      obtain ⟨_, f1, _, f3', f4, f5⟩ := f2 b hb
      exact ⟨f3', f1, f4, f5⟩
    refine hq p s3.heap.objs.size H' s' m IX qq hn J'.free (Ne.symm (Nat.ne_of_lt I3.lt)) I3.sz (fun x c ec => ?_) fun q hq' => ?_
    · obtain ⟨v, o, eo, _⟩ := I3.cell x c ec
      exact Nat.ne_of_lt (Heap.lt_size eo)
    · exact Nat.ne_of_lt (Heap.lt_size (I3.pin q hq').1)
  exact F.start _ _ _ _ _ _ _ _ loop (T.self _ _ _ _ _ st4 loop)

theorem comp_value (F : CompForm e tg iter ifs emit) (hc : X.calm = true) (S : CompScope X sc fr) (hi : PI X tg iter wi) (hnew : PNew X newAcc acc)
    (hg : ∀ C s₀ H₀ fp, PG (compCx X sc own fr C s₀ H₀ fp) tg g) (ht : ∀ C s₀ H₀ fp, PTs (compCx X sc own fr C s₀ H₀ fp) ifs tc) (hm : ∀ C s₀ H₀ fp, PM (compCx X sc own fr C s₀ H₀ fp) emit tm)
    (hs : ∀ x, foldedSetIterable iter X.env x = pure x) {pins : List (Addr × Obj)} {s : Shared} {σ : St} {H : Hp} {Q : VK} (I : Inv X pins σ H s)
    (h : tCompB acc wi own.length fr g tc tm σ H fun p H' => Q (.ref p) H') :
    wpAny (model X.prog X.w) X.A (comprehension e sc X.env pos newAcc false (eval iter X.env) none) (EP X pins σ Q) X.xe s := by
  refine comp_any F hc S hi hnew hg ht hm hs I h fun p C H' s' m I' q hn h1 h2 h3 h4 h5 => ⟨m, hn, fun h' hb => ?_⟩
  exact ⟨.ref p, H', I'.turned (t' := s'.toks) (fun b o hne eo => hb.extBut b o hne eo) h1 h2 (.inr h3) h4 h5, rfl, q⟩
end
/-! ### list comprehensions -/
def emitL (elt : Expr) : Env → Addr → Sem Unit := fun env D => do let _ ← call (.builtin "list.append") [.ref D, ← eval elt env]
theorem form_list {elt tg iter : Expr} {ifs : List Expr} {sc : Scope} {pos : Pos} : CompForm (.ListComp elt [⟨tg, iter, ifs, 0⟩] sc pos) tg iter ifs (emitL elt) :=
  ⟨⟨_, rfl⟩, fun _ _ _ _ => rfl, fun _ _ _ _ _ => rfl, fun _ _ _ => rfl, fun _ _ _ _ _ _ _ _ h0 h => codeAny_compStart_list h0 h⟩
def mApp (te : TE) : TM := fun p σ H Q => te σ H fun y H1 => ∃ ys, H1 p = some (.lst ys) ∧ ys.length < sizeLine ∧ Q (upd H1 p (.lst (ys ++ [y])))
theorem pm_list {X : Cx} {elt : Expr} {te : TE} (h : PE X elt te) : PM X (emitL elt) (mApp te) := by
  intro pins s σ H D Q I hw
  unfold emitL
  refine wpAny_bind (thn (h pins s σ H _ I hw) fun u s1 ⟨y, H1, I1, r1, ys, e1, l1, q1⟩ => wpAny_bind ?_)
  obtain ⟨z, its, n, r, hl, e⟩ := I1.lstM e1
  refine call_meets F.slot_list_append ⟨_, e, rfl⟩ F.entry_list_append (F.args_list_append_2 _ _) (PySem.list_append D its.toArray n u (by rw [List.size_toArray]; omega)) ⟨e, ?_⟩
  refine wpAny_pure ⟨_, I1.lset (its' := its ++ [u]) e1 e (by simp) (r.append (.cons r1 .nil)) ?_, q1⟩
  rw [List.length_append, List.length_singleton]
  omega
/-- [elt for tg in iter if ..] -/
def tLC (wi : TI) (n : Nat) (fr : List Nat) (g : TG) (tc : TT) (te : TE) : TE := fun σ H Q => tCompB (.lst []) wi n fr g tc (mApp te) σ H fun p H' => Q (.ref p) H'
section
variable {X : Cx} {sc : Scope} {own : List Str} {fr : List Nat} {elt tg iter : Expr} {ifs : List Expr} {wi : TI} {g : TG} {tc : TT} {te : TE} {pos : Pos}
theorem pe_lc (hc : X.calm = true) (S : CompScope X sc fr) (hi : PI X tg iter wi)
    (hg : ∀ C s₀ H₀ fp, PG (compCx X sc own fr C s₀ H₀ fp) tg g) (ht : ∀ C s₀ H₀ fp, PTs (compCx X sc own fr C s₀ H₀ fp) ifs tc) (he : ∀ C s₀ H₀ fp, PE (compCx X sc own fr C s₀ H₀ fp) elt te)
    (hs : ∀ x, foldedSetIterable iter X.env x = pure x := by intro _; rfl) : PE X (.ListComp elt [⟨tg, iter, ifs, 0⟩] sc pos) (tLC wi own.length fr g tc te) := by
  intro pins s σ H Q I h
  rw [eval_ListComp]
  exact comp_value form_list hc S hi pnew_list hg ht (fun _ _ _ _ => pm_list (he _ _ _ _)) hs I h
end

/-! ### dict comprehensions -/
def emitD (kx vx : Expr) : Env → Addr → Sem Unit := fun env D => do
  let kv ← eval kx env
  let vv ← holding [kv] (eval vx env)
  standAt { kx.pos with endLine := vx.pos.endLine, endCol := vx.pos.endCol }
  holding [kv, vv] (dictSet D kv vv)
theorem form_dict {kx vx tg iter : Expr} {ifs : List Expr} {sc : Scope} {pos : Pos} : CompForm (.DictComp kx vx [⟨tg, iter, ifs, 0⟩] sc pos) tg iter ifs (emitD kx vx) :=
  ⟨⟨_, rfl⟩, fun _ _ _ _ => rfl, fun _ _ _ _ _ => rfl, fun _ _ _ => rfl, fun _ _ _ _ _ _ _ _ h0 h => codeAny_compStart_dict h0 h⟩
def mPut (tk tv : TE) : TM := fun p σ H Q => tk σ H fun k H1 => tv σ H1 fun v H2 => ∃ kvs key, H2 p = some (.dK kvs) ∧ k = kV key ∧ kvs.length < sizeLine ∧ Q (upd H2 p (.dK (putK kvs key v)))
theorem pm_dict {X : Cx} {kx vx : Expr} {tk tv : TE} (hk : PE X kx tk) (hv : PE X vx tv) : PM X (emitD kx vx) (mPut tk tv) := by
  intro pins s σ H D Q I hw
  unfold emitD
  refine wpAny_bind (thn (hk pins s σ H _ I hw) fun u s1 ⟨k, H1, I1, r1, q1⟩ => wpAny_bind (wpAny_holding (thn (hv pins s1 σ H1 _ I1 q1) fun w s2 ⟨v, H2, I2, r2, kvs, key, e, ey, l, q2⟩ => ?_)))
  refine wpAny_bind (wpAny_standAt (wpAny_holding ?_))
  subst ey
  obtain ⟨z, hd, vs, rel, dd⟩ := dk_of I2.hok e
  have hz : vs.length ≤ sizeLine := by rw [← rel.length]; exact z
  have hl : (putK kvs key v).length ≤ sizeLine := by have := length_putK kvs key v; omega
  refine wpAny_dictSet_pairs (hsz := hz) (kV_is r1) dd fun h' dd' hs => ⟨_, ?_, q2⟩
  have he : ∃ q, h'.get? D = some q := let ⟨q, _, _, hq, _⟩ := dd'; ⟨q, hq⟩
  exact d_write I2 (by rw [e]; exact True.intro) hs he (dk_new hl hd (rel.put key r2) dd')
/-- {kx: vx for tg in iter if ..} -/
def tDC (wi : TI) (n : Nat) (fr : List Nat) (g : TG) (tc : TT) (tk tv : TE) : TE := fun σ H Q => tCompB (.dK []) wi n fr g tc (mPut tk tv) σ H fun p H' => Q (.ref p) H'
section
variable {X : Cx} {sc : Scope} {own : List Str} {fr : List Nat} {kx vx tg iter : Expr} {ifs : List Expr} {wi : TI} {g : TG} {tc : TT} {tk tv : TE} {pos : Pos}
theorem pe_dc (hc : X.calm = true) (S : CompScope X sc fr) (hi : PI X tg iter wi)
    (hg : ∀ C s₀ H₀ fp, PG (compCx X sc own fr C s₀ H₀ fp) tg g) (ht : ∀ C s₀ H₀ fp, PTs (compCx X sc own fr C s₀ H₀ fp) ifs tc) (hk : ∀ C s₀ H₀ fp, PE (compCx X sc own fr C s₀ H₀ fp) kx tk) (hv : ∀ C s₀ H₀ fp, PE (compCx X sc own fr C s₀ H₀ fp) vx tv)
    (hs : ∀ x, foldedSetIterable iter X.env x = pure x := by intro _; rfl) : PE X (.DictComp kx vx [⟨tg, iter, ifs, 0⟩] sc pos) (tDC wi own.length fr g tc tk tv) := by
  intro pins s σ H Q I h
  show wpAny _ _ (comprehension (.DictComp kx vx [⟨tg, iter, ifs, 0⟩] sc pos) sc X.env _ newDict false (eval iter X.env)) _ _ s
  exact comp_value form_dict hc S hi pnew_dict hg ht (fun _ _ _ _ => pm_dict (hk _ _ _ _) (hv _ _ _ _)) hs I h
end

/-! ### forms one uses: by an invariant over the turns -/
/-- over a list -/
theorem comp_list {K : PySem.W.Frag} {a : Addr} {xs : List V} {g : TG} {tc : TT} {tm : TM} {σ : St} {H : Hp} {p : Addr} {Q : Hp → Prop} (Pv : Nat → St → Hp → Prop) (h0 : Pv 0 σ H)
    (hl : ∀ i σ H, i ≤ xs.length → Pv i σ H → SqL K H a xs)
    (hs : ∀ i x σ H, xs[i]? = some x → Pv i σ H → g x σ H fun σ3 H3 => tc σ3 H3 fun b H4 => if b = true then tm p σ3 H4 (Pv (i + 1) σ3) else Pv (i + 1) σ3 H4) (hd : ∀ σ H, Pv xs.length σ H → Q H) :
    ∃ W : Nat → Nat → St → Hp → Prop, (∃ m, W 0 m σ H) ∧
    ∀ i m σ' H', W i m σ' H' → ((Itl K a).stop i H' ∧ Q H') ∨ ((Itl K a).go i H' ∧ ∃ N : St → Hp → Prop, (∀ σ2 H2, N σ2 H2 → ∃ m', m' < m ∧ W (i + 1) m' σ2 H2) ∧ ∀ x H2, (Itl K a).yld i H' x H2 → g x σ' H2 fun σ3 H3 => tc σ3 H3 fun b H4 =>
      if b = true then tm p σ3 H4 (N σ3) else N σ3 H4) := by
  refine ⟨fun i m σ H => m = xs.length - i ∧ i ≤ xs.length ∧ Pv i σ H, ⟨xs.length, by simp, Nat.zero_le _, h0⟩, ?_⟩
  rintro i m σ H ⟨rfl, hi, pv⟩
  have q := hl i σ H hi pv
  by_cases hlt : i < xs.length
  · refine .inr ⟨⟨xs, xs[i], q, by simp [hlt]⟩, Pv (i + 1), fun σ' H' p' => ⟨xs.length - (i + 1), by omega, rfl, hlt, p'⟩, fun x H' y => ?_⟩
    obtain ⟨e, y⟩ := y
    subst e
    exact hs i x σ _ (y xs q) pv
  · have e : i = xs.length := by omega
    subst e
    exact .inl ⟨⟨xs, q, Nat.le_refl _⟩, hd σ H pv⟩
theorem comp_range {lo : Int} {n : Nat} {g : TG} {tc : TT} {tm : TM} {σ : St} {H : Hp} {p : Addr} {Q : Hp → Prop} (Pv : Nat → St → Hp → Prop) (h0 : Pv 0 σ H)
    (hs : ∀ i σ H, i < n → Pv i σ H → g (.int (lo + i)) σ H fun σ3 H3 => tc σ3 H3 fun b H4 => if b = true then tm p σ3 H4 (Pv (i + 1) σ3) else Pv (i + 1) σ3 H4) (hd : ∀ σ H, Pv n σ H → Q H) :
    ∃ W : Nat → Nat → St → Hp → Prop, (∃ m, W 0 m σ H) ∧
    ∀ i m σ' H', W i m σ' H' → ((Itr lo n).stop i H' ∧ Q H') ∨ ((Itr lo n).go i H' ∧ ∃ N : St → Hp → Prop, (∀ σ2 H2, N σ2 H2 → ∃ m', m' < m ∧ W (i + 1) m' σ2 H2) ∧ ∀ x H2, (Itr lo n).yld i H' x H2 → g x σ' H2 fun σ3 H3 => tc σ3 H3 fun b H4 =>
      if b = true then tm p σ3 H4 (N σ3) else N σ3 H4) := by
  refine ⟨fun i m σ H => m = n - i ∧ i ≤ n ∧ Pv i σ H, ⟨n, by simp, Nat.zero_le _, h0⟩, ?_⟩
  rintro i m σ H ⟨rfl, hi, pv⟩
  by_cases hlt : i < n
  · refine .inr ⟨hlt, Pv (i + 1), fun σ' H' p' => ⟨n - (i + 1), by omega, rfl, hlt, p'⟩, fun x H' y => ?_⟩
    obtain ⟨e, y⟩ := y
    subst e y
    exact hs i σ _ hlt pv
  · have e : i = n := by omega
    subst e
    exact .inl ⟨Nat.le_refl _, hd σ H pv⟩
end L2

end
section
set_option Elab.async false
set_option linter.all false
set_option maxRecDepth 100000
set_option maxHeartbeats 4000000
namespace L2
open PySem PySem.Spec PyProof.Rows

/-! ### data, without addresses -/
inductive DD where
  | non | bl (b : Bool) | int (i : Int) | str (x : Str) | lst (ds : List DD) | tup (ds : List DD)
mutual
def dep : DD → Nat
  | .lst ds => depL ds + 1
  | .tup ds => depL ds + 1
  | _ => 0
def depL : List DD → Nat
  | [] => 0
  | d :: ds => max (dep d) (depL ds)
end
mutual
def eqD : DD → DD → Bool
  | .non, .non => true
  | .bl a, .bl b => a == b
  | .bl a, .int b => (if a then 1 else 0) == b
  | .int a, .bl b => a == (if b then 1 else 0)
  | .int a, .int b => a == b
  | .str a, .str b => a == b
  | .lst as, .lst bs => eqDs as bs
  | .tup as, .tup bs => eqDs as bs
  | _, _ => false
def eqDs : List DD → List DD → Bool
  | [], [] => true
  | a :: as, b :: bs => eqD a b && eqDs as bs
  | _, _ => false
end
mutual
def Den (H : Hp) (v : V) : DD → Prop
  | .non => v = .non
  | .bl b => v = .bl b
  | .int i => v = .int i
  | .str x => v = .str x
  | .lst ds => ∃ a xs, v = .ref a ∧ H a = some (.lst xs) ∧ Dens H xs ds
  | .tup ds => ∃ a xs, v = .ref a ∧ H a = some (.tup xs) ∧ Dens H xs ds
def Dens (H : Hp) (xs : List V) : List DD → Prop
  | [] => xs = []
  | d :: ds => ∃ x r, xs = x :: r ∧ Den H x d ∧ Dens H r ds
end
theorem depL_mem : ∀ {ds : List DD} {d : DD}, d ∈ ds → dep d ≤ depL ds
  | d :: ds, e, h => by
    rw [depL]
    rcases List.mem_cons.mp h with rfl | h
    · omega
    · have := depL_mem h
      omega
theorem Dens.length : ∀ {H : Hp} {xs : List V} {ds : List DD}, Dens H xs ds → xs.length = ds.length
  | _, _, [], h => by rw [Dens] at h; subst h; rfl
  | _, _, d :: ds, h => by
    rw [Dens] at h
    obtain ⟨x, r, rfl, _, h⟩ := h
    simp [Dens.length h]
theorem Dens.get {H : Hp} : ∀ {xs : List V} {ds : List DD} {i : Nat} {d : DD}, Dens H xs ds → ds[i]? = some d → ∃ x, xs[i]? = some x ∧ Den H x d
  | _, [], _, _, _, e => by simp at e
  | _, d :: ds, i, c, h, e => by
    rw [Dens] at h
    obtain ⟨x, r, rfl, h1, h⟩ := h
    cases i with
    | zero => simp at e; subst e; exact ⟨x, rfl, h1⟩
    | succ i =>
      obtain ⟨y, e1, e2⟩ := Dens.get (i := i) h (by simpa using e)
      exact ⟨y, by simpa using e1, e2⟩
theorem Dens.get' {H : Hp} {xs : List V} {ds : List DD} {i : Nat} {x : V} (h : Dens H xs ds) (e : xs[i]? = some x) : ∃ d, ds[i]? = some d ∧ Den H x d := by
  have hi : i < ds.length := by rw [← h.length]; exact (List.getElem?_eq_some_iff.mp e).1
  obtain ⟨y, e1, e2⟩ := h.get (List.getElem?_eq_getElem hi)
  rw [e] at e1
  cases e1
  exact ⟨_, List.getElem?_eq_getElem hi, e2⟩
theorem Dens.ints {H : Hp} : ∀ {ns : List Int}, Dens H (ns.map V.int) (ns.map DD.int)
  | [] => rfl
  | n :: ns => ⟨_, _, rfl, rfl, Dens.ints⟩
/-- a heap that has at least these things -/
def Sub (G H : Hp) : Prop := ∀ a o, G a = some o → H a = some o
theorem Sub.refl {H : Hp} : Sub H H := fun _ _ h => h
theorem Sub.trans {A B C : Hp} (h : Sub A B) (h' : Sub B C) : Sub A C := fun a o e => h' a o (h a o e)
theorem Sub.upd {G H : Hp} {p : Addr} {o : HO} (h : Sub G H) (n : G p = none) : Sub G (upd H p o) := fun a u e => by
  rw [upd_ne (ne_of_none e n)]
  exact h a u e
theorem Sub.new {H : Hp} {p : Addr} {o : HO} (n : H p = none) : Sub H (L2.upd H p o) := Sub.upd Sub.refl n
theorem Sub.free {G H : Hp} {p : Addr} (h : Sub G H) (n : H p = none) : G p = none := by
  cases e : G p with
  | none => rfl
  | some o => rw [h p o e] at n; cases n
mutual
theorem Den.inj {H : Hp} : ∀ {v : V} (d e : DD), Den H v d → Den H v e → d = e
  | v, .non, e, h, h' => by
    rw [Den] at h
    subst h
    cases e <;> rw [Den] at h' <;> first | rfl | (cases h'; done) | (obtain ⟨_, _, z, _⟩ := h'; cases z)
  | v, .bl b, e, h, h' => by
    rw [Den] at h
    subst h
    cases e <;> rw [Den] at h' <;> first | (cases h'; rfl) | (cases h'; done) | (obtain ⟨_, _, z, _⟩ := h'; cases z)
  | v, .int b, e, h, h' => by
    rw [Den] at h
    subst h
    cases e <;> rw [Den] at h' <;> first | (cases h'; rfl) | (cases h'; done) | (obtain ⟨_, _, z, _⟩ := h'; cases z)
  | v, .str b, e, h, h' => by
    rw [Den] at h
    subst h
    cases e <;> rw [Den] at h' <;> first | (cases h'; rfl) | (cases h'; done) | (obtain ⟨_, _, z, _⟩ := h'; cases z)
  | v, .lst ds, e, h, h' => by
    rw [Den] at h
    obtain ⟨a, xs, rfl, h1, h2⟩ := h
    cases e <;> rw [Den] at h' <;> first | (cases h'; done) | (obtain ⟨b, ys, z, h3, h4⟩ := h'; cases z; rw [h1] at h3; cases h3; done) | (obtain ⟨b, ys, z, h3, h4⟩ := h'; cases z; rw [h1] at h3; cases h3; rw [Dens.inj ds _ h2 h4])
  | v, .tup ds, e, h, h' => by
    rw [Den] at h
    obtain ⟨a, xs, rfl, h1, h2⟩ := h
    cases e <;> rw [Den] at h' <;> first | (cases h'; done) | (obtain ⟨b, ys, z, h3, h4⟩ := h'; cases z; rw [h1] at h3; cases h3; done) | (obtain ⟨b, ys, z, h3, h4⟩ := h'; cases z; rw [h1] at h3; cases h3; rw [Dens.inj ds _ h2 h4])
theorem Dens.inj {H : Hp} : ∀ {xs : List V} (ds es : List DD), Dens H xs ds → Dens H xs es → ds = es
  | _, [], es, h, h' => by
    rw [Dens] at h
    subst h
    cases es with
    | nil => rfl
    | cons e es => obtain ⟨_, _, z, _⟩ := h'; cases z
  | _, d :: ds, es, h, h' => by
    rw [Dens] at h
    obtain ⟨x, r, rfl, h1, h2⟩ := h
    cases es with
    | nil => cases h'
    | cons e es =>
      obtain ⟨y, q, z, h3, h4⟩ := h'
      cases z
      rw [Den.inj d e h1 h3, Dens.inj ds es h2 h4]
end
mutual
theorem eqD_refl : ∀ d : DD, eqD d d = true
  | .non => by simp [eqD]
  | .bl b => by simp [eqD]
  | .int b => by simp [eqD]
  | .str b => by simp [eqD]
  | .lst ds => by rw [eqD]; exact eqDs_refl ds
  | .tup ds => by rw [eqD]; exact eqDs_refl ds
theorem eqDs_refl : ∀ ds : List DD, eqDs ds ds = true
  | [] => by simp [eqDs]
  | d :: ds => by rw [eqDs, eqD_refl d, eqDs_refl ds]; rfl
end
theorem eqDs_all : ∀ as bs : List DD, eqDs as bs = ((List.range (min as.length bs.length)).all (fun j => eqD (as.getD j .non) (bs.getD j .non)) && as.length == bs.length)
  | [], [] => by simp [eqDs]
  | [], b :: bs => by simp [eqDs]
  | a :: as, [] => by simp [eqDs]
  | a :: as, b :: bs => by
    rw [eqDs, eqDs_all as bs]
    rw [show min (a :: as).length (b :: bs).length = min as.length bs.length + 1 by simp only [List.length_cons]; omega]
    rw [List.range_succ_eq_map, List.all_cons, List.all_map]
    simp only [List.getD_cons_zero, List.length_cons, Bool.and_assoc]
    congr 1
    congr 1
    have : ∀ (m n : Nat), (m + 1 == n + 1) = (m == n) := fun m n => by
      by_cases h : m = n
      · subst h; simp
      · rw [beq_eq_false_iff_ne.mpr h, beq_eq_false_iff_ne.mpr (by omega)]
    rw [this]

section
variable {X : Cx} {pins : List (Addr × Obj)} {σ : St} {H : Hp} {s : Shared}
open PySem.SeqAt
def EqAll (A : Around) (s : Shared) (u v : Value) (b : Bool) : Prop := EqAt A s u v b ∧ RcAt A s u v b ∧ RcNeAt A s u v (!b)
theorem vals_getD {H : Hp} {xs : List V} {ds : List DD} {us : List Value} (h : Dens H xs ds) (r : Vals xs us) {j : Nat} (hj : j < us.toArray.size) : ∃ x d, Den H x d ∧ RelV x (us.toArray[j]) ∧ ds.getD j .non = d ∧ d ∈ ds := by
  rw [List.size_toArray] at hj
  have hj' : j < xs.length := by rw [r.length]; exact hj
  obtain ⟨u, e1, e2⟩ := r.get (List.getElem?_eq_getElem hj')
  obtain ⟨d, e3, e4⟩ := h.get' (List.getElem?_eq_getElem hj')
  refine ⟨_, d, e4, ?_, ?_, List.mem_of_getElem? e3⟩
  · rw [List.getElem?_eq_getElem hj] at e1
    cases e1
    simpa using e2
  · rw [List.getD_eq_getElem?_getD, e3]; rfl
theorem eq_all (I : Inv X pins σ H s) : ∀ (n : Nat) (d e : DD) (A : Around) (x y : V) (u v : Value), dep d ≤ n → Den H x d → Den H y e → RelV x u → RelV y v → A.units + n < cLine → EqAll A s u v (eqD d e) := by
  intro n
  induction n with
  | zero =>
    intro d e A x y u v hd hx hy rx ry hu
    cases d with
    | lst ds => simp [dep] at hd
    | tup ds => simp [dep] at hd
    | non =>
      rw [Den] at hx; subst hx; cases rx
      cases e with
      | non => rw [Den] at hy; subst hy; cases ry; exact ⟨EqAt.same _, RcAt.none_none, RcNeAt.none_none⟩
      | bl b => rw [Den] at hy; subst hy; cases ry; exact ⟨EqAt.none_bool b, RcAt.none_bool b, RcNeAt.none_bool b⟩
      | int b => rw [Den] at hy; subst hy; obtain ⟨t, rfl⟩ := ry; exact ⟨EqAt.none_int b t, RcAt.none_int b t, RcNeAt.none_int b t⟩
      | str b => rw [Den] at hy; subst hy; obtain ⟨t, rfl⟩ := ry; exact ⟨EqAt.none_str b t, RcAt.none_str b t, RcNeAt.none_str b t⟩
      | lst es => rw [Den] at hy; obtain ⟨a, xs, rfl, h1, h2⟩ := hy; cases ry; obtain ⟨its, _, p, _⟩ := I.list (SqL.of h1); exact ⟨EqAt.none_list p.isList hu, RcAt.none_list p.isList hu, RcNeAt.none_list p.isList hu⟩
      | tup es => rw [Den] at hy; obtain ⟨a, xs, rfl, h1, h2⟩ := hy; cases ry; obtain ⟨its, _, p, _⟩ := I.tuple (SqT.of h1); exact ⟨EqAt.none_tuple p hu, RcAt.none_tuple p hu, RcNeAt.none_tuple p hu⟩
    | bl a =>
      rw [Den] at hx; subst hx; cases rx
      cases e with
      | non => rw [Den] at hy; subst hy; cases ry; exact ⟨EqAt.bool_none a, RcAt.bool_none a, RcNeAt.bool_none a⟩
      | bl b => rw [Den] at hy; subst hy; cases ry; exact ⟨EqAt.bool_bool a b, RcAt.bool_bool a b, RcNeAt.bool_bool a b⟩
      | int b => rw [Den] at hy; subst hy; obtain ⟨t, rfl⟩ := ry; exact ⟨EqAt.bool_int a b t, RcAt.bool_int a b t, RcNeAt.bool_int a b t⟩
      | str b => rw [Den] at hy; subst hy; obtain ⟨t, rfl⟩ := ry; exact ⟨EqAt.bool_str a b t, RcAt.bool_str a b t, RcNeAt.bool_str a b t⟩
      | lst es => rw [Den] at hy; obtain ⟨b, xs, rfl, h1, h2⟩ := hy; cases ry; obtain ⟨its, _, p, _⟩ := I.list (SqL.of h1); exact ⟨EqAt.bool_list a p.isList hu, RcAt.bool_list a p.isList hu, RcNeAt.bool_list a p.isList hu⟩
      | tup es => rw [Den] at hy; obtain ⟨b, xs, rfl, h1, h2⟩ := hy; cases ry; obtain ⟨its, _, p, _⟩ := I.tuple (SqT.of h1); exact ⟨EqAt.bool_tuple a p hu, RcAt.bool_tuple a p hu, RcNeAt.bool_tuple a p hu⟩
    | int a =>
      rw [Den] at hx; subst hx; obtain ⟨t', rfl⟩ := rx
      cases e with
      | non => rw [Den] at hy; subst hy; cases ry; exact ⟨EqAt.int_none a t', RcAt.int_none a t', RcNeAt.int_none a t'⟩
      | bl b => rw [Den] at hy; subst hy; cases ry; exact ⟨EqAt.int_bool a t' b, RcAt.int_bool a t' b, RcNeAt.int_bool a t' b⟩
      | int b => rw [Den] at hy; subst hy; obtain ⟨t, rfl⟩ := ry; exact ⟨EqAt.int_int a t' b t, RcAt.int_int a t' b t, RcNeAt.int_int a t' b t⟩
      | str b => rw [Den] at hy; subst hy; obtain ⟨t, rfl⟩ := ry; exact ⟨EqAt.int_str a t' b t, RcAt.int_str a t' b t, RcNeAt.int_str a t' b t⟩
      | lst es => rw [Den] at hy; obtain ⟨b, xs, rfl, h1, h2⟩ := hy; cases ry; obtain ⟨its, _, p, _⟩ := I.list (SqL.of h1); exact ⟨EqAt.int_list a t' p.isList hu, RcAt.int_list a t' p.isList hu, RcNeAt.int_list a t' p.isList hu⟩
      | tup es => rw [Den] at hy; obtain ⟨b, xs, rfl, h1, h2⟩ := hy; cases ry; obtain ⟨its, _, p, _⟩ := I.tuple (SqT.of h1); exact ⟨EqAt.int_tuple a t' p hu, RcAt.int_tuple a t' p hu, RcNeAt.int_tuple a t' p hu⟩
    | str a =>
      rw [Den] at hx; subst hx; obtain ⟨t', rfl⟩ := rx
      cases e with
      | non => rw [Den] at hy; subst hy; cases ry; exact ⟨EqAt.str_none a t', RcAt.str_none a t', RcNeAt.str_none a t'⟩
      | bl b => rw [Den] at hy; subst hy; cases ry; exact ⟨EqAt.str_bool a t' b, RcAt.str_bool a t' b, RcNeAt.str_bool a t' b⟩
      | int b => rw [Den] at hy; subst hy; obtain ⟨t, rfl⟩ := ry; exact ⟨EqAt.str_int a t' b t, RcAt.str_int a t' b t, RcNeAt.str_int a t' b t⟩
      | str b => rw [Den] at hy; subst hy; obtain ⟨t, rfl⟩ := ry; exact ⟨EqAt.str_str a t' b t, RcAt.str_str a t' b t, RcNeAt.str_str a t' b t⟩
      | lst es => rw [Den] at hy; obtain ⟨b, xs, rfl, h1, h2⟩ := hy; cases ry; obtain ⟨its, _, p, _⟩ := I.list (SqL.of h1); exact ⟨EqAt.str_list a t' p.isList hu, RcAt.str_list a t' p.isList hu, RcNeAt.str_list a t' p.isList hu⟩
      | tup es => rw [Den] at hy; obtain ⟨b, xs, rfl, h1, h2⟩ := hy; cases ry; obtain ⟨its, _, p, _⟩ := I.tuple (SqT.of h1); exact ⟨EqAt.str_tuple a t' p hu, RcAt.str_tuple a t' p hu, RcNeAt.str_tuple a t' p hu⟩
  | succ n ih =>
    intro d e A x y u v hd hx hy rx ry hu
    have hu0 : A.units < cLine := by omega
    cases d with
    | lst ds =>
      have hdl : ∀ c ∈ ds, dep c ≤ n := fun c hc => by have := depL_mem hc; rw [dep] at hd; omega
      have hxd := hx
      rw [Den] at hx; obtain ⟨a, xs, rfl, h1, h2⟩ := hx; cases rx
      obtain ⟨its, r, p, _⟩ := I.list (SqL.of h1)
      cases e with
      | non => rw [Den] at hy; subst hy; cases ry; exact ⟨EqAt.list_none p.isList hu0, RcAt.list_none p.isList hu0, RcNeAt.list_none p.isList hu0⟩
      | bl b => rw [Den] at hy; subst hy; cases ry; exact ⟨EqAt.list_bool b p.isList hu0, RcAt.list_bool b p.isList hu0, RcNeAt.list_bool b p.isList hu0⟩
      | int b => rw [Den] at hy; subst hy; obtain ⟨t, rfl⟩ := ry; exact ⟨EqAt.list_int b t p.isList hu0, RcAt.list_int b t p.isList hu0, RcNeAt.list_int b t p.isList hu0⟩
      | str b => rw [Den] at hy; subst hy; obtain ⟨t, rfl⟩ := ry; exact ⟨EqAt.list_str b t p.isList hu0, RcAt.list_str b t p.isList hu0, RcNeAt.list_str b t p.isList hu0⟩
      | tup es => rw [Den] at hy; obtain ⟨b, ys, rfl, h3, h4⟩ := hy; cases ry; obtain ⟨its', _, p', _⟩ := I.tuple (SqT.of h3); exact ⟨EqAt.list_tuple p.isList p' hu0, RcAt.list_tuple p.isList p' hu0, RcNeAt.list_tuple p.isList p' hu0⟩
      | lst es =>
        have hyd := hy
        rw [Den] at hy; obtain ⟨b, ys, rfl, h3, h4⟩ := hy; cases ry
        obtain ⟨its', r', p', _⟩ := I.list (SqL.of h3)
        have l1 := h2.length; have l2 := h4.length; have l3 := r.length; have l4 := r'.length
        have ch : ∀ j (g1 : j < its.toArray.size) (g2 : j < its'.toArray.size), EqAt A.in1 s its.toArray[j] its'.toArray[j] (eqD (ds.getD j .non) (es.getD j .non)) := fun j g1 g2 => by
          obtain ⟨x1, d1, a1, a2, a3, a4⟩ := vals_getD h2 r g1
          obtain ⟨x2, d2, b1, b2, b3, b4⟩ := vals_getD h4 r' g2
          rw [a3, b3]
          exact (ih d1 d2 A.in1 x1 x2 _ _ (hdl d1 a4) a1 b1 a2 b2 (by show A.units + 1 + n < _; omega)).1
        have main : RcAt A s (.ref a) (.ref b) (eqD (.lst ds) (.lst es)) ∧ RcNeAt A s (.ref a) (.ref b) (!eqD (.lst ds) (.lst es)) := by
          rw [eqD, eqDs_all]
          by_cases hl : ds.length = es.length
          · have hs : its.toArray.size = its'.toArray.size := by simp; omega
            have e1 : min ds.length es.length = its.toArray.size := by simp; omega
            have e2 : (ds.length == es.length) = true := by simpa using hl
            rw [e1, e2, Bool.and_true]
            exact ⟨RcAt.lists p.isList p'.isList hs hu0 ch, RcNeAt.lists p.isList p'.isList hs hu0 ch⟩
          · have hs : (its.toArray.size != its'.toArray.size) = true := by simp; omega
            have e2 : (ds.length == es.length) = false := by simpa using hl
            rw [e2, Bool.and_false]
            exact ⟨RcAt.lists_lengths p.isList p'.isList hs hu0, RcNeAt.lists_lengths p.isList p'.isList hs hu0⟩
        refine ⟨?_, main⟩
        by_cases hab : a = b
        · subst hab
          have := Den.inj _ _ hxd hyd
          rw [this, eqD_refl]
          exact EqAt.same _
        · exact EqAt.of_refs hab main.1
    | tup ds =>
      have hdl : ∀ c ∈ ds, dep c ≤ n := fun c hc => by have := depL_mem hc; rw [dep] at hd; omega
      have hxd := hx
      rw [Den] at hx; obtain ⟨a, xs, rfl, h1, h2⟩ := hx; cases rx
      obtain ⟨its, r, p, _⟩ := I.tuple (SqT.of h1)
      cases e with
      | non => rw [Den] at hy; subst hy; cases ry; exact ⟨EqAt.tuple_none p hu0, RcAt.tuple_none p hu0, RcNeAt.tuple_none p hu0⟩
      | bl b => rw [Den] at hy; subst hy; cases ry; exact ⟨EqAt.tuple_bool b p hu0, RcAt.tuple_bool b p hu0, RcNeAt.tuple_bool b p hu0⟩
      | int b => rw [Den] at hy; subst hy; obtain ⟨t, rfl⟩ := ry; exact ⟨EqAt.tuple_int b t p hu0, RcAt.tuple_int b t p hu0, RcNeAt.tuple_int b t p hu0⟩
      | str b => rw [Den] at hy; subst hy; obtain ⟨t, rfl⟩ := ry; exact ⟨EqAt.tuple_str b t p hu0, RcAt.tuple_str b t p hu0, RcNeAt.tuple_str b t p hu0⟩
      | lst es => rw [Den] at hy; obtain ⟨b, ys, rfl, h3, h4⟩ := hy; cases ry; obtain ⟨its', _, p', _⟩ := I.list (SqL.of h3); exact ⟨EqAt.tuple_list p p'.isList hu0, RcAt.tuple_list p p'.isList hu0, RcNeAt.tuple_list p p'.isList hu0⟩
      | tup es =>
        have hyd := hy
        rw [Den] at hy; obtain ⟨b, ys, rfl, h3, h4⟩ := hy; cases ry
        obtain ⟨its', r', p', _⟩ := I.tuple (SqT.of h3)
        have l1 := h2.length; have l2 := h4.length; have l3 := r.length; have l4 := r'.length
        have ch : ∀ j (g1 : j < its.toArray.size) (g2 : j < its'.toArray.size), EqAt A.in1 s its.toArray[j] its'.toArray[j] (eqD (ds.getD j .non) (es.getD j .non)) := fun j g1 g2 => by
          obtain ⟨x1, d1, a1, a2, a3, a4⟩ := vals_getD h2 r g1
          obtain ⟨x2, d2, b1, b2, b3, b4⟩ := vals_getD h4 r' g2
          rw [a3, b3]
          exact (ih d1 d2 A.in1 x1 x2 _ _ (hdl d1 a4) a1 b1 a2 b2 (by show A.units + 1 + n < _; omega)).1
        have main : RcAt A s (.ref a) (.ref b) (eqD (.tup ds) (.tup es)) ∧ RcNeAt A s (.ref a) (.ref b) (!eqD (.tup ds) (.tup es)) := by
          rw [eqD, eqDs_all]
          have e1 : min ds.length es.length = min its.toArray.size its'.toArray.size := by simp; omega
          have e2 : (ds.length == es.length) = (its.toArray.size == its'.toArray.size) := by
            rw [List.size_toArray, List.size_toArray, ← l1, ← l2, l3, l4]
          rw [e1, e2]
          exact ⟨RcAt.tuples p p' hu0 ch, RcNeAt.tuples p p' hu0 ch⟩
        refine ⟨?_, main⟩
        by_cases hab : a = b
        · subst hab
          have := Den.inj _ _ hxd hyd
          rw [this, eqD_refl]
          exact EqAt.same _
        · exact EqAt.of_refs hab main.1
    | non => exact ih .non e A x y u v (by simp [dep]) hx hy rx ry (by omega)
    | bl b => exact ih (.bl b) e A x y u v (by simp [dep]) hx hy rx ry (by omega)
    | int b => exact ih (.int b) e A x y u v (by simp [dep]) hx hy rx ry (by omega)
    | str b => exact ih (.str b) e A x y u v (by simp [dep]) hx hy rx ry (by omega)
/-- a == b, a != b of data -/
def rEqD : R2 := fun x y H Q => ∃ d e, Den H x d ∧ Den H y e ∧ dep d ≤ 60 ∧ Q (.bl (eqD d e)) H
def rNeD : R2 := fun x y H Q => ∃ d e, Den H x d ∧ Den H y e ∧ dep d ≤ 60 ∧ Q (.bl (!eqD d e)) H
theorem op_eqD {k : Nat} (hr : Room k X.A) : OpR X (compareOp .Eq) rEqD := by
  intro pins s σ H x y v u Q I rx ry h
  obtain ⟨d, e, h1, h2, h3, q⟩ := h
  have hu := hr.units
  exact (eq_all I 60 d e X.A x y _ _ h3 h1 h2 rx ry (by omega)).2.1 _ _ _ _ ⟨.bl _, H, I, rfl, q⟩
theorem op_neD {k : Nat} (hr : Room k X.A) : OpR X (compareOp .NotEq) rNeD := by
  intro pins s σ H x y v u Q I rx ry h
  obtain ⟨d, e, h1, h2, h3, q⟩ := h
  have hu := hr.units
  exact (eq_all I 60 d e X.A x y _ _ h3 h1 h2 rx ry (by omega)).2.2 _ _ _ _ ⟨.bl _, H, I, rfl, q⟩
end
end L2

end
section
set_option Elab.async false
set_option linter.all false
set_option maxRecDepth 100000
set_option maxHeartbeats 4000000
namespace L2
open PySem PySem.Spec PyProof.Rows

/-! ### an exception of an own class: isinstance -/
/-- what the text's exception class has -/
structure ExC (K : PySem.W.Frag) (C : Addr) : Prop where
  ga : PySem.W.findIn K (.ref C) "__getattribute__" = some (some (.builtin "BaseException.__getattribute__"))
  na : PySem.W.findIn K (.ref C) "__getattr__" = some none
  cl : PySem.W.findIn K (.ref C) "__class__" = some (some (.builtin "object.__class__"))
  gt : PySem.W.specialIn K (.builtin "object.__class__") "__get__" = some (some (.builtin "getset_descriptor.__get__"))
  tk : PySem.W.takesIn K (.builtin "object.__class__") = some true
  mo : PySem.W.mroIn K C (.type "object") = some true
  mb : PySem.W.mroIn K C (.type "BaseException") = some true
  ci : (PySem.W.clsIn K C).isSome = true
section
variable {prog : Program} {w : World} {A : Around} {E : Value → Shared → Prop} {s : Shared} {K : PySem.W.Frag} {x C : Addr}
open PySem.W PySem.Builtin PySem.Builtin.ObjectAttr PySem.Builtin.Getset_descriptor
end

/-! ### isinstance(x, c), isinstance(x, (c1, c2, ..)) -/
section
variable {X : Cx} {pins : List (Addr × Obj)} {σ : St} {H : Hp} {s : Shared} {A : Around} {E : Value → Shared → Prop} {Q : Value → Shared → Prop} {c : Value} {b : Bool}
end
end L2

end
section
set_option Elab.async false
set_option linter.all false
set_option maxRecDepth 100000
set_option maxHeartbeats 4000000
namespace L2
open PySem PySem.Spec PyProof.Rows

/-! ### an exception on its way -/
/-- behind a call that raised: hr the heap at the raise, B what stays of it -/
def CXE (P : Program) (w : World) : CXT := fun outer H s E e s' => ∃ (x C : Addr) (B hr : Heap) (a0 : Value) (H' : Hp), e = .ref x ∧ s'.os = s.os ∧ AllBare s'.gens ∧ Un (frs outer) [] H H' s.heap hr ∧ HOk P w H' hr ∧
  Heap.FlyingW B outer x (.ref C) a0 s'.heap ∧ hr.UpToSlots s'.heap ∧ hr.get? x = none ∧ (∀ b o, hr.get? b = some o → b ∉ frs outer → B.get? b = none → s.heap.objs.size ≤ b ∧ H' b = none) ∧
  (∀ b o, hr.get? b = some o → B.get? b = none ∨ B.get? b = some o) ∧ E (.ref C) none H'
section
variable {X : Cx} {pins : List (Addr × Obj)} {σ : St} {H : Hp} {s : Shared}
/-! ### the class's object -/
theorem own_obj {K : PySem.W.Frag} {h₀ : Heap} {C : Addr} {bmB : List Value} {newId : String} (X : K.In h₀) (q : PySem.W.excIn K C bmB newId = true) :
    ∃ bm N nm q bs hdct sn sub ab col dd k0 k1 k2 k3 k5 mN, h₀.get? C = some (excClassObj nm q C N bs bm hdct sn sub ab col dd k0 k1 k2 k3 k5 newId) ∧ h₀.Ns N mN ∧ mN "__init__" = none ∧ OwnTail h₀ bmB bm := by
  open PySem.W in
  unfold excIn at q
  split at q
  · rename_i dd cd sl ho
    split at q
    · rename_i C' bm k0 k1 k2 k3 n k5 hm hs
      simp only [Bool.and_eq_true, beq_iff_eq, Bool.not_eq_true'] at q
      obtain ⟨⟨⟨⟨⟨rfl, rfl⟩, hdel⟩, ht⟩, hok⟩, hni⟩ := q
      obtain ⟨nm, bs, mro, ns, qn, hd, sn, sub, ab, col, del⟩ := cd
      dsimp only at hm hdel hok hni
      subst hm hdel
      have hsl : sl = #[k0, k1, k2, k3, some (.builtin n), k5] := by
        obtain ⟨l⟩ := sl
        simp only at hs
        rw [hs]
      subst hsl
      exact ⟨bm, ns, nm, qn, bs, hd, sn, sub, ab, col, dd, k0, k1, k2, k3, k5, _, X _ _ ho, .of_isNs (PySem.W.isNs_of_in X hok), PySem.W.nsMap_none_of_in X hok hni, PySem.W.tail_of_in X ht⟩
    · cases q
  · cases q
abbrev veMro : List Value := [.type "ValueError", .type "Exception", .type "BaseException", .type "object"]
/-- an own exception class under ValueError -/
structure ExK (K : PySem.W.Frag) (C : Addr) : Prop where
  inn : PySem.W.excIn K C veMro "ValueError.__new__" = true
  kp : PySem.W.keepIn K (.ref C) = true
section
variable {C : Addr} {y : Str} {p pos : Pos} {e : Expr} {es : List Expr} {t : TA}
end
/-! ### raise C(e, ..) -/
/-- what is wanted of an exception made here -/
def Wants (X : Cx) (E : St → Addr → Hp → Prop) : Prop := ∀ (pins : List (Addr × Obj)) (σ : St) (H : Hp) (s : Shared) (h' : Heap) (x C : Addr) (vs : List Value), Inv X pins σ H s → Heap.MadeExcOf s.heap h' x (.ref C) vs → E σ C H → X.xe (.ref x) { s with heap := h' }
def tRaise (C : Addr) (E : St → Addr → Hp → Prop) (t : TA) : TS := fun _ σ H => t σ H fun vs H1 => vs.length ≤ sizeLine ∧ E σ C H1
section
variable {C : Addr} {y : Str} {np cpos pos : Pos} {e : Expr} {es : List Expr} {t : TA} {E : St → Addr → Hp → Prop}
theorem ps_raise (hc : X.calm = true) (M : ExK X.K C) (hg : Gl X y) (hm : X.mg y = some (.ref C)) (hw : Wants X E) (ha : PA X (e :: es) t) (hdb : (y == ("__debug__" : Str)) = false := by decide)
    (he : starEach (e :: es) X.env = (false, eval e X.env) :: starEach es X.env := by rfl) (hpl : (backTo cpos (starEach es X.env)).any (·.1) = false := by rfl) : PS X (.Raise (some (.Call (.Name y np) (e :: es) [] cpos)) none pos) (tRaise C E t) := by
  intro pins s σ H D I h
  obtain ⟨bm, N, nm, q, bs, hdct, sn, sub, ab, col, dd, k0, k1, k2, k3, k5, mN, hC, hN, hni, T⟩ := own_obj I.ok.mod.kin M.inn
  refine wpAny_Raise_call_subT (C := C) (nm := nm) (q := q) (N := N) (bs := bs) (bm := bm) (hdct := hdct) (sn := sn) (sub := sub) (ab := ab) (col := col) (dd := dd) (k0 := k0) (k1 := k1) (k2 := k2) (k3 := k3) (k5 := k5)
    PySem.F.excBase_ValueError (mN := mN) (T.hasType PySem.F.excBase_ValueError.hasBase) (I.ok.hd hc) (by rw [he]; show (false || (backTo cpos (starEach es X.env)).any (·.1)) = false; rw [hpl]; rfl) hni (ld_glob I hg hm ⟨rfl, ?_⟩ hdb)
  have ha' := ha cpos pins s σ H _ I h
  rw [he] at ha' ⊢
  refine Calls.evalArgs_plain (thn ha' fun us s1 ⟨vs, H1, I1, r, z, hE⟩ => ⟨rfl, by rw [← r.length]; exact z, I1.bk _ _ hC, hN.keeps I1.bk, T.keeps I1.bk, fun h' x m => ?_⟩)
  exact hw pins σ H1 s1 h' x C _ I1 m hE
end

/-! ### a def that may raise -/
section
variable {P : Program} {w : World} {K : PySem.W.Frag} {mg : Str → Option Value} {base : Heap} {N : List Str} {qual : Str} {scope : Scope} {f : Addr} {cd : Value} {A : Around} {outer : List Env} {s : Shared} {H : Hp} {E : XK}
theorem hide_of {h : Heap} {as : List Addr} {b : Addr} {o : Obj} (e : h.get? b = some o) : (PySem.W.hideAll h as).get? b = none ∨ (PySem.W.hideAll h as).get? b = some o := by
  by_cases hb : b ∈ as
  · exact .inl (PySem.W.hideAll_none as hb)
  · exact .inr (PySem.W.hideAll_get _ e hb)
theorem stays_hide {h : Heap} {as : List Addr} : (PySem.W.hideAll h as).StaysIn h := fun b o e => PySem.W.of_hideAll as e
theorem Inv.hidden {X : Cx} {pins : List (Addr × Obj)} {σ : St} {H : Hp} {s : Shared} (I : Inv X pins σ H s) : s.heap.FunFrames (PySem.W.hideAll s.heap (frs X.stack)) X.stack :=
  PySem.W.funFrames_hide I.stack fun env he b hb => List.mem_filterMap.mpr ⟨env, he, hb⟩
theorem wants_fn : Wants (cxOf (CXE P w) P w K mg base N qual scope f cd A outer s H E) (fun _ C H' => E (.ref C) none H') := by
  intro pins σ H1 s1 h' x C vs I m hE
  show wpAny (model P w) _ (leaving (envOfC qual scope s.heap.objs.size f cd) (.ref x)) _ _ _
  have hst : frs (cxOf (CXE P w) P w K mg base N qual scope f cd A outer s H E).stack = s.heap.objs.size :: frs outer := rfl
  refine wpAny_leaves_madeW (base := PySem.W.hideAll s1.heap (frs (cxOf (CXE P w) P w K mg base N qual scope f cd A outer s H E).stack)) (h := s1.heap) (env := envOfC qual scope s.heap.objs.size f cd) (outer := outer) I.ok.frames rfl stays_hide I.hidden m fun h2 t fl _ _ up => ?_
  refine ⟨x, C, _, s1.heap, _, H1, rfl, I.os, I.bare, I.base, I.hok, fl, (Heap.UpToSlots.of_keeps m.keeps).trans up, m.new, fun b o e hb n => ?_, fun b o e => hide_of e, hE⟩
  by_cases hs : b ∈ frs (cxOf (CXE P w) P w K mg base N qual scope f cd A outer s H E).stack
  · rw [hst] at hs
    rcases List.mem_cons.mp hs with z | z
    · subst z
      exact ⟨Nat.le_refl _, I.free⟩
    · exact absurd z hb
  · rw [PySem.W.hideAll_get _ e hs] at n
    cases n
theorem Fun.okE {x qual : Str} {st : Stmt} {f : Addr} {fd : FuncData} {N ps : List Str} {k : Nat} {sp : Sp} (F : Fun K x qual st f fd) (S : FnScope N ps (defScope st)) (len : ∀ vs H Q E, sp vs H Q E → vs.length = ps.length)
    (hbody : ∀ (cdv : Value) (A : Around) (outer : List Env) (s : Shared) (H : Hp) (vs : List V) (Q : VK) (E : XK), Room k (A.deeper (envOfC qual (defScope st) s.heap.objs.size f cdv)) → sp vs H Q E →
      ∃ t, PSs (cxOf (CXE P w) P w K mg base N qual (defScope st) f cdv A outer s H E) (defBody st) t ∧ t { nx := fun _ H' => Q .non H', rt := Q } (start N vs) H) : FnOk P w K mg base (CXE P w) (k + 1) f fd ps sp := by
  obtain ⟨oc, od, kV, doc, pm, an, cdv, ct, osl, rfl, lk, hcd⟩ := F.ex
  exact fn_of lk hcd S len fun A outer s H vs Q E hr hsp => hbody cdv A outer s H vs Q E hr hsp
end

/-! ### try: body, except C as n: suite -/
section
variable {X : Cx} {pins : List (Addr × Obj)} {σ : St} {H : Hp} {s : Shared} {T : St → Addr → Hp → Prop} {pn : List (Addr × Obj)} {x : Addr}
end
end
end L2

end
section
set_option Elab.async false
set_option linter.all false
set_option maxRecDepth 100000
set_option maxHeartbeats 4000000
namespace L2
open PySem PySem.Spec PyProof.Rows

/-! ### readings that compute -/
theorem PE.imp {X : Cx} {e : Expr} {t t' : TE} (h : PE X e t) (i : ∀ σ H Q, t' σ H Q → t σ H Q) : PE X e t' := fun pins s σ H Q I q => h pins s σ H Q I (i σ H Q q)
theorem OpR.imp {X : Cx} {f : Value → Value → Sem Value} {r r' : R2} (h : OpR X f r) (i : ∀ x y H Q, r' x y H Q → r x y H Q) : OpR X f r' := fun pins s σ H x y v u Q I rx ry q => h pins s σ H x y v u Q I rx ry (i x y H Q q)
theorem CallR.imp {X : Cx} {f : Value} {r r' : List V → Hp → VK → Prop} (h : CallR X f r) (i : ∀ xs H Q, r' xs H Q → r xs H Q) : CallR X f r' := fun pins s σ H xs us Q I rx q => h pins s σ H xs us Q I rx (i xs H Q q)

/-- a fork -/
@[irreducible] def ifB (b : Bool) (p q : Prop) : Prop := if b = true then p else q
theorem ifB_eq (b : Bool) (p q : Prop) : ifB b p q = (if b = true then p else q) := by unfold ifB; rfl
theorem ifB.mk {b : Bool} {p q : Prop} (h1 : b = true → p) (h2 : b = false → q) : ifB b p q := by
  rw [ifB_eq]
  cases b with
  | true => rw [if_pos rfl]; exact h1 rfl
  | false => rw [if_neg Bool.false_ne_true]; exact h2 rfl
theorem ifB.yes {b : Bool} {p q : Prop} (e : b = true) (h : p) : ifB b p q := ifB.mk (fun _ => h) fun z => by rw [e] at z; cases z
theorem ifB.no {b : Bool} {p q : Prop} (e : b = false) (h : q) : ifB b p q := ifB.mk (fun z => by rw [e] at z; cases z) fun _ => h
theorem ifB.dec {c : Prop} [Decidable c] {p q : Prop} (h1 : c → p) (h2 : ¬ c → q) : ifB (decide c) p q := ifB.mk (fun z => h1 (of_decide_eq_true z)) fun z => h2 (of_decide_eq_false z)

def tV (i : Nat) : TE := fun σ H Q => match σ[i]? with | some (some v) => Q v H | _ => False
def bV (x : V) (Q : Bool → Prop) : Prop := match x with | .bl k => Q k | _ => False
def cT (t : TE) : TT := fun σ H Q => t σ H fun x H' => bV x fun k => Q k H'
def cI (f : Int → Int → V) : R2 := fun x y H Q => match x, y with | .int i, .int j => Q (f i j) H | _, _ => False
/-- .. the result as a letter -/
def cL (C : Int → Int → Prop) (f : Int → Int → Int) (F : Int → Int → Int → Prop) : R2 := fun x y H Q => match x, y with | .int i, .int j => C i j ∧ ∀ m, m = f i j → F i j m → Q (.int m) H | _, _ => False
abbrev CMod (_ j : Int) : Prop := 0 < j
theorem cpow {i j : Int} (h : (decide (0 ≤ j) && decide (j ≤ 1000000) && decide (i.natAbs < 2 ^ 64)) = true) : CPow i j := by
  simp only [Bool.and_eq_true, decide_eq_true_eq] at h
  exact ⟨h.1.1, h.1.2, h.2⟩
abbrev CFdiv (_ j : Int) : Prop := 0 < j ∧ j.natAbs.log2 < 9000
def cAtom (neg : Bool) : R2 := fun x y H Q => match x, y with
  | .int i, .int j => Q (.bl (if neg then !decide (i = j) else decide (i = j))) H
  | .str i, .str j => Q (.bl (if neg then !decide (i = j) else decide (i = j))) H
  | .bl i, .bl j => Q (.bl (if neg then !decide (i = j) else decide (i = j))) H
  | _, _ => False
section
variable {X : Cx} {a b : Expr} {ta tb : TE} {pos : Pos}
theorem tV_var {i : Nat} {σ : St} {H : Hp} {Q : VK} (h : tV i σ H Q) : tVar i σ H Q := by
  unfold tV at h
  split at h
  · rename_i v e; exact ⟨v, e, h⟩
  · exact h.elim
theorem qv (i : Nat) {x : Str} {pos : Pos} (hN : X.N[i]? = some x := by rfl) (hv : Vis X.env.scope x := by first | exact Or.inl rfl | exact Or.inr (Or.inl rfl) | exact Or.inr (Or.inr rfl)) (hd : (x == ("__debug__" : Str)) = false := by decide)
    (hcd : (x == ("__classdict__" : Str)) = false := by decide) : PE X (.Name x pos) (tV i) := (pe_var hN hv hd hcd).imp fun _ _ _ h => tV_var h
theorem cI_of {f : Int → Int → V} {x y : V} {H : Hp} {Q : VK} (h : cI f x y H Q) : rI0 f x y H Q := by
  unfold cI at h
  split at h
  · exact ⟨_, _, rfl, rfl, h⟩
  · exact h.elim
theorem q_add : OpR X (binaryOp .Add) (cI fun i j => .int (i + j)) := op_add.imp fun _ _ _ _ => cI_of
theorem q_sub : OpR X (binaryOp .Sub) (cI fun i j => .int (i - j)) := op_sub.imp fun _ _ _ _ => cI_of
theorem cL_of {C : Int → Int → Prop} {f : Int → Int → Int} {F : Int → Int → Int → Prop} (hF : ∀ i j, C i j → F i j (f i j)) {x y : V} {H : Hp} {Q : VK} (h : cL C f F x y H Q) : rI C (fun i j => .int (f i j)) x y H Q := by
  unfold cL at h
  split at h
  · exact ⟨_, _, rfl, rfl, h.1, h.2 _ rfl (hF _ _ h.1)⟩
  · exact h.elim
theorem q_mul : OpR X (binaryOp .Mult) (cL CMul (fun i j => i * j) fun _ _ _ => True) := op_mul.imp fun _ _ _ _ => cL_of fun _ _ _ => trivial
theorem q_mod : OpR X (binaryOp .Mod) (cL CMod (fun i j => i % j) fun _ j m => 0 ≤ m ∧ m < j) := op_mod.imp fun _ _ _ _ h => cL_of (fun i j hj => ⟨Int.emod_nonneg _ (by have : 0 < j := hj; omega), Int.emod_lt_of_pos _ hj⟩) h
theorem q_fdiv : OpR X (binaryOp .FloorDiv) (cL CFdiv (fun i j => i / j) fun _ _ _ => True) := by
  intro pins s σ H x y v u Q I rx ry h
  obtain ⟨i, j, rfl, rfl, ⟨h0, h1⟩, q⟩ := cL_of (fun _ _ _ => trivial) h
  obtain ⟨t, rfl⟩ := rx
  obtain ⟨t', rfl⟩ := ry
  refine floordiv_int (by omega) ?_ (.inl (PyProof.noPylong_of_log2 h1))
  rw [Int.fdiv_eq_ediv_of_nonneg _ (by omega)]
  exact ⟨.int _, H, I.tok _, ⟨_, rfl⟩, q⟩
theorem q_pow : OpR X (binaryOp .Pow) (cL CPow (fun i j => i ^ j.toNat) fun _ _ _ => True) := op_pow.imp fun _ _ _ _ => cL_of fun _ _ _ => trivial
theorem q_lt : OpR X (compareOp .Lt) (cI fun i j => .bl (decide (i < j))) := op_lt.imp fun _ _ _ _ => cI_of
theorem q_le : OpR X (compareOp .LtE) (cI fun i j => .bl (decide (i ≤ j))) := op_le.imp fun _ _ _ _ => cI_of
theorem q_gt : OpR X (compareOp .Gt) (cI fun i j => .bl (decide (j < i))) := op_gt.imp fun _ _ _ _ => cI_of
theorem dI {i j : Int} : decide (i = j) = (i == j) := by rw [Bool.eq_iff_iff]; simp
theorem dB {i j : Bool} : decide (i = j) = (i == j) := by rw [Bool.eq_iff_iff]; simp
theorem dS {i j : Str} : decide (i = j) = (i == j) := by rw [Bool.eq_iff_iff]; simp
theorem ifB_t {p q : Prop} (h : ifB true p q) : p := by rw [ifB_eq, if_pos rfl] at h; exact h
theorem ifB_f {p q : Prop} (h : ifB false p q) : q := by rw [ifB_eq, if_neg Bool.false_ne_true] at h; exact h
theorem q_eq : OpR X (compareOp .Eq) (cAtom false) := by
  intro pins s σ H x y v u Q I rx ry h
  unfold cAtom at h
  split at h
  · obtain ⟨t, rfl⟩ := rx; obtain ⟨t', rfl⟩ := ry; exact SeqAt.RcAt.int_int _ t _ t' _ _ _ _ (fin_bl I h (by rw [if_neg (by decide)]; exact dI))
  · obtain ⟨t, rfl⟩ := rx; obtain ⟨t', rfl⟩ := ry; exact SeqAt.RcAt.str_str _ t _ t' _ _ _ _ (fin_bl I h (by rw [if_neg (by decide)]; exact dS))
  · cases rx; cases ry; exact SeqAt.RcAt.bool_bool _ _ _ _ _ _ (fin_bl I h (by rw [if_neg (by decide)]; exact dB))
  · exact h.elim
theorem q_ne : OpR X (compareOp .NotEq) (cAtom true) := by
  intro pins s σ H x y v u Q I rx ry h
  unfold cAtom at h
  split at h
  · obtain ⟨t, rfl⟩ := rx; obtain ⟨t', rfl⟩ := ry; exact SeqAt.RcNeAt.int_int _ t _ t' _ _ _ _ (fin_bl I h (by rw [if_pos rfl, dI]))
  · obtain ⟨t, rfl⟩ := rx; obtain ⟨t', rfl⟩ := ry; exact SeqAt.RcNeAt.str_str _ t _ t' _ _ _ _ (fin_bl I h (by rw [if_pos rfl, dS]))
  · cases rx; cases ry; exact SeqAt.RcNeAt.bool_bool _ _ _ _ _ _ (fin_bl I h (by rw [if_pos rfl, dB]))
  · exact h.elim
def cNeg : V → Hp → VK → Prop := fun x H Q => match x with | .int i => Q (.int (-i)) H | _ => False
theorem q_neg : UnR X (unaryOp .USub) cNeg := by
  intro pins s σ H x v Q I rx h
  refine un_neg pins s σ H x v Q I rx ?_
  unfold cNeg at h
  split at h
  · exact ⟨_, rfl, h⟩
  · exact h.elim
/-! tests -/
theorem bV_ex {x : V} {Q : Bool → Prop} (h : bV x Q) : ∃ k, x = .bl k ∧ Q k := by
  cases x with
  | bl k => exact ⟨k, rfl, h⟩
  | _ => exact False.elim h
theorem pt_e {e : Expr} {t : TE} (h : PE X e t) (he : ∀ whole, isTrue e X.env whole = (do let v ← whole; standAt e.pos; holding [v] (truthy v)) := by intro _; rfl) : PT X e (cT t) := by
  intro pins s σ H Q I hw
  rw [he]
  refine wpAny_bind (thn (h pins s σ H _ I hw) fun v s1 ⟨x, H1, I1, r1, q1⟩ => wpAny_bind (wpAny_standAt (wpAny_holding ?_)))
  obtain ⟨k, rfl, q⟩ := bV_ex q1
  cases r1
  exact wpAny_truthy_bool ⟨H1, I1, q⟩
theorem pt_c {op : CmpOp} {r : R2} (ho : OpR X (compareOp op) r) (ha : PE X a ta) (hb : PE X b tb) (hm : behindInMarks op b = false := by first | exact nomark _ | rfl) : PT X (.Compare a [op] [b] pos) (cT (tOp r ta tb)) := by
  intro pins s σ H Q I hw
  refine wpAny_isTrue_Compare1 (thn (ha pins s σ H _ I hw) fun v s1 ⟨x, H1, I1, r1, q1⟩ => thn (hb pins s1 σ H1 _ I1 q1) fun u s2 ⟨y, H2, I2, r2, q2⟩ =>
    thn (ho pins s2 σ H2 x y v u _ I2 r1 r2 q2) fun c s3 ⟨z, H3, I3, r3, q3⟩ => ?_) hm
  obtain ⟨k, rfl, q⟩ := bV_ex q3
  cases r3
  exact wpAny_truthy_bool ⟨H3, I3, q⟩
/-- a op1 b op2 c, as a test and as a value -/
def cChain (r r' : R2) (ta tb tc : TE) : TE := fun σ H Q => ta σ H fun x H1 => tb σ H1 fun y H2 => r x y H2 fun z H3 => bV z fun k => ifB k (tc σ H3 fun u H4 => r' y u H4 Q) (Q (.bl false) H3)
theorem pe_ch {op op' : CmpOp} {r r' : R2} {c : Expr} {tc : TE} (ho : OpR X (compareOp op) r) (ho' : OpR X (compareOp op') r') (ha : PE X a ta) (hb : PE X b tb) (hc : PE X c tc)
    (hm : lastMarks [op, op'] [b, c] = false := by with_unfolding_all rfl) : PE X (.Compare a [op, op'] [b, c] pos) (cChain r r' ta tb tc) := by
  intro pins s σ H Q I h
  refine Compare_chain (thn (ha pins s σ H _ I h) fun v s1 ⟨x, H1, I1, r1, q1⟩ => chain_link (thn (hb pins s1 σ H1 _ I1 q1) fun u s2 ⟨y, H2, I2, r2, q2⟩ =>
    thn (ho pins s2 σ H2 x y v u _ I2 r1 r2 q2) fun d s3 ⟨z, H3, I3, r3, q3⟩ => ?_)) hm
  obtain ⟨k, rfl, q⟩ := bV_ex q3
  cases r3
  refine wpAny_truthy_bool ?_
  cases k with
  | false => exact ite_ff ⟨.bl false, H3, I3, rfl, ifB_f q⟩
  | true => exact ite_tt (chain_last (thn (hc pins s3 σ H3 _ I3 (ifB_t q)) fun w' s4 ⟨z', H4, I4, r4, q4⟩ => ho' pins s4 σ H4 y z' u w' Q I4 r2 r4 q4))
theorem pt_ch {op op' : CmpOp} {r r' : R2} {c : Expr} {tc : TE} (ho : OpR X (compareOp op) r) (ho' : OpR X (compareOp op') r') (ha : PE X a ta) (hb : PE X b tb) (hc : PE X c tc)
    (hm : lastMarks [op, op'] [b, c] = false := by with_unfolding_all rfl) : PT X (.Compare a [op, op'] [b, c] pos) (cT (cChain r r' ta tb tc)) := by
  intro pins s σ H Q I h
  refine isTrue_chain (thn (ha pins s σ H _ I h) fun v s1 ⟨x, H1, I1, r1, q1⟩ => test_link (thn (hb pins s1 σ H1 _ I1 q1) fun u s2 ⟨y, H2, I2, r2, q2⟩ =>
    thn (ho pins s2 σ H2 x y v u _ I2 r1 r2 q2) fun d s3 ⟨z, H3, I3, r3, q3⟩ => ?_)) hm
  obtain ⟨k, rfl, q⟩ := bV_ex q3
  cases r3
  refine wpAny_truthy_bool ?_
  cases k with
  | false => exact ite_ff ⟨H3, I3, ifB_f q⟩
  | true =>
    refine ite_tt (test_last (thn (hc pins s3 σ H3 _ I3 (ifB_t q)) fun w' s4 ⟨z', H4, I4, r4, q4⟩ => thn (ho' pins s4 σ H4 y z' u w' _ I4 r2 r4 q4) fun d' s5 ⟨z2, H5, I5, r5, q5⟩ => ?_))
    obtain ⟨k2, rfl, q6⟩ := bV_ex q5
    cases r5
    exact wpAny_truthy_bool ⟨H5, I5, q6⟩
def cIf (c : TT) (t u : TS) : TS := fun D σ H => c σ H fun b H1 => ifB b (t D σ H1) (u D σ H1)
theorem ps_c {c : Expr} {a b : List Stmt} {tc : TT} {t u : TS} {pos : Pos} (hc : PT X c tc) (ha : PSs X a t) (hb : PSs X b u) : PS X (.If c a b pos) (cIf tc t u) := by
  intro pins s σ H D I h
  refine wpAny_If (thn (hc pins s σ H _ I h) fun d s1 ⟨H1, I1, q1⟩ => ?_)
  cases d with
  | true => exact ha pins s1 σ H1 D I1 (ifB_t q1)
  | false => exact hb pins s1 σ H1 D I1 (ifB_f q1)
section
variable {rest : List Expr} {tA tB : TT}
/-! as values: of bools -/
def cAndV (ta tb : TE) : TE := fun σ H Q => ta σ H fun x H1 => bV x fun c => ifB c (tb σ H1 Q) (Q (.bl false) H1)
theorem pe_andC (ha : PE X a ta) (hb : PE X (.BoolOp .And (b :: rest) pos) tb) : PE X (.BoolOp .And (a :: b :: rest) pos) (cAndV ta tb) := by
  intro pins s σ H Q I h
  refine BoolOp_and (thn (ha pins s σ H _ I h) fun v s1 ⟨x, H1, I1, r1, q1⟩ => ?_)
  obtain ⟨c, rfl, q1⟩ := bV_ex q1
  cases r1
  refine wpAny_truthy_bool ?_
  cases c with
  | true => exact hb pins s1 σ H1 Q I1 (ifB_t q1)
  | false => exact ⟨.bl false, H1, I1, rfl, ifB_f q1⟩
end
/-! if as an expression -/
def cIfE (t : TT) (ta tb : TE) : TE := fun σ H Q => t σ H fun c H1 => ifB c (ta σ H1 Q) (tb σ H1 Q)
theorem pe_ifE {c : Expr} {tc : TT} (hc : PT X c tc) (ha : PE X a ta) (hb : PE X b tb) : PE X (.IfExp c a b pos) (cIfE tc ta tb) := by
  intro pins s σ H Q I h
  refine pe_ifExp hc ha hb pins s σ H Q I ?_
  have e : (fun (c : Bool) (H1 : Hp) => if c = true then ta σ H1 Q else tb σ H1 Q) = fun c H1 => ifB c (ta σ H1 Q) (tb σ H1 Q) := by funext c H1; rw [ifB_eq]
  show tc σ H (fun (c : Bool) (H1 : Hp) => if c = true then ta σ H1 Q else tb σ H1 Q)
  rw [e]; exact h
end
end L2

end
section
set_option Elab.async false
set_option linter.all false
set_option maxRecDepth 100000
set_option maxHeartbeats 4000000
namespace L2
open PySem PySem.Spec PyProof.Rows
theorem bt_len : bootBuiltins "len" = some (.builtin "len") := by decide +kernel
theorem bt_all : bootBuiltins "all" = some (.builtin "all") := by decide +kernel
theorem bt_max : bootBuiltins "max" = some (.builtin "max") := by decide +kernel
theorem bt_list : bootBuiltins "list" = some (.type "list") := by decide +kernel
theorem bt_tuple : bootBuiltins "tuple" = some (.type "tuple") := by decide +kernel
theorem bt_int : bootBuiltins "int" = some (.type "int") := by decide +kernel
theorem bt_enumerate : bootBuiltins "enumerate" = some (.type "enumerate") := by decide +kernel

/-! ### heaps: what a store keeps -/
section
variable {X : Cx} {pins : List (Addr × Obj)} {σ : St} {H : Hp} {s : Shared}
end
/-! ### for a, b in enumerate(xs) -/
section
variable {X : Cx}
end
/-! ### ''.join(xs), all(xs) -/
section
variable {X : Cx}
end
end L2

end
section
set_option Elab.async false
set_option linter.all false
set_option maxRecDepth 100000
set_option maxHeartbeats 4000000
namespace L2
open PySem PySem.Spec PyProof.Rows
theorem IxR.imp {X : Cx} {r r' : R2} (h : IxR X r) (i : ∀ x y H Q, r' x y H Q → r x y H Q) : IxR X r' := fun a b pins s σ H x y v u Q I rx ry q e => h a b pins s σ H x y v u Q I rx ry (i x y H Q q) e
theorem MtR.imp {X : Cx} {id : String} {r r' : V → List V → Hp → VK → Prop} (h : MtR X id r) (i : ∀ x xs H Q, r' x xs H Q → r x xs H Q) : MtR X id r' := fun pins s σ H x xs v us Q I rx rv q => h pins s σ H x xs v us Q I rx rv (i x xs H Q q)
theorem PSet.imp {X : Cx} {t t' : TSet} (h : PSet X t) (i : ∀ o j v H Q, t' o j v H Q → t o j v H Q) : PSet X t' := fun pins s σ H o j v ov iv u Q I ro ri rv q => h pins s σ H o j v ov iv u Q I ro ri rv (i o j v H Q q)
theorem SlR.imp {X : Cx} {r r' : V → Option Int → Option Int → Hp → VK → Prop} (h : SlR X r) (i : ∀ x l u H Q, r' x l u H Q → r x l u H Q) : SlR X r' := fun pins s σ H x v vl vu lo hi sl Q I rx hs pl pu q => h pins s σ H x v vl vu lo hi sl Q I rx hs pl pu (i _ _ _ _ _ q)
theorem upd_sub {H H' : Hp} {p : Addr} {o : HO} (n : H p = none) (e : upd H p o = H') : Sub H H' ∧ H' p = some o := by subst e; exact ⟨Sub.new n, upd_same⟩
/-- a global's value -/
def CV (mg : Str → Option Value) (x : Str) (v : V) : Prop := ∃ u, mg x = some u ∧ RelV v u
section
variable {X : Cx} {a b : Expr} {ta tb : TE} {pos : Pos}
theorem pe_cv {x : Str} {v : V} {pos : Pos} (hg : Gl X x) (h : CV X.mg x v) (hd : (x == ("__debug__" : Str)) = false := by decide) : PE X (.Name x pos) (tC v) := by
  obtain ⟨u, h1, h2⟩ := h
  exact pe_glob hg h1 h2 hd
def cIxL (K : PySem.W.Frag) : R2 := fun x y H Q => match x, y with | .ref p, .int i => ∃ xs v, SqL K H p xs ∧ atI xs i = some v ∧ Q v H | _, _ => False
def cIxT (K : PySem.W.Frag) : R2 := fun x y H Q => match x, y with | .ref p, .int i => ∃ xs v, SqT K H p xs ∧ atI xs i = some v ∧ Q v H | _, _ => False
theorem q_ixL : IxR X (cIxL X.K) := ix_list.imp fun x y H Q h => by
  unfold cIxL at h
  split at h
  · obtain ⟨xs, v, h1, h2, h3⟩ := h; exact ⟨_, xs, _, v, rfl, rfl, h1, h2, h3⟩
  · exact h.elim
theorem q_ixT : IxR X (cIxT X.K) := ix_tup.imp fun x y H Q h => by
  unfold cIxT at h
  split at h
  · obtain ⟨xs, v, h1, h2, h3⟩ := h; exact ⟨_, xs, _, v, rfl, rfl, h1, h2, h3⟩
  · exact h.elim
def cSetL : TSet := fun o i v H Q => match o, i with | .ref p, .int k => ∃ xs j, H p = some (.lst xs) ∧ ixN xs.length k = some j ∧ Q (upd H p (.lst (xs.set j v))) | _, _ => False
theorem q_setL : PSet X cSetL := set_list.imp fun o i v H Q h => by
  unfold cSetL at h
  split at h
  · obtain ⟨xs, j, h1, h2, h3⟩ := h; exact ⟨_, xs, _, j, rfl, rfl, h1, h2, h3⟩
  · exact h.elim
def cLen (K : PySem.W.Frag) : List V → Hp → VK → Prop := fun xs H Q => match xs with | [.ref p] => ∃ ys, (SqL K H p ys ∨ SqT K H p ys) ∧ Q (.int ys.length) H | _ => False
theorem q_len : CallR X (.builtin "len") (cLen X.K) := call_len_seq.imp fun xs H Q h => by
  unfold cLen at h
  split at h
  · obtain ⟨ys, h⟩ := h; exact ⟨_, ys, rfl, h⟩
  · exact h.elim
def cApp : V → List V → Hp → VK → Prop := fun x vs H Q => match x, vs with | .ref l, [y] => ∃ xs, H l = some (.lst xs) ∧ xs.length < sizeLine ∧ Q .non (upd H l (.lst (xs ++ [y]))) | _, _ => False
theorem q_app : MtR X "list.append" cApp := MtR.imp (r := rAppend) mt_append fun x vs H Q h => by
  unfold cApp at h
  split at h
  · obtain ⟨xs, h⟩ := h; exact ⟨_, xs, _, rfl, rfl, h⟩
  · exact h.elim
def cIn (K : PySem.W.Frag) (neg : Bool) : R2 := fun x y H Q => match y with | .ref p => ∃ xs, (SqL K H p xs ∨ SqT K H p xs) ∧ flatV x = true ∧ xs.all flatV = true ∧ Q (.bl (if neg then !inV x xs else inV x xs)) H | _ => False
theorem q_in : OpR X (compareOp .In) (cIn X.K false) := op_in_seq.imp fun x y H Q h => by
  unfold cIn at h
  split at h
  · obtain ⟨xs, h⟩ := h; exact ⟨_, xs, rfl, h⟩
  · exact h.elim
theorem q_notIn : OpR X (compareOp .NotIn) (cIn X.K true) := op_notIn_seq.imp fun x y H Q h => by
  unfold cIn at h
  split at h
  · obtain ⟨xs, h⟩ := h; exact ⟨_, xs, rfl, h⟩
  · exact h.elim
/-! loops over a list, a range: computing -/
def cList (K : PySem.W.Frag) (tl : TE) : TI := fun σ H R => tl σ H fun x H1 => match x with | .ref a => (∃ xs, SqL K H1 a xs) ∧ R (Itl K a) H1 | _ => False
theorem qi_list {tg l : Expr} {tl : TE} (hl : PE X l tl) : PI X tg l (cList X.K tl) := by
  intro pins s σ H R I h
  refine thn (hl pins s σ H _ I h) fun v s1 ⟨x, H1, I1, r1, q1⟩ => ?_
  obtain ⟨a, rfl, ⟨xs, hq⟩, q⟩ : ∃ a, x = .ref a ∧ (∃ xs, SqL X.K H1 a xs) ∧ R (Itl X.K a) H1 := by
    dsimp only at q1
    split at q1
    · exact ⟨_, rfl, q1⟩
    · exact q1.elim
  cases r1
  obtain ⟨its, rv, p, hz⟩ := I1.list hq
  refine wpAny_pyIter_list p.isList ?_
  refine ⟨s1.heap.objs.size, [s1.heap.objs.size], _, _, H1, rfl, I1.kept (t' := s1.toks) fun b o e => Heap.get?_push_of_some _ e, turn_list a _, ⟨_, Heap.get?_push_size _ rfl, rfl, rfl⟩, fun b hb => ?_, q⟩
  have e : b = s1.heap.objs.size := by simpa using hb
  subst e
  exact I1.fpOk (Nat.le_refl _) (I1.hok.fresh (Nat.le_refl _))
def cRng1 (ta : TA) : TI := fun σ H R => ta σ H fun vs H1 => match vs with | [.int j] => (-(2 ^ 62) ≤ j ∧ j < 2 ^ 62) ∧ R (Itr 0 j.toNat) H1 | _ => False
theorem qi_range1 {tg a : Expr} {ta : TA} {p pos : Pos} (hg : Gl X "range") (hm : X.mg "range" = none) (ha : PA X [a] ta) (hs : starEach [a] X.env = [(false, eval a X.env)] := by rfl) : PI X tg (.Call (.Name "range" p) [a] [] pos) (cRng1 ta) := by
  intro pins s σ H R I h
  refine Call_ (ld_blt I hg hm boot_range (PyProof.Rows.callWith_type1 (thn (ha pos pins s σ H _ I h) fun us s1 ⟨vs, H1, I1, r1, q1⟩ => ?_) hs rfl))
  obtain ⟨j, rfl, ⟨q1, q2⟩, q⟩ : ∃ j, vs = [.int j] ∧ (-(2 ^ 62) ≤ j ∧ j < 2 ^ 62) ∧ R (Itr 0 j.toNat) H1 := by
    dsimp only at q1
    split at q1
    · exact ⟨_, rfl, q1⟩
    · exact q1.elim
  cases r1 with
  | cons r rr =>
    cases rr
    obtain ⟨t, rfl⟩ := r
    exact call_range_1 (range_it I1 (by omega) (by omega) q1 q2 (by simpa using q))
end
/-! ### targets and slice bounds that compute -/
section
variable {X : Cx}
def cgNil : TGs := fun vs σ H Q => match vs with | [] => Q σ H | _ => False
def cgCons (t : TG) (u : TGs) : TGs := fun vs σ H Q => match vs with | v :: r => t v σ H fun σ' H' => u r σ' H' Q | [] => False
theorem qgs_nil : PGs X [] cgNil := fun pins s σ H vs us Q I r h => pgs_nil pins s σ H vs us Q I r (by
  unfold cgNil at h
  split at h
  · exact ⟨rfl, h⟩
  · exact h.elim)
theorem qgs_cons {e : Expr} {es : List Expr} {t : TG} {u : TGs} (h1 : PG X e t) (h2 : PGs X es u)
    (hs : (assignEach (e :: es) X.env).map (·.2) = assign e X.env :: (assignEach es X.env).map (·.2) := by rfl) : PGs X (e :: es) (cgCons t u) := fun pins s σ H vs us Q I r h => pgs_cons h1 h2 hs pins s σ H vs us Q I r (by
  unfold cgCons at h
  split at h
  · exact ⟨_, _, rfl, h⟩
  · exact h.elim)
def cgTup (K : PySem.W.Frag) (n : Nat) (t : TGs) : TG := fun v σ H Q => match v with | .ref a => ∃ xs, SqT K H a xs ∧ xs.length = n ∧ t xs σ H Q | _ => False
theorem qg_tup {es : List Expr} {k : Nat} {t : TGs} {n : Nat} {pos : Pos} (hc : X.calm = true) (h : PGs X es t)
    (hn : (assignEach es X.env).length = n := by rfl) (hst : (assignEach es X.env).findIdx? (·.1) = none := by rfl) : PG X (.Tuple es k pos) (cgTup X.K n t) := fun pins s σ H v u Q I r hw => pg_tup hc h hn hst pins s σ H v u Q I r (by
  unfold cgTup at hw
  split at hw
  · obtain ⟨xs, h⟩ := hw; exact ⟨_, xs, rfl, h⟩
  · exact hw.elim)
def cPart (t : TE) : TO := fun σ H Q => t σ H fun x H1 => match x with | .int i => Q (some i) H1 | _ => False
theorem qo_some {e : Expr} {te : TE} (h : PE X e te) : PO X (some e) (cPart te) := by
  intro pins s σ H Q I hw
  rw [evalPart_some]
  refine thn (h pins s σ H _ I hw) fun u s1 ⟨x, H1, I1, r1, q1⟩ => ?_
  obtain ⟨i, rfl, q⟩ : ∃ i, x = .int i ∧ Q (some i) H1 := by
    dsimp only at q1
    split at q1
    · exact ⟨_, rfl, q1⟩
    · exact q1.elim
  obtain ⟨t, rfl⟩ := r1
  exact ⟨some i, H1, I1, .int i t, q⟩
end
/-! ### own exception classes: which is under which -/
structure ExM (K : PySem.W.Frag) (C : Addr) (pre : List Value) : Prop where
  mro : ∃ cd, PySem.W.clsIn K C = some cd ∧ cd.mro = pre ++ veMro
  ty : PySem.W.typeIn K (.ref C) = some (.type "type")
section
open PySem.W
variable {K : PySem.W.Frag} {C D : Addr} {pre pre' : List Value}
end
end L2

end
section
set_option Elab.async false
set_option linter.all false
set_option maxRecDepth 100000
set_option maxHeartbeats 4000000
namespace L2
open PySem PySem.Spec PyProof.Rows
theorem ifB.ndec {c : Prop} [Decidable c] {p q : Prop} (h1 : c → q) (h2 : ¬ c → p) : ifB (!decide c) p q := ifB.mk (fun z => h2 (by simpa using z)) fun z => h1 (by simpa using z)
section
variable {X : Cx}
theorem kept_it {s : Shared} {h' : Heap} {o : Obj} (hk : ∀ b x, b ∉ [s.heap.objs.size] → (s.heap.push o).get? b = some x → h'.get? b = some x) : ∀ b x, s.heap.get? b = some x → h'.get? b = some x :=
  fun b x e => hk b x (fun hm => by rw [List.mem_singleton.mp hm] at e; exact Nat.lt_irrefl _ (Heap.lt_size e)) (Heap.get?_push_of_some _ e)
theorem vals_bl : ∀ {bs : List Bool} {us : List Value}, Vals (bs.map V.bl) us → us = bs.map Value.bool
  | [], us, r => by cases r; rfl
  | b :: bs, us, r => by
    rw [List.map_cons] at r
    cases r with
    | cons r1 r2 => cases r1; rw [vals_bl r2]; rfl
theorem range_allB (bs : List Bool) : ((List.range bs.length).all fun i => (bs[i]?).getD true) = bs.all id := by
  rw [Bool.eq_iff_iff, List.all_eq_true, List.all_eq_true]
  constructor
  · intro h b hb
    obtain ⟨i, hi, e⟩ := List.getElem_of_mem hb
    have := h i (List.mem_range.mpr hi)
    simp only [List.getElem?_eq_getElem hi, Option.getD_some, e] at this
    exact this
  · intro h i hi
    have hi' := List.mem_range.mp hi
    simp only [List.getElem?_eq_getElem hi', Option.getD_some]
    exact h _ (List.getElem_mem hi')
/-- all(a list of truths) -/
def cAll (K : PySem.W.Frag) : List V → Hp → VK → Prop := fun xs H Q => match xs with | [.ref p] => ∃ bs : List Bool, SqL K H p (bs.map V.bl) ∧ Q (.bl (bs.all id)) H | _ => False
theorem q_all (hc : X.calm = true) : CallR X (.builtin "all") (cAll X.K) := by
  intro pins s σ H xs us Q I r h
  unfold cAll at h
  split at h
  · rename_i p
    obtain ⟨bs, hq, q⟩ := h
    cases r with
    | cons r rr =>
      cases rr
      cases r
      obtain ⟨its, rv, pl, hz⟩ := I.list hq
      have e := vals_bl rv
      subst e
      have hl := pl.isList
      have hlt : p < s.heap.objs.size := by obtain ⟨_, e, _⟩ := hl; exact Heap.lt_size e
      refine call_all_walk (wpAny_pyIter_list hl ?_)
      refine ⟨s.heap.objs.size, [s.heap.objs.size, p], [s.heap.objs.size], (bs.map Value.bool).toArray.size, _, _, fun i => (bs[i]?).getD true, rfl, Walks.list (A := X.A.in1) (I.ok.hd hc) _ p (Nat.ne_of_lt hlt) (bs.map Value.bool).toArray,
        ⟨⟨_, Heap.get?_push_size _ rfl, rfl, rfl⟩, hl.push _⟩, fun i v s' Q' E' hP hQ => ?_, fun h' tk hk => ?_⟩
      · have hP : (bs.map Value.bool)[i]? = some v := by simpa using hP
        rw [List.getElem?_map] at hP
        obtain ⟨b, e, rfl⟩ := Option.map_eq_some_iff.1 hP
        simp only [e, Option.getD_some] at hQ
        exact wpAny_truthy_bool hQ
      · have e : ((List.range (bs.map Value.bool).toArray.size).all fun i => (bs[i]?).getD true) = bs.all id := by
          rw [List.size_toArray, List.length_map]; exact range_allB bs
        rw [e]
        exact ⟨.bl _, H, I.kept (t' := tk) (kept_it hk), rfl, q⟩
  · exact h.elim
/-- t[lo:hi], not the whole -/
def cSlT (K : PySem.W.Frag) : V → Option Int → Option Int → Hp → VK → Prop := fun x lo hi H Q => match x with
  | .ref a => ∃ xs, SqT K H a xs ∧ ¬ (HT.sIx xs.length 0 lo = 0 ∧ HT.sIx xs.length xs.length hi = xs.length) ∧ ∀ p, H p = none → Q (.ref p) (upd H p (.tup (cutV xs lo hi)))
  | _ => False
theorem q_slT : SlR X (cSlT X.K) := sl_tup.imp fun x lo hi H Q h => by
  unfold cSlT at h
  split at h
  · obtain ⟨xs, h⟩ := h; exact ⟨_, xs, rfl, h⟩
  · exact h.elim
/-- t + u -/
def cCatU (K : PySem.W.Frag) : R2 := fun x y H Q => match x, y with
  | .ref a, .ref b => ∃ xs ys, SqT K H a xs ∧ SqT K H b ys ∧ xs.length + ys.length ≤ sizeLine ∧ (xs = [] → Q (.ref b) H) ∧ (xs ≠ [] → ys = [] → Q (.ref a) H) ∧ (xs ≠ [] → ys ≠ [] → ∀ p, H p = none → Q (.ref p) (upd H p (.tup (xs ++ ys))))
  | _, _ => False
theorem q_catU : OpR X (binaryOp .Add) (cCatU X.K) := by
  intro pins s σ H x y v u Q I rx ry h
  unfold cCatU at h
  split at h
  · rename_i a b
    obtain ⟨xs, ys, ha, hb, hz, q0, q1, q2⟩ := h
    by_cases hx : xs = []
    · cases rx
      cases ry
      obtain ⟨its, r1, p1, _⟩ := I.tuple ha
      obtain ⟨its2, r2, p2, _⟩ := I.tuple hb
      obtain ⟨⟨cls, dd, data, sl⟩, ho, hc, n, hd⟩ := id p1
      obtain ⟨⟨cls2, dd2, data2, sl2⟩, ho2, hc2, n2, hd2⟩ := id p2
      simp only at hc hd hc2 hd2
      subst hc hd hc2 hd2
      have hv : its = [] := r1.nil_iff.mpr hx
      exact concat_meets ⟨_, ho, rfl⟩ ⟨_, ho2, rfl⟩ noFill_tuple_add seq_tuple_add PySem.F.slot_tuple_add PySem.F.entry_tuple_add (PySem.F.args_tuple_add_2 _ _)
        (tuple_addW0 a b its.toArray its2.toArray n n2 dd dd2 sl sl2 (by simp [hv])) ⟨ho, ho2, ⟨.ref b, H, I, rfl, q0 hx⟩⟩
    · exact op_catT pins s σ H _ _ v u Q I rx ry ⟨_, _, xs, ys, rfl, rfl, ha, hb, hx, hz, q1 hx, q2 hx⟩
  · exact h.elim
end
theorem range_pick {α : Type} : ∀ l : List α, (List.range l.length).filterMap (fun k => l[k]?) = l
  | [] => rfl
  | x :: l => by
    rw [List.length_cons, List.range_succ_eq_map, List.filterMap_cons, List.filterMap_map]
    show x :: _ = _
    congr 1
    exact range_pick l
theorem filterMap_same {α β : Type} {f g : α → Option β} : ∀ {l : List α}, (∀ a ∈ l, f a = g a) → l.filterMap f = l.filterMap g
  | [], _ => rfl
  | a :: l, h => by
    rw [List.filterMap_cons, List.filterMap_cons, h a (by simp), filterMap_same fun b hb => h b (by simp [hb])]
theorem pick_rev (xs : Array Value) : ((List.range xs.size).filterMap fun (m : Nat) => xs[((xs.size : Int) - 1 + (m : Int) * (-1)).toNat]?).toArray = xs.toList.reverse.toArray := by
  congr 1
  have := range_pick xs.toList.reverse
  rw [List.length_reverse, Array.length_toList] at this
  refine Eq.trans (filterMap_same fun m hm => ?_) this
  have hm := List.mem_range.1 hm
  rw [List.getElem?_reverse (by rw [Array.length_toList]; exact hm), Array.length_toList, Array.getElem?_toList]
  congr 1
  omega
section
variable {prog : Program} {w : World} {A : Around} {E : Value → Shared → Prop} {s : Shared}
theorem sliceApplied_rev {sl : Addr} {t : Tok} {n : Nat} {Q : Int × Int × Nat → Shared → Prop} (hs : s.heap.IsSliceOf sl .none .none (.int (-1) t))
    (h : Q ((n : Int) - 1, -1, n) s) : wpAny (model prog w) A (Builtin.Slice.sliceApplied (.ref sl) (pure (n : Int))) Q E s := by
  obtain ⟨os, hos, hcs, hds⟩ := id hs
  unfold Builtin.Slice.sliceApplied Builtin.Slice.sliceFields
  refine wpAny_bind (wpAny_bind (wpAny_field hos hds (x := .none) rfl (wpAny_bind (wpAny_field hos hds (x := .none) rfl (wpAny_bind (wpAny_field hos hds (x := .int (-1) t) rfl (wpAny_pure ?_)))))))
  refine wpAny_bind (HT.slicePart_ (.int (-1) t) ?_)
  show wpAny _ _ (if ((-1 : Int) == 0) = true then _ else _) _ _ s
  rw [if_neg (by decide)]
  refine wpAny_bind (HT.slicePart_ .none (wpAny_bind (HT.slicePart_ .none (wpAny_bind (wpAny_pure ?_)))))
  show wpAny _ _ (match Builtin.Slice.sliceAdjust none none (-1) (n : Int) with | (lo, hi) => pure (lo, (-1 : Int), Builtin.Slice.slicePlaces lo hi (-1))) _ _ s
  have e : Builtin.Slice.sliceAdjust none none (-1) (n : Int) = ((n : Int) - 1, -1) := rfl
  rw [e]
  show wpAny _ _ (pure ((n : Int) - 1, (-1 : Int), Builtin.Slice.slicePlaces ((n : Int) - 1) (-1) (-1))) _ _ s
  have e2 : Builtin.Slice.slicePlaces ((n : Int) - 1) (-1) (-1) = n := by
    unfold Builtin.Slice.slicePlaces
    have h1 : ¬ ((-1 : Int) > 0) := by omega
    have h2 : (- (-1 : Int)) = 1 := rfl
    simp only [h1, if_false, h2, Int.ediv_one]
    split <;> omega
  rw [e2]
  exact wpAny_pure h
theorem getItem_tuple_rev {t sl : Addr} {tk : Tok} {items : Array Value} {Q : Value → Shared → Prop} (ht : IsTup s.heap t items) (hs : s.heap.IsSliceOf sl .none .none (.int (-1) tk))
    (h : Q (.ref s.heap.objs.size) { s with heap := s.heap.push { cls := .type "tuple", data := .seq items.toList.reverse.toArray } })
    (hsz : items.size ≤ sizeLine) : wpAny (model prog w) A (getItem (.ref t) (.ref sl)) Q E s := by
  have htake : sizeOk (.seq items.toList.reverse.toArray) := by
    show items.toList.reverse.toArray.size ≤ sizeLine
    rw [List.size_toArray, List.length_reverse, Array.length_toList]
    omega
  obtain ⟨os, hos, hcs, hds⟩ := id hs
  have hTs : s.TypeIs (.ref sl) "slice" := ⟨os, hos, hcs⟩
  unfold getItem
  try with_reducible refine wpAny_holding ?_
  first | refine wpAny_bind (wpAny_pure ?_) | skip
  refine wpAny_bind (wpAny_sequenceKey ht.typeIs (by decide) ?_)
  refine wpAny_bind (wpAny_callSpecial?_slot (name := Str.ofString "__getitem__") ht.typeIs PyProof.Rows.slot_tuple_getitem
    (wpAny_call_entry PyProof.Rows.slot_tuple_getitem ht.typeIs entry_tuple_getitem ?_ (args_tuple_getitem _ _)))
  show wpAny _ _ (Builtin.Tuple.tupleItemsOf (.ref t) >>= _) _ _ s
  refine wpAny_bind (tupleItemsOf_ ht ?_)
  refine wpAny_bind (wpAny_typeOf hTs ?_)
  rw [if_pos (by decide)]
  refine wpAny_bind (sliceApplied_rev hs ?_)
  have hno : ¬ ((((items.size : Int) - 1) == 0 && (-1 : Int) == 1 && items.size == items.size) = true) := by
    intro q
    rw [Bool.and_eq_true, Bool.and_eq_true] at q
    have q1 : (-1 : Int) = 1 := eq_of_beq q.1.2
    omega
  show wpAny _ _ (if (((items.size : Int) - 1) == 0 && (-1 : Int) == 1 && items.size == items.size) = true then _ else _) _ _ s
  rw [if_neg hno, pick_rev]
  first
    | exact wpAny_bind (m := Builtin.Tuple.tupleExact _) (wpAny_newObj_type (wpAny_pure ⟨_, rfl, wpAny_pure h⟩) htake)
    | exact wpAny_bind (m := Builtin.Tuple.tupleExact _) (wpAny_newObj_type (wpAny_bind (wpAny_pure (wpAny_pure ⟨_, rfl, wpAny_pure h⟩))) htake)
    | exact wpAny_bind (wpAny_bind (m := Builtin.Tuple.tupleExact _) (wpAny_newObj_type (wpAny_pure (wpAny_pure ⟨_, rfl, wpAny_pure h⟩)) htake))
    | exact wpAny_bind (wpAny_bind (m := Builtin.Tuple.tupleExact _) (wpAny_newObj_type (wpAny_pure ⟨_, rfl, wpAny_pure h⟩) htake))
end
section
variable {X : Cx} {e st : Expr} {te : TE} {ts : TO} {pos p2 : Pos}
/-- t[::-1] -/
def tRevT (K : PySem.W.Frag) (te : TE) (ts : TO) : TE := fun σ H Q => te σ H fun x H1 => ts σ H1 fun o H2 => o = some (-1) ∧ match x with
  | .ref a => ∃ xs, SqT K H2 a xs ∧ ∀ p, H2 p = none → Q (.ref p) (upd H2 p (.tup xs.reverse))
  | _ => False
theorem pe_revT (he : PE X e te) (hs : PO X (some st) ts) : PE X (.Subscript e (.Slice none none (some st) p2) pos) (tRevT X.K te ts) := by
  intro pins s σ H Q I h
  refine Subscript_ (thn (he pins s σ H _ I h) fun v s1 ⟨x, H1, I1, r1, q1⟩ => ?_)
  refine wpAny_Slice ?_
  rw [evalPart_none]
  refine wpAny_pure (wpAny_pure (thn (hs pins s1 σ H1 _ I1 q1) fun vs s3 z => ?_))
  obtain ⟨o, H3, I3, ps, eo, q3⟩ := z
  subst eo
  cases x with
  | ref a =>
    obtain ⟨xs, hx, q⟩ := q3
    cases ps with
    | int _ tk =>
    cases r1
    have I4 : Inv X pins σ H3 { s3 with heap := s3.heap.push { cls := .type "slice", data := .fields #[.none, .none, .int (-1) tk] } } := I3.kept (t' := s3.toks) fun b ob q => Heap.get?_push_of_some _ q
    obtain ⟨its, r, ht, hz⟩ := I4.tuple hx
    have hlen : its.toArray.size = xs.length := by rw [List.size_toArray]; exact r.length.symm
    refine tail_any (ops := [.ref a, .ref s3.heap.objs.size]) ht.typeIs PyProof.Rows.slot_tuple_getitem.lookup ?_ (by with_unfolding_all rfl)
    refine getItem_tuple_rev ht (Heap.IsSliceOf.new ..) ?_ (by rw [hlen]; exact hz)
    refine ⟨.ref _, _, I4.laid (t' := s3.toks) (o := .tup xs.reverse) (fun b ob q => Heap.get?_push_of_some _ q) (Nat.le_refl _) ?_, rfl, q _ (I4.hok.fresh (Nat.le_refl _))⟩
    exact ⟨by rw [List.length_reverse]; exact hz, _, r.reverse, IsTup.new _ _⟩
  | _ => exact q3.elim
end
/-! ### the same, the world's own facts named -/
section
variable {X : Cx} {K : PySem.W.Frag} {tg l e st : Expr} {tl te : TE} {ts : TO} {pos p2 : Pos}
theorem q_ixLK (hK : X.K = K) : IxR X (cIxL K) := hK ▸ q_ixL
theorem q_ixTK (hK : X.K = K) : IxR X (cIxT K) := hK ▸ q_ixT
theorem q_slTK (hK : X.K = K) : SlR X (cSlT K) := hK ▸ q_slT
theorem q_lenK (hK : X.K = K) : CallR X (.builtin "len") (cLen K) := hK ▸ q_len
theorem q_inK (hK : X.K = K) : OpR X (compareOp .In) (cIn K false) := hK ▸ q_in
theorem q_notInK (hK : X.K = K) : OpR X (compareOp .NotIn) (cIn K true) := hK ▸ q_notIn
theorem q_catUK (hK : X.K = K) : OpR X (binaryOp .Add) (cCatU K) := hK ▸ q_catU
theorem q_allK (hK : X.K = K) (hc : X.calm = true) : CallR X (.builtin "all") (cAll K) := hK ▸ q_all hc
theorem qi_listK (hK : X.K = K) (hl : PE X l tl) : PI X tg l (cList K tl) := hK ▸ qi_list hl
theorem qg_tupK {es : List Expr} {k : Nat} {t : TGs} {n : Nat} (hK : X.K = K) (hc : X.calm = true) (h : PGs X es t)
    (hn : (assignEach es X.env).length = n := by rfl) (hst : (assignEach es X.env).findIdx? (·.1) = none := by rfl) : PG X (.Tuple es k pos) (cgTup K n t) := hK ▸ qg_tup hc h hn hst
theorem pe_revTK (hK : X.K = K) (he : PE X e te) (hs : PO X (some st) ts) : PE X (.Subscript e (.Slice none none (some st) p2) pos) (tRevT K te ts) := hK ▸ pe_revT he hs
end
end L2

end
section
set_option Elab.async false
set_option linter.all false
set_option maxRecDepth 100000
set_option maxHeartbeats 4000000
namespace L2
open PySem PySem.Spec PyProof.Rows
/-! ### machines: what they are, and how they lie -/
abbrev En := List Int
abbrev Ma := List (List En)
def entryOk (rows signs : Int) : En → Bool
  | [] => true
  | [s, w, r] => (decide (0 ≤ s) && decide (s < signs)) && (decide (w = -1) || decide (w = 1)) && (decide (0 ≤ r) && decide (r < rows))
  | _ => false
def rowOk (rows signs : Int) (es : List En) : Bool := decide ((es.length : Int) = signs) && es.all (entryOk rows signs)
def isM (m : Ma) : Bool := match m with
  | [] => false
  | r0 :: _ => decide (m.length ≤ 4) && decide (2 ≤ r0.length) && decide (r0.length ≤ 4) && m.all (rowOk m.length r0.length)
theorem atI_toNat {α : Type} {xs : List α} {i : Int} {v : α} (h0 : 0 ≤ i) (h : xs[i.toNat]? = some v) : atI xs i = some v := by
  obtain ⟨j, rfl⟩ := Int.eq_ofNat_of_zero_le h0
  exact atI_nat h
/-! cells and what stands there, one by one -/
def All2 {α : Type} (R : Addr → α → Prop) (as : List Addr) (xs : List α) : Prop := as.length = xs.length ∧ ∀ (i : Nat) (a : Addr) (x : α), as[i]? = some a → xs[i]? = some x → R a x
section
variable {α : Type} {R S : Addr → α → Prop} {as : List Addr} {xs : List α}
theorem All2.nil : All2 R [] [] := ⟨rfl, fun i a x h => by simp at h⟩
theorem All2.mono (h : All2 R as xs) (i : ∀ a x, a ∈ as → R a x → S a x) : All2 S as xs := ⟨h.1, fun k a x ha hx => i a x (List.mem_of_getElem? ha) (h.2 k a x ha hx)⟩
theorem All2.app (h : All2 R as xs) {a : Addr} {x : α} (r : R a x) : All2 R (as ++ [a]) (xs ++ [x]) := by
  refine ⟨by simp [h.1], fun i b y hb hy => ?_⟩
  by_cases hi : i < as.length
  · rw [List.getElem?_append_left hi] at hb
    rw [List.getElem?_append_left (h.1 ▸ hi)] at hy
    exact h.2 i b y hb hy
  · have e : i = as.length := by
      have := (List.getElem?_eq_some_iff.1 hb).1
      simp at this; omega
    subst e
    rw [List.getElem?_append_right (Nat.le_refl _), Nat.sub_self] at hb
    rw [h.1, List.getElem?_append_right (Nat.le_refl _), Nat.sub_self] at hy
    cases hb; cases hy; exact r
theorem All2.at (h : All2 R as xs) {i : Nat} {a : Addr} (ha : as[i]? = some a) : ∃ x, xs[i]? = some x ∧ R a x := by
  have hi := (List.getElem?_eq_some_iff.1 ha).1
  have hi' : i < xs.length := h.1 ▸ hi
  exact ⟨xs[i], List.getElem?_eq_getElem hi', h.2 i a _ ha (List.getElem?_eq_getElem hi')⟩
end
def Ent (H : Hp) (a : Addr) (e : En) : Prop := H a = some (.tup (e.map V.int))
def RowA (H : Hp) (r : Addr) (as : List Addr) (es : List En) : Prop := H r = some (.lst (as.map V.ref)) ∧ All2 (Ent H) as es
def Row (H : Hp) (r : Addr) (es : List En) : Prop := ∃ as, RowA H r as es
def MaR (H : Hp) (p : Addr) (rs : List Addr) (m : Ma) : Prop := H p = some (.lst (rs.map V.ref)) ∧ rs.Nodup ∧ All2 (Row H) rs m
def Mach (H : Hp) (p : Addr) (m : Ma) : Prop := ∃ rs, MaR H p rs m
theorem ref_inj {as bs : List Addr} (h : as.map V.ref = bs.map V.ref) : as = bs := by
  induction as generalizing bs with
  | nil => cases bs with
    | nil => rfl
    | cons b bs => cases h
  | cons a as ih => cases bs with
    | nil => cases h
    | cons b bs =>
      rw [List.map_cons, List.map_cons] at h
      injection h with h1 h2
      injection h1 with h1
      rw [h1, ih h2]
section
variable {H H' : Hp} {p r a : Addr} {rs as : List Addr} {m : Ma} {es : List En} {e : En}
/-- how what stands there may change: the tuples and the lists of references stay -/
structure Stay (H H' : Hp) : Prop where
  tup : ∀ a xs, H a = some (.tup xs) → H' a = some (.tup xs)
  refs : ∀ a (as : List Addr), H a = some (.lst (as.map V.ref)) → H' a = some (.lst (as.map V.ref))
theorem Stay.sub (S : Sub H H') : Stay H H' := ⟨fun _ _ h => S _ _ h, fun _ _ h => S _ _ h⟩
theorem Ent.stay (S : Stay H H') (h : Ent H a e) : Ent H' a e := S.tup _ _ h
theorem RowA.stay (S : Stay H H') (h : RowA H r as es) : RowA H' r as es := ⟨S.refs _ _ h.1, h.2.mono fun _ _ _ z => z.stay S⟩
theorem Row.stay (S : Stay H H') : Row H r es → Row H' r es := fun ⟨as, h⟩ => ⟨as, h.stay S⟩
theorem MaR.stay (S : Stay H H') (h : MaR H p rs m) : MaR H' p rs m := ⟨S.refs _ _ h.1, h.2.1, h.2.2.mono fun _ _ _ z => z.stay S⟩
theorem Mach.stay (S : Stay H H') : Mach H p m → Mach H' p m := fun ⟨rs, h⟩ => ⟨rs, h.stay S⟩
/-- no row is the machine's own list -/
theorem MaR.ne (h : MaR H p rs m) (hr : r ∈ rs) : r ≠ p := by
  rintro rfl
  obtain ⟨i, hi, e⟩ := List.getElem_of_mem hr
  obtain ⟨es, _, as, h1, h2⟩ := h.2.2.at (List.getElem?_eq_some_iff.2 ⟨hi, e⟩)
  rw [h.1] at h1
  injection h1 with h1
  injection h1 with h1
  have := ref_inj h1
  subst this
  obtain ⟨e, _, h3⟩ := h2.at (List.getElem?_eq_some_iff.2 ⟨hi, e⟩)
  have h3 : H r = some (.tup _) := h3
  rw [h.1] at h3
  cases h3
theorem Ent.upd {l : Addr} {vs us : List V} (h : Ent H a e) (hl : H l = some (.lst vs)) : Ent (L2.upd H l (.lst us)) a e := by
  show L2.upd H l (.lst us) a = _
  rw [upd_ne]
  · exact h
  · rintro rfl
    have h : H a = some (.tup _) := h
    rw [hl] at h; cases h
theorem RowA.upd {l : Addr} {vs us : List V} (h : RowA H r as es) (hl : H l = some (.lst vs)) (ne : r ≠ l) : RowA (L2.upd H l (.lst us)) r as es :=
  ⟨by rw [upd_ne ne]; exact h.1, h.2.mono fun _ _ _ z => z.upd hl⟩
theorem Row.upd {l : Addr} {vs us : List V} (h : Row H r es) (hl : H l = some (.lst vs)) (ne : r ≠ l) : Row (L2.upd H l (.lst us)) r es := h.elim fun as h => ⟨as, h.upd hl ne⟩
/-- one more row -/
theorem MaR.app (h : MaR H p rs m) (hr : Row H r es) (hn : r ∉ rs) (hp : r ≠ p) : MaR (L2.upd H p (.lst ((rs ++ [r]).map V.ref))) p (rs ++ [r]) (m ++ [es]) := by
  refine ⟨upd_same, ?_, (h.2.2.mono fun b y hb z => z.upd h.1 (h.ne hb)).app (hr.upd h.1 hp)⟩
  rw [List.nodup_append]
  exact ⟨h.2.1, by simp, fun a ha b hb => by rw [List.mem_singleton.1 hb]; rintro rfl; exact hn ha⟩
/-- one more entry -/
theorem RowA.app (h : RowA H r as es) (he : Ent H a e) : RowA (L2.upd H r (.lst ((as ++ [a]).map V.ref))) r (as ++ [a]) (es ++ [e]) :=
  ⟨upd_same, (h.2.mono fun _ _ _ z => z.upd h.1).app (he.upd h.1)⟩
theorem RowA.app' (h : RowA H r as es) (he : Ent H a e) : RowA (L2.upd H r (.lst (as.map V.ref ++ [V.ref a]))) r (as ++ [a]) (es ++ [e]) := by
  have := h.app he
  rw [List.map_append] at this
  exact this
theorem MaR.app' (h : MaR H p rs m) (hr : Row H r es) (hn : r ∉ rs) (hp : r ≠ p) : MaR (L2.upd H p (.lst (rs.map V.ref ++ [V.ref r]))) p (rs ++ [r]) (m ++ [es]) := by
  have := h.app hr hn hp
  rw [List.map_append] at this
  exact this
/-- another list changes -/
theorem MaR.other {l : Addr} {vs us : List V} (h : MaR H p rs m) (hl : H l = some (.lst vs)) (np : l ≠ p) (nr : l ∉ rs) : MaR (L2.upd H l (.lst us)) p rs m :=
  ⟨by rw [upd_ne np.symm]; exact h.1, h.2.1, h.2.2.mono fun b y hb z => z.upd hl (by rintro rfl; exact nr hb)⟩
theorem dens_int : ∀ ns : List Int, Dens H (ns.map V.int) (ns.map DD.int)
  | [] => by rw [List.map_nil, List.map_nil, Dens]
  | n :: ns => by rw [List.map_cons, List.map_cons, Dens]; exact ⟨_, _, rfl, by rw [Den], dens_int ns⟩
abbrev dE (e : En) : DD := .tup (e.map DD.int)
theorem Ent.den (h : Ent H a e) : Den H (.ref a) (dE e) := by rw [dE, Den]; exact ⟨_, _, rfl, h, dens_int e⟩
theorem depL_leK {k : Nat} : ∀ {ds : List DD}, (∀ d ∈ ds, dep d ≤ k) → depL ds ≤ k
  | [], _ => by rw [depL]; omega
  | d :: ds, h => by rw [depL]; exact Nat.max_le.2 ⟨h d (by simp), depL_leK fun x hx => h x (by simp [hx])⟩
theorem dep_dE : dep (dE e) ≤ 1 := by
  rw [dE, dep]
  have : depL (e.map DD.int) ≤ 0 := depL_leK fun d hd => by
    obtain ⟨i, _, rfl⟩ := List.mem_map.1 hd
    exact Nat.le_refl 0
  omega
end
theorem MaR.out {H : Hp} {p q : Addr} {rs : List Addr} {m : Ma} (h : MaR H p rs m) (n : H q = none) : q ∉ rs := fun z => by
  obtain ⟨j, hj, e⟩ := List.getElem_of_mem z
  obtain ⟨es, _, as, h1, _⟩ := h.2.2.at (List.getElem?_eq_some_iff.2 ⟨hj, e⟩)
  rw [n] at h1; cases h1
theorem MaR.outp {H : Hp} {p q : Addr} {rs : List Addr} {m : Ma} (h : MaR H p rs m) (n : H q = none) : q ≠ p := fun z => by
  have := h.1
  rw [← z, n] at this; cases this
/-! ### the purse -/
section
variable {pp : Addr} {k : Int} {A B C : Hp}
end
end L2

end
section
set_option Elab.async false
set_option linter.all false
set_option maxRecDepth 100000
set_option maxHeartbeats 4000000
namespace L2
open PySem PySem.Spec PyProof.Rows PySem.W
/-! ### the sort of any length, the keys all different -/
section
variable {M : Model} {A : Around} {E : Value → Shared → Prop} {s : Shared} {kf : Keyed → Int} {G : Keyed → Prop} {κ : SortKind}
end
/-! ### two lists in order come to one -/
section
variable {kf : Keyed → Int} {G : Keyed → Prop}
variable {base o ra rb xs : List Keyed}
/-! by arrays -/
variable {a b out : Array Keyed} {ia ib k : Nat} {x y : Keyed}
end
section
variable {M : Model} {A : Around} {E : Value → Shared → Prop} {s : Shared} {kf : Keyed → Int} {G : Keyed → Prop} {κ : SortKind}
set_option hygiene false in
/-- from the second half on: x of a at I is below all of b that is left at J -/
local macro_rules | `(tactic| walk_at "loEnd") => `(tactic| (
  refine wpS_bind (elem_ok hx ?_)
  have S4 := S3.pushA hx hi2
  refine wpS_ite (fun e => ?_) fun e => ?_
  · exact wpS_pure ⟨_, rfl, .inl ⟨_, rfl, S4.lastA (by simpa using e) T.lst⟩⟩
  have e2 : I + 1 + 1 ≠ a.size := by simpa using e
  refine wpS_ite (fun _ => ?_) fun _ => ?_
  · exact wpS_pure ⟨_, rfl, .inr ⟨_, _, _, _, _, _, rfl, S4, by omega, by omega, by omega⟩⟩
  · exact wpS_pure ⟨_, rfl, _, _, _, _, _, _, rfl, S4, by omega, by omega, by omega⟩))
set_option hygiene false in
/-- from the first half on: y of b at ib is below all of a that is left at I -/
local macro_rules | `(tactic| walk_at "loTail") => `(tactic| (
  refine wpS_bind (elem_ok hy ?_)
  have S2 := S1.pushB hy hi
  refine wpS_ite (fun e => ?_) fun e => ?_
  · have e0 : ib + 1 = b.size := by simpa using e
    exact wpS_pure ⟨_, rfl, .inl ⟨_, rfl, S2.done (.inr (by omega))⟩⟩
  have e1 : ib + 1 ≠ b.size := by simpa using e
  obtain ⟨x, hx⟩ := at_some (a := a) (ia := I) (by omega)
  refine wpS_bind (elem_ok hx ?_)
  obtain ⟨L, hL, cutb⟩ := T.cutB (mem_at hx) (bs := ib + 1) (n := b.size - (ib + 1)) (by omega)
  refine wpS_bind (gallop_ok C (K := L) hk (T.ga x (mem_at hx)) cutb (by omega) hL ?_)
  dsimp only
  obtain ⟨S3, hi2⟩ := AI.galB S2 hx cutb
  refine wpS_ite (fun _ => ?_) fun eL => ?_
  · refine wpS_ite (fun e => ?_) fun e => ?_
    · have e0 : ib + 1 + L = b.size := by simpa using e
      exact wpS_pure ⟨_, rfl, .inl ⟨_, rfl, S3.done (.inr (by omega))⟩⟩
    have e3 : ib + 1 + L ≠ b.size := by simpa using e
    walk_at "loEnd"
  · obtain rfl : L = 0 := by omega
    have S3 := S2
    walk_at "loEnd"))
end
/-! ### and from the other end -/
section
variable {kf : Keyed → Int} {G : Keyed → Prop}
variable {a b out : Array Keyed} {na nb k : Nat} {x y : Keyed}
end
section
variable {M : Model} {A : Around} {E : Value → Shared → Prop} {s : Shared} {kf : Keyed → Int} {G : Keyed → Prop} {κ : SortKind}
set_option hygiene false in
/-- from the second half on: x of a at I is above all of b that is left at J -/
local macro_rules | `(tactic| walk_at "hiEnd") => `(tactic| (
  refine wpS_bind (elem_ok hx ?_)
  have S4 := S3.pushA' (by omega) hx hi2
  refine wpS_ite (fun e => ?_) fun e => ?_
  · have e0 : I - 1 = 0 := by simpa using e
    exact wpS_pure ⟨_, rfl, .inl ⟨_, rfl, S4.done (.inl e0)⟩⟩
  have e2 : I - 1 ≠ 0 := by simpa using e
  refine wpS_ite (fun _ => ?_) fun _ => ?_
  · exact wpS_pure ⟨_, rfl, .inr ⟨_, _, _, _, _, _, rfl, S4, by omega, by omega, by omega, by omega, by omega⟩⟩
  · exact wpS_pure ⟨_, rfl, _, _, _, _, _, _, rfl, S4, by omega, by omega, by omega, by omega, by omega⟩))
set_option hygiene false in
/-- from the first half on: y of b at nb - 1 is above all of a that is left at I -/
local macro_rules | `(tactic| walk_at "hiTail") => `(tactic| (
  refine wpS_bind (elem_ok hy ?_)
  have S2 := S1.pushB' (by omega) hy hi
  refine wpS_ite (fun e => ?_) fun e => ?_
  · have e0 : nb - 1 = 1 := by simpa using e
    exact wpS_pure ⟨_, rfl, .inl ⟨_, rfl, S2.firstB e0 T.hd⟩⟩
  have e1 : nb - 1 ≠ 1 := by simpa using e
  obtain ⟨x, hx⟩ := at_some (a := a) (ia := I - 1) (by omega)
  refine wpS_bind (elem_ok hx ?_)
  obtain ⟨L, hL, cutb⟩ := T.cutB (mem_at hx) (bs := 0) (n := nb - 1) (by omega)
  refine wpS_bind (gallop_ok C (K := L) hk (T.ga x (mem_at hx)) cutb (by omega) hL ?_)
  dsimp only
  obtain ⟨S3, hi2, hL1⟩ := HI.galB T S2 (by omega) hx (by omega) hL cutb
  refine wpS_ite (fun _ => ?_) fun eL => ?_
  · refine wpS_ite (fun e => ?_) fun e => ?_
    · have e0 : L = 1 := by simpa using e
      exact wpS_pure ⟨_, rfl, .inl ⟨_, rfl, S3.firstB e0 T.hd⟩⟩
    have e3 : L ≠ 1 := by simpa using e
    rw [if_neg (by simp; omega)]
    walk_at "hiEnd"
  · obtain rfl : L = nb - 1 := by omega
    clear S3
    have S3 := S2
    walk_at "hiEnd"))
end
/-! ### runs -/
section
variable {M : Model} {A : Around} {E : Value → Shared → Prop} {s : Shared} {kf : Keyed → Int} {G : Keyed → Prop} {κ : SortKind}
end
section
variable {M : Model} {A : Around} {E : Value → Shared → Prop} {s : Shared} {kf : Keyed → Int} {G : Keyed → Prop} {κ : SortKind}
end
section
variable {M : Model} {A : Around} {E : Value → Shared → Prop} {s : Shared} {kf : Keyed → Int} {G : Keyed → Prop} {κ : SortKind}
set_option hygiene false in
/-- behind a run of nn at lo: the merges that are due, and the run laid to the others -/
local macro_rules | `(tactic| walk_at "runTail") => `(tactic| (
  refine wpS_bind (wpS_get ?_)
  have push : ∀ (us : Array Keyed) (P' : Array (Nat × Nat × Nat)) (g' : Nat), us.Perm xs → Chain kf us 0 P'.toList lo → Seg kf us lo (lo + nn) → ∃ ys P g, SortSt.mk' κ us (P'.push (lo, nn, 0)) g' none = SortSt.mk' κ ys P g none ∧ ys.Perm xs ∧ ∃ lo', ((none : Option Unit), lo + nn) = (none, lo') ∧ i + 1 ≤ lo' ∧ lo' ≤ xs.size ∧ Chain kf ys 0 P.toList lo' :=
    fun us P' g' pm ch sg => ⟨us, _, g', rfl, pm, lo + nn, rfl, by omega, by omega, by rw [Array.toList_push]; exact Chain.app.2 ⟨lo, ch, rfl, nn1, sg, rfl⟩⟩
  obtain hb | ⟨⟨s1, n1', pw'⟩, hb⟩ : P.back? = none ∨ ∃ t, P.back? = some t := by cases P.back? <;> simp
  · have hb' : (pendingOf (SortSt.mk' κ zs P g none)).back? = none := hb
    rw [hb']
    exact wpS_bind (wpS_modify (wpS_pure (push zs P g pmz chz sgz)))
  · have hb' : (pendingOf (SortSt.mk' κ zs P g none)).back? = some (s1, n1', pw') := hb
    rw [hb']
    dsimp only
    refine wpS_bind (wpS_mono (wpS_forRange (I := fun _ c st' => c = (none, ()) ∧ ∃ us P' g', st' = SortSt.mk' κ us P' g' none ∧ us.Perm xs ∧ Chain kf us 0 P'.toList lo ∧ Seg kf us lo (lo + nn))
      (Q := fun c st' => c = (none, ()) ∧ ∃ us P' g', st' = SortSt.mk' κ us P' g' none ∧ us.Perm xs ∧ Chain kf us 0 P'.toList lo ∧ Seg kf us lo (lo + nn)) ?_ (fun _ _ h => h) ⟨rfl, zs, P, g, rfl, pmz, chz, sgz⟩) ?_)
    · rintro j c st' _ _ ⟨rfl, us, P', g', rfl, pm', ch', sg'⟩
      refine wpS_bind (wpS_get ?_)
      by_cases hs : 1 < P'.size
      · have hs' : (pendingOf (SortSt.mk' κ us P' g' none)).size > 1 := hs
        rw [if_pos hs']
        obtain ⟨⟨q1, q2, q3⟩, hq⟩ : ∃ t, P'[P'.size - 2]? = some t := ⟨_, Array.getElem?_eq_getElem (by omega)⟩
        have hq' : (pendingOf (SortSt.mk' κ us P' g' none))[(pendingOf (SortSt.mk' κ us P' g' none)).size - 2]? = some (q1, q2, q3) := hq
        rw [hq']
        dsimp only
        refine wpS_ite (fun _ => wpS_pure ⟨rfl, us, P', g', rfl, pm', ch', sg'⟩) fun _ => ?_
        have szu := pm'.size_eq
        refine wpS_bind (mergeChain C (hg.perm pm') ch' (by omega) (i := P'.size - 2) (by omega) fun vs P'' g'' pv kv cv _ => ?_)
        rw [if_neg (by simp)]
        exact wpS_pure ⟨rfl, vs, P'', g'', rfl, pv.trans pm', cv, sg'.congr fun k k1 _ => kv k k1⟩
      · have hs' : ¬ (pendingOf (SortSt.mk' κ us P' g' none)).size > 1 := hs
        rw [if_neg hs']
        exact wpS_pure ⟨rfl, us, P', g', rfl, pm', ch', sg'⟩
    · rintro c st' ⟨rfl, us, P', g', rfl, pm', ch', sg'⟩
      dsimp only
      refine wpS_bind (wpS_modify (wpS_bind (wpS_modify (wpS_pure (push us _ g' pm' ?_ sg')))))
      rw [Array.toList_modify]
      refine Chain.pow ?_ _ ch'
      exact fun t => ⟨rfl, rfl⟩))
end
end L2

end
section
set_option Elab.async false
set_option linter.all false
set_option maxRecDepth 100000
set_option maxHeartbeats 4000000
namespace L2
open PySem PySem.Spec PyProof.Rows PySem.W
/-! ### list.sort of tuples that begin with different ints -/
section
variable {prog : Program} {w : World} {A : Around} {E : Value → Shared → Prop} {s : Shared}
end
end L2

end
section
set_option Elab.async false
set_option linter.all false
set_option maxRecDepth 100000
set_option maxHeartbeats 4000000
namespace L2
open PySem PySem.Spec PyProof.Rows PySem.W
/-! ### several new objects at once -/
section
variable {X : Cx} {pins : List (Addr × Obj)} {σ : St} {H H' : Hp} {s : Shared} {h' : Heap}
theorem ObjOk.there {P : Program} {w : World} {H : Hp} {h : Heap} {a : Addr} {o : HO} (x : ObjOk P w H h a o) : ∃ u, h.get? a = some u := by
  cases o with
  | lst xs => obtain ⟨_, _, _, _, e⟩ := x; exact ⟨_, e⟩
  | tup xs => obtain ⟨_, _, _, o, e, _⟩ := x; exact ⟨_, e⟩
  | dK kvs => obtain ⟨_, _, _, _, o, _, _, e, _⟩ := x; exact ⟨_, e⟩
  | dT kvs => obtain ⟨_, _, _, _, o, _, _, e, _⟩ := x; exact ⟨_, e⟩
  | set S n => obtain ⟨o, _, _, _, e, _⟩ := x; exact ⟨_, e⟩
  | ins C dx fs => obtain ⟨_, _, _, e, _⟩ := x; exact ⟨_, e⟩
  | own y => exact x
  | xd fs => obtain ⟨_, ⟨_, _, _, e, _⟩, _⟩ := x; exact ⟨_, e⟩
  | rng lo hi => obtain ⟨_, _, _, e⟩ := x; exact ⟨_, e⟩
  | frz ob u => obtain ⟨e, _⟩ := x; exact ⟨_, e⟩
  | tbl ps => exact ⟨_, (show h.get? a = some _ from x)⟩
  | met f y => exact ⟨_, (show h.get? a = some _ from x)⟩
  | ext φ => obtain ⟨_, e, _⟩ := x; exact e
theorem Inv.noneAt {a : Addr} (I : Inv X pins σ H s) (n : s.heap.get? a = none) : H a = none := by
  cases q : H a with
  | none => rfl
  | some o =>
    obtain ⟨u, e⟩ := ObjOk.there (I.hok a o q)
    rw [n] at e; cases e
theorem Inv.more {t' : Nat} (I : Inv X pins σ H s) (k : ∀ b u, s.heap.get? b = some u → h'.get? b = some u) (S : Sub H H') (new : ∀ a o, H' a = some o → H a = none → s.heap.get? a = none ∧ ObjOk X.prog X.w H' h' a o) :
    Inv X pins σ H' { s with heap := h', toks := t' } := by
  refine I.un ⟨fun b o e _ _ _ => k b o e, fun b o e _ _ _ => ⟨o.slots, k b o e⟩, fun b o e n _ => ?_, fun b o e _ => ⟨o, k b o e⟩, fun b xs e => S _ _ e, fun b o u e => S _ _ e, fun b ps e => ⟨#[], by rw [S _ _ e]; simp⟩⟩ fun a o e => ?_
  · cases q : H' b with
    | none => rfl
    | some u => have := (new b u q n).1; rw [e] at this; cases this
  · cases q : H a with
    | none => exact (new a o e q).2
    | some u =>
      have := S a u q
      rw [e] at this
      cases this
      exact (I.hok a o q).stay (fun b u _ z => k b u z) (fun b z => S _ _ z) fun b xs z => S _ _ z
end
/-- a heap and more -/
def ovr (H : Hp) (l : List (Addr × HO)) : Hp := fun a => match l.lookup a with | some o => some o | none => H a
theorem ovr_old {H : Hp} {l : List (Addr × HO)} (h : ∀ p ∈ l, H p.1 = none) : Sub H (ovr H l) := fun a o e => by
  unfold ovr
  cases q : l.lookup a with
  | none => exact e
  | some u =>
    have : (a, u) ∈ l := by
      rw [List.lookup_eq_some_iff] at q
      obtain ⟨l1, l2, rfl, _⟩ := q
      simp
    have := h _ this
    rw [e] at this; cases this
theorem ovr_new {H : Hp} {l : List (Addr × HO)} {a : Addr} {o : HO} (h : ovr H l a = some o) (n : H a = none) : (a, o) ∈ l := by
  unfold ovr at h
  cases q : l.lookup a with
  | none => rw [q] at h; rw [n] at h; cases h
  | some u =>
    rw [q] at h
    cases h
    rw [List.lookup_eq_some_iff] at q
    obtain ⟨l1, l2, rfl, _⟩ := q
    simp
theorem ovr_at {H : Hp} : ∀ {l : List (Addr × HO)} {a : Addr} {o : HO}, (l.map (·.1)).Nodup → (a, o) ∈ l → ovr H l a = some o := by
  intro l a o nd m
  have : l.lookup a = some o := by
    induction l with
    | nil => cases m
    | cons p l ih =>
      rw [List.map_cons, List.nodup_cons] at nd
      rcases List.mem_cons.1 m with rfl | m
      · simp [List.lookup]
      · have ne : ¬ a = p.1 := fun e => nd.1 (List.mem_map.2 ⟨(a, o), m, e⟩)
        have hb : (a == p.1) = false := beq_eq_false_iff_ne.2 ne
        rw [List.lookup_cons, hb]
        exact ih nd.2 m
  unfold ovr
  rw [this]
/-! ### the items of a dict of ints -/
abbrev dcI (kvs : List (Int × V)) : List (Key × V) := kvs.map fun q => (Sum.inl q.1, q.2)
abbrev tI (q : Int × V) : HO := .tup [.int q.1, q.2]
theorem vals_ref : ∀ bs : List Addr, Vals (bs.map V.ref) (bs.map Value.ref)
  | [] => .nil
  | _ :: bs => .cons rfl (vals_ref bs)
/-! ### d.items(), sorted(d.items()), sorted(a list of tuples) -/
section
variable {X : Cx}
end
end L2

end
section
set_option Elab.async false
set_option linter.all false
set_option maxRecDepth 100000
set_option maxHeartbeats 4000000
namespace L2
open PySem PySem.Spec PyProof.Rows PySem.W
section
variable {X : Cx} {pins : List (Addr × Obj)} {σ : St} {H : Hp} {s : Shared}
end
/-! ### for k, v in d.items() -/
section
variable {X : Cx}
end
end L2

end
section
set_option Elab.async false
set_option linter.all false
set_option maxRecDepth 100000
set_option maxHeartbeats 4000000
namespace PySem
end PySem
namespace L2
open PySem PySem.Spec PyProof.Rows PySem.W HT
section
variable {prog : Program} {w : World} {A : Around} {E : Value → Shared → Prop} {s : Shared}
end
section
variable {X : Cx} {K : PySem.W.Frag}
end
/-- a def that may raise, where it doesn't -/
theorem FnOk.noE {P : Program} {w : World} {K : PySem.W.Frag} {mg : Str → Option Value} {base : Heap} {k : Nat} {f : Addr} {fd : FuncData} {ps : List Str} {sp : Sp} (F : FnOk P w K mg base (CXE P w) k f fd ps sp) :
    FnOk P w K mg base CX0 k f fd ps (fun vs H Q _ => sp vs H Q fun _ _ _ => False) :=
  ⟨fun vs H Q _ h => F.len vs H Q _ h, fun A outer s H args us vs Q E hr he hb hv hs => codeAny_mono (F.run A outer s H args us vs Q (fun _ _ _ => False) hr he hb hv hs) fun r s' hq => by
    cases r with
    | ok fl => cases fl <;> exact hq
    | error e =>
      obtain ⟨x, C, B, hr, a0, H', _, _, _, _, _, _, _, _, _, _, z⟩ := hq
      exact z.elim⟩
end L2

end
section
set_option Elab.async false
set_option linter.all false
set_option maxRecDepth 100000
set_option maxHeartbeats 4000000
namespace L2
open PySem PySem.Spec PyProof.Rows PySem.W
/-! ### marks: a list of places and signs -/
abbrev Mk2 := List (Int × Int)
abbrev iv (ks : Mk2) : List (Int × V) := ks.map fun q => (q.1, V.int q.2)
def valI (ks : Mk2) (k : Int) : Option Int := (ks.find? fun q => decide (q.1 = k)).map (·.2)
def putI (ks : Mk2) (k s : Int) : Mk2 := if (ks.any fun q => decide (q.1 = k)) = true then ks.map (fun q => if q.1 = k then (q.1, s) else q) else ks ++ [(k, s)]
def dropI (ks : Mk2) (k : Int) : Mk2 := ks.filter fun q => decide (q.1 ≠ k)
def nxt (ks : Mk2) (p s : Int) : Mk2 := if s = 0 then dropI ks p else putI ks p s
theorem D_val (k : Int) : ∀ ks : Mk2, valV (dcI (iv ks)) (.inl k) = (valI ks k).map V.int
  | [] => rfl
  | q :: ks => by
    by_cases e : q.1 = k
    · rw [show dcI (iv (q :: ks)) = ((.inl q.1 : Key), V.int q.2) :: dcI (iv ks) from rfl, valV_pos (by rw [e])]
      simp [valI, List.find?_cons, e]
    · rw [show dcI (iv (q :: ks)) = ((.inl q.1 : Key), V.int q.2) :: dcI (iv ks) from rfl, valV_neg (by intro z; exact e (Sum.inl.inj z)), D_val k ks]
      simp [valI, List.find?_cons, e]
theorem D_any (k : Int) (ks : Mk2) : ((dcI (iv ks)).any fun kv => decide (kv.1 = (.inl k : Key))) = ks.any fun q => decide (q.1 = k) := by
  rw [List.any_map, List.any_map]
  congr 1
  funext q
  simp [Function.comp]
theorem D_put (k s : Int) (ks : Mk2) : putK (dcI (iv ks)) (.inl k) (.int s) = dcI (iv (putI ks k s)) := by
  unfold putK putI
  rw [D_any]
  by_cases h : (ks.any fun q => decide (q.1 = k)) = true
  · rw [if_pos h, if_pos h]
    show _ = List.map _ (List.map _ (List.map _ ks))
    rw [List.map_map, List.map_map, List.map_map, List.map_map]
    refine List.map_congr_left fun q _ => ?_
    by_cases e : q.1 = k <;> simp [e]
  · rw [if_neg h, if_neg h]
    show _ = List.map _ (List.map _ (ks ++ [(k, s)]))
    rw [List.map_append, List.map_append]
    rfl
theorem D_drop (k : Int) (ks : Mk2) : dropK (dcI (iv ks)) (.inl k) = dcI (iv (dropI ks k)) := by
  unfold dropK dropI
  rw [List.filter_map, List.filter_map, List.map_map]
  show _ = List.map _ (List.map _ (ks.filter _))
  rw [List.map_map]
  congr 1
  refine List.filter_congr fun q _ => ?_
  simp [Function.comp]
theorem drop_none {ks : Mk2} {k : Int} (h : valI ks k = none) : dropI ks k = ks := by
  unfold dropI
  refine List.filter_eq_self.2 fun q hq => ?_
  unfold valI at h
  rw [Option.map_eq_none_iff, List.find?_eq_none] at h
  simpa using h q hq
theorem put_mem {ks : Mk2} {k s : Int} {q : Int × Int} (h : q ∈ putI ks k s) : q = (k, s) ∨ q ∈ ks := by
  unfold putI at h
  split at h
  · obtain ⟨r, hr, rfl⟩ := List.mem_map.1 h
    by_cases e : r.1 = k
    · rw [if_pos e, e]; exact .inl rfl
    · rw [if_neg e]; exact .inr hr
  · rcases List.mem_append.1 h with h | h
    · exact .inr h
    · exact .inl (List.mem_singleton.1 h)
theorem drop_mem {ks : Mk2} {k : Int} {q : Int × Int} (h : q ∈ dropI ks k) : q ∈ ks := (List.mem_filter.1 h).1
theorem put_keys (ks : Mk2) (k s : Int) : ((ks.any fun q => decide (q.1 = k)) = true → (putI ks k s).map (·.1) = ks.map (·.1)) ∧ ((ks.any fun q => decide (q.1 = k)) = false → (putI ks k s).map (·.1) = ks.map (·.1) ++ [k]) := by
  refine ⟨fun h => ?_, fun h => ?_⟩
  · unfold putI
    rw [if_pos h, List.map_map]
    refine List.map_congr_left fun q _ => ?_
    by_cases e : q.1 = k <;> simp [e]
  · unfold putI
    rw [if_neg (by rw [h]; simp), List.map_append]
    rfl
theorem put_nodup {ks : Mk2} {k s : Int} (nd : (ks.map (·.1)).Nodup) : ((putI ks k s).map (·.1)).Nodup := by
  cases h : ks.any fun q => decide (q.1 = k) with
  | true => rw [(put_keys ks k s).1 h]; exact nd
  | false =>
    rw [(put_keys ks k s).2 h, List.nodup_append]
    refine ⟨nd, by simp, fun a ha b hb => ?_⟩
    rw [List.mem_singleton.1 hb]
    rintro rfl
    obtain ⟨q, hq, e⟩ := List.mem_map.1 ha
    rw [List.any_eq_false] at h
    exact h q hq (decide_eq_true e)
theorem drop_nodup {ks : Mk2} {k : Int} (nd : (ks.map (·.1)).Nodup) : ((dropI ks k).map (·.1)).Nodup := nd.sublist (List.filter_sublist.map _)
theorem nxt_nodup {ks : Mk2} {k s : Int} (nd : (ks.map (·.1)).Nodup) : ((nxt ks k s).map (·.1)).Nodup := by
  unfold nxt
  split
  · exact drop_nodup nd
  · exact put_nodup nd
theorem put_len (ks : Mk2) (k s : Int) : (putI ks k s).length ≤ ks.length + 1 := by
  unfold putI
  split
  · rw [List.length_map]; omega
  · rw [List.length_append]; exact Nat.le_refl _
theorem nxt_len (ks : Mk2) (k s : Int) : (nxt ks k s).length ≤ ks.length + 1 := by
  unfold nxt
  split
  · exact Nat.le_trans (List.length_filter_le _ _) (Nat.le_succ _)
  · exact put_len ks k s
/-! ### the one order -/
/-! ### strips and setups as they lie -/
section
variable {H H' : Hp} {l t : Addr} {ks : Mk2} {r p : Int}
def Strip (H : Hp) (l : Addr) (ks : Mk2) : Prop := ∃ as : List Addr, H l = some (.lst (as.map V.ref)) ∧ All2 (fun b q => H b = some (tI q)) as (iv ks)
def SU (H : Hp) (t : Addr) (r p : Int) (ks : Mk2) : Prop := ∃ l, H t = some (.tup [.int r, .int p, .ref l]) ∧ Strip H l ks
theorem Strip.sub (S : Sub H H') : Strip H l ks → Strip H' l ks := fun ⟨as, h1, h2⟩ => ⟨as, S _ _ h1, h2.mono fun _ _ _ z => S _ _ z⟩
end
/-! ### what a machine is, from its rows -/
def okAll (m : Ma) (s : Nat) (r : List En) : Bool := r.all (entryOk m.length s)
theorem isM_cons {r0 : List En} {m' : Ma} (h : isM (r0 :: m') = true) : (r0 :: m').length ≤ 4 ∧ 2 ≤ r0.length ∧ r0.length ≤ 4 ∧ ∀ r ∈ r0 :: m', r.length = r0.length ∧ okAll (r0 :: m') r0.length r = true := by
  have hd : isM (r0 :: m') = (decide ((r0 :: m').length ≤ 4) && decide (2 ≤ r0.length) && decide (r0.length ≤ 4) && (r0 :: m').all (rowOk (r0 :: m').length r0.length)) := rfl
  rw [hd, Bool.and_eq_true, Bool.and_eq_true, Bool.and_eq_true] at h
  obtain ⟨⟨⟨h1, h2⟩, h3⟩, h4⟩ := h
  refine ⟨of_decide_eq_true h1, of_decide_eq_true h2, of_decide_eq_true h3, fun r hr => ?_⟩
  have := List.all_eq_true.1 h4 r hr
  unfold rowOk at this
  rw [Bool.and_eq_true] at this
  exact ⟨by have := of_decide_eq_true this.1; omega, this.2⟩
theorem isM_mk {r0 : List En} {m' : Ma} (h1 : (r0 :: m').length ≤ 4) (h2 : 2 ≤ r0.length) (h3 : r0.length ≤ 4) (h4 : ∀ r ∈ r0 :: m', r.length = r0.length ∧ okAll (r0 :: m') r0.length r = true) : isM (r0 :: m') = true := by
  have hd : isM (r0 :: m') = (decide ((r0 :: m').length ≤ 4) && decide (2 ≤ r0.length) && decide (r0.length ≤ 4) && (r0 :: m').all (rowOk (r0 :: m').length r0.length)) := rfl
  rw [hd, decide_eq_true h1, decide_eq_true h2, decide_eq_true h3]
  refine List.all_eq_true.2 fun r hr => ?_
  unfold rowOk
  rw [(h4 r hr).1]
  have := (h4 r hr).2
  unfold okAll at this
  rw [this]
  simp
/-- the signs of a machine -/
def sgn (m : Ma) : Nat := (m.headD []).length
structure OkM (m : Ma) : Prop where
  n1 : 1 ≤ m.length
  n4 : m.length ≤ 4
  s2 : 2 ≤ sgn m
  s4 : sgn m ≤ 4
  len : ∀ r ∈ m, r.length = sgn m
  ent : ∀ r ∈ m, ∀ e ∈ r, entryOk m.length (sgn m) e = true
theorem OkM.of {m : Ma} (h : isM m = true) : OkM m := by
  cases m with
  | nil => cases h
  | cons r0 m' =>
    obtain ⟨h1, h2, h3, h4⟩ := isM_cons h
    exact ⟨by simp, h1, h2, h3, fun r hr => (h4 r hr).1, fun r hr e he => List.all_eq_true.1 (h4 r hr).2 e he⟩
theorem OkM.isM {m : Ma} (h : OkM m) : L2.isM m = true := by
  cases m with
  | nil => have := h.n1; simp at this
  | cons r0 m' => exact isM_mk h.n4 h.s2 h.s4 fun r hr => ⟨h.len r hr, List.all_eq_true.2 fun e he => h.ent r hr e he⟩
theorem entryOk_three {rows signs : Int} {e : En} (h : entryOk rows signs e = true) (ne : e ≠ []) : ∃ s w r, e = [s, w, r] ∧ 0 ≤ s ∧ s < signs ∧ (w = -1 ∨ w = 1) ∧ 0 ≤ r ∧ r < rows := by
  match e, h with
  | [], _ => exact (ne rfl).elim
  | [s, w, r], h =>
    have h : ((decide (0 ≤ s) && decide (s < signs)) && (decide (w = -1) || decide (w = 1)) && (decide (0 ≤ r) && decide (r < rows))) = true := h
    simp only [Bool.and_eq_true, Bool.or_eq_true, decide_eq_true_eq] at h
    obtain ⟨⟨⟨a, b⟩, c⟩, d, e⟩ := h
    exact ⟨s, w, r, rfl, a, b, c, d, e⟩
  | [_], h => cases h
  | [_, _], h => cases h
  | _ :: _ :: _ :: _ :: _, h => cases h
/-- the entry looked up -/
def ent (m : Ma) (r p : Int) (ks : Mk2) : Option En := (m[r.toNat]?).bind fun es => es[((valI ks p).getD 0).toNat]?
/-- a state of a walk over m -/
structure OkS (m : Ma) (r : Int) (ks : Mk2) : Prop where
  r0 : 0 ≤ r
  r1 : r < m.length
  sg : ∀ q ∈ ks, 0 ≤ q.2 ∧ q.2 < sgn m
  nd : (ks.map (·.1)).Nodup
theorem val_in {ks : Mk2} {k s : Int} (h : valI ks k = some s) : ∃ q ∈ ks, q.2 = s := by
  unfold valI at h
  obtain ⟨q, hq, rfl⟩ := Option.map_eq_some_iff.1 h
  exact ⟨q, List.mem_of_find?_eq_some hq, rfl⟩
theorem OkS.val {m : Ma} {r : Int} {ks : Mk2} (M : OkM m) (h : OkS m r ks) (p : Int) : 0 ≤ (valI ks p).getD 0 ∧ (valI ks p).getD 0 < sgn m := by
  cases e : valI ks p with
  | none => have := M.s2; simp; omega
  | some s =>
    obtain ⟨q, hq, rfl⟩ := val_in e
    exact h.sg q hq
theorem OkS.at {m : Ma} {r : Int} {ks : Mk2} (M : OkM m) (h : OkS m r ks) (p : Int) : ∃ es e, m[r.toNat]? = some es ∧ es[((valI ks p).getD 0).toNat]? = some e ∧ ent m r p ks = some e ∧ entryOk m.length (sgn m) e = true ∧ es.length = sgn m := by
  have hr : r.toNat < m.length := by have := h.r0; have := h.r1; omega
  have he : m[r.toNat]? = some m[r.toNat] := List.getElem?_eq_getElem hr
  have hm : m[r.toNat] ∈ m := List.getElem_mem hr
  have hl := M.len _ hm
  have hv := h.val M p
  have hs : ((valI ks p).getD 0).toNat < m[r.toNat].length := by rw [hl]; omega
  refine ⟨_, _, he, List.getElem?_eq_getElem hs, ?_, M.ent _ hm _ (List.getElem_mem hs), hl⟩
  unfold ent
  rw [he, Option.bind_some, List.getElem?_eq_getElem hs]
theorem OkS.nxt {m : Ma} {r r' p s : Int} {ks : Mk2} (h : OkS m r ks) (h0 : 0 ≤ s) (h1 : s < sgn m) (h2 : 0 ≤ r') (h3 : r' < m.length) : OkS m r' (nxt ks p s) :=
  ⟨h2, h3, fun q hq => by
    unfold L2.nxt at hq
    split at hq
    · exact h.sg q (drop_mem hq)
    · rcases put_mem hq with rfl | hq
      · exact ⟨h0, h1⟩
      · exact h.sg q hq, nxt_nodup h.nd⟩
/-! ### an object of the class of walks -/
def wf (t : Addr) (r p : Int) (d : Addr) : List (Str × V) := [("table", .ref t), ("row", .int r), ("place", .int p), ("marks", .ref d)]
theorem wf_mk (t : Addr) (r p : Int) (d : Addr) : putF "marks" (.ref d) (putF "place" (.int p) (putF "row" (.int r) (putF "table" (.ref t) []))) = wf t r p d := by
  have a1 : ¬ (("table" : Str) = "row") := by decide +kernel
  have a2 : ¬ (("table" : Str) = "place") := by decide +kernel
  have a3 : ¬ (("table" : Str) = "marks") := by decide +kernel
  have a4 : ¬ (("row" : Str) = "place") := by decide +kernel
  have a5 : ¬ (("row" : Str) = "marks") := by decide +kernel
  have a6 : ¬ (("place" : Str) = "marks") := by decide +kernel
  simp only [putF, a1, a2, a3, a4, a5, a6, if_false, wf]
theorem wf_row (t : Addr) (r p y : Int) (d : Addr) : putF "row" (.int y) (wf t r p d) = wf t y p d := by
  have a1 : ¬ (("table" : Str) = "row") := by decide +kernel
  simp only [wf, putF, a1, if_false, if_true]
theorem wf_place (t : Addr) (r p y : Int) (d : Addr) : putF "place" (.int y) (wf t r p d) = wf t r y d := by
  have a2 : ¬ (("table" : Str) = "place") := by decide +kernel
  have a4 : ¬ (("row" : Str) = "place") := by decide +kernel
  simp only [wf, putF, a2, a4, if_false, if_true]
theorem wf_lt (t : Addr) (r p : Int) (d : Addr) : (wf t r p d).lookup ("table" : Str) = some (.ref t) := rfl
theorem wf_lr (t : Addr) (r p : Int) (d : Addr) : (wf t r p d).lookup ("row" : Str) = some (.int r) := rfl
theorem wf_lp (t : Addr) (r p : Int) (d : Addr) : (wf t r p d).lookup ("place" : Str) = some (.int p) := rfl
theorem wf_lm (t : Addr) (r p : Int) (d : Addr) : (wf t r p d).lookup ("marks" : Str) = some (.ref d) := rfl
theorem wf_len (t : Addr) (r p : Int) (d : Addr) : (wf t r p d).length < 1000 := by show 4 < 1000; decide
structure WK (C : Addr) (H : Hp) (o t d : Addr) (r p : Int) (ks : Mk2) : Prop where
  ob : ∃ dx, H o = some (.ins C dx (wf t r p d))
  dc : H d = some (.dK (dcI (iv ks)))
theorem WK.sub {C : Addr} {H H' : Hp} {o t d : Addr} {r p : Int} {ks : Mk2} (S : Sub H H') (h : WK C H o t d r p ks) : WK C H' o t d r p ks := ⟨h.ob.imp fun _ z => S _ _ z, S _ _ h.dc⟩
theorem put_new {ks : Mk2} {k s : Int} (h : k ∉ ks.map (·.1)) : putI ks k s = ks ++ [(k, s)] := by
  unfold putI
  rw [if_neg]
  rw [List.any_eq_true]
  rintro ⟨q, hq, e⟩
  exact h (List.mem_map.2 ⟨q, hq, of_decide_eq_true e⟩)
theorem take_put {ks : Mk2} (nd : (ks.map (·.1)).Nodup) {i : Nat} {q : Int × Int} (h : ks[i]? = some q) : putI (ks.take i) q.1 q.2 = ks.take (i + 1) := by
  rw [put_new, List.take_add_one, h]
  · rfl
  · intro hm
    rw [List.map_take] at hm
    obtain ⟨j, hj⟩ := List.mem_iff_getElem?.1 hm
    rw [List.getElem?_take] at hj
    split at hj
    · rename_i hji
      have e2 : (ks.map (·.1))[i]? = some q.1 := by rw [List.getElem?_map, h]; rfl
      obtain ⟨a1, a2⟩ := List.getElem?_eq_some_iff.1 hj
      obtain ⟨b1, b2⟩ := List.getElem?_eq_some_iff.1 e2
      have := (List.getElem_inj nd).1 (a2.trans b2.symm)
      omega
    · cases hj
theorem dep_dE1 (e : En) : dep (dE e) ≤ 60 := Nat.le_trans dep_dE (by decide)
theorem eqD_dE {e : En} : eqD (dE e) (dE []) = decide (e = []) := by
  cases e with
  | nil => rw [eqD_refl]; simp
  | cons x e => show eqD (.tup (.int x :: e.map DD.int)) (.tup []) = _; rw [eqD]; simp [eqDs]
/-! ### what the law goes through: rows, places, signs with noughts among them -/
abbrev St3 := Int × Int × Mk2
def stp (m : Ma) (x : St3) : Option St3 := match ent m x.1 x.2.1 x.2.2 with
  | some [s, w, r] => some (r, x.2.1 + w, putI x.2.2 x.2.1 s)
  | _ => none
theorem ite_yes {c : Prop} [Decidable c] {p q : Prop} (hc : c) (h : p) : if decide c = true then p else q := by rw [if_pos (decide_eq_true hc)]; exact h
theorem ite_not {c : Prop} [Decidable c] {p q : Prop} (hc : ¬ c) (h : q) : if decide c = true then p else q := by rw [if_neg (by simpa using hc)]; exact h
theorem ite_nyes {c : Prop} [Decidable c] {p q : Prop} (hc : ¬ c) (h : p) : if (!decide c) = true then p else q := by rw [if_pos (by simpa using hc)]; exact h
theorem ite_nno {c : Prop} [Decidable c] {p q : Prop} (hc : c) (h : q) : if (!decide c) = true then p else q := by rw [if_neg (by simpa using hc)]; exact h
/-! ### a machine mirrored -/
def mirE : En → En
  | [s, w, r] => [s, 0 - w, r]
  | e => e
abbrev mirR (es : List En) : List En := es.map mirE
abbrev mirM (m : Ma) : Ma := m.map mirR
theorem mirE_ok {rows signs : Int} {e : En} (h : entryOk rows signs e = true) : entryOk rows signs (mirE e) = true := by
  by_cases z : e = []
  · subst z; rfl
  · obtain ⟨s, w, r, rfl, a, b, c, d, f⟩ := entryOk_three h z
    show ((decide (0 ≤ s) && decide (s < signs)) && (decide (0 - w = -1) || decide (0 - w = 1)) && (decide (0 ≤ r) && decide (r < rows))) = true
    have t : (decide (0 - w = -1) || decide (0 - w = 1)) = true := by
      rcases c with rfl | rfl <;> rfl
    rw [t, decide_eq_true a, decide_eq_true b, decide_eq_true d, decide_eq_true f]
    rfl
theorem sgn_mir (m : Ma) : sgn (mirM m) = sgn m := by
  cases m with
  | nil => rfl
  | cons r m => show (mirR r).length = r.length; rw [List.length_map]
theorem OkM.mir {m : Ma} (h : OkM m) : OkM (mirM m) := by
  refine ⟨by rw [List.length_map]; exact h.n1, by rw [List.length_map]; exact h.n4, by rw [sgn_mir]; exact h.s2, by rw [sgn_mir]; exact h.s4, fun r hr => ?_, fun r hr e he => ?_⟩
  · obtain ⟨r0, hr0, rfl⟩ := List.mem_map.1 hr
    rw [List.length_map, sgn_mir]; exact h.len r0 hr0
  · obtain ⟨r0, hr0, rfl⟩ := List.mem_map.1 hr
    obtain ⟨e0, he0, rfl⟩ := List.mem_map.1 he
    rw [sgn_mir, List.length_map]
    exact mirE_ok (h.ent r0 hr0 e0 he0)
end L2

end
section
set_option Elab.async false
set_option linter.all false
set_option maxRecDepth 100000
set_option maxHeartbeats 4000000
namespace L2
open PySem PySem.Spec PyProof.Rows PySem.W
section
variable {X : Cx} {pos : Pos}
def cMin2 : List V → Hp → VK → Prop := fun xs H Q => match xs with | [.int i, .int j] => ∀ m, m = (if j < i then j else i) → Q (.int m) H | _ => False
def cMax2 : List V → Hp → VK → Prop := fun xs H Q => match xs with | [.int i, .int j] => ∀ m, m = (if i < j then j else i) → Q (.int m) H | _ => False
theorem q_max2 (hc : X.calm = true) : CallR X (.builtin "max") cMax2 := (call_max2 hc).imp fun xs H Q h => by
  unfold cMax2 at h
  split at h
  · exact ⟨_, _, rfl, h _ rfl⟩
  · exact h.elim
end
/-! ### a walk's states, up to a count -/
theorem put_val (ks : Mk2) (p s : Int) : valI (putI ks p s) p = some s := by
  have h := valV_put (dcI (iv ks)) (.inl p) (.inl p) (.int s)
  rw [D_put, D_val, if_pos rfl] at h
  cases e : valI (putI ks p s) p with
  | none => rw [e] at h; cases h
  | some z => rw [e] at h; cases h; rfl
/-! ### what a run tells -/
end L2

end
section
set_option Elab.async false
set_option linter.all false
set_option maxRecDepth 100000
set_option maxHeartbeats 4000000
namespace L2
open PySem PySem.Spec PyProof.Rows PySem.W
/-! ### for x, y in zip(xs, ys) -/
section
variable {X : Cx}
end
end L2

end
section
set_option Elab.async false
set_option linter.all false
set_option maxRecDepth 100000
set_option maxHeartbeats 4000000
namespace L2
open PySem PySem.Spec PyProof.Rows PySem.W
/-! ### marks in another order -/
/-! ### walks: all states are good; more steps; the next one -/
/-! ### the other way round -/
/-! ### tuple(a list) -/
section
variable {X : Cx} {K : PySem.W.Frag}
def cTupO (K : PySem.W.Frag) : List V → Hp → VK → Prop := fun xs H Q => match xs with | [.ref a] => ∃ ys, SqL K H a ys ∧ ∀ p, H p = none → Q (.ref p) (upd H p (.tup ys)) | _ => False
theorem q_tupO : CallR X (.type "tuple") (cTupO X.K) := call_tuple_of.imp fun xs H Q h => by
  unfold cTupO at h
  split at h
  · obtain ⟨ys, h1, h2⟩ := h; exact ⟨_, ys, rfl, .inl ⟨h1, h2⟩⟩
  · exact h.elim
theorem q_tupOK (hK : X.K = K) : CallR X (.type "tuple") (cTupO K) := hK ▸ q_tupO
end
end L2

end
section
set_option Elab.async false
set_option linter.all false
set_option maxRecDepth 100000
set_option maxHeartbeats 4000000
namespace L2
open PySem PySem.Spec PyProof.Rows PySem.W
section
variable {X : Cx}
end
/-! ### two dicts of whole numbers compared, in tuples of a row, a place and a dict -/
section
variable {X : Cx} {pins : List (Addr × Obj)} {σ : St} {H : Hp} {s : Shared}
open PySem.SeqAt
end
/-! ### where two walks part -/
theorem drop_val (ks : Mk2) (p : Int) : valI (dropI ks p) p = none := by
  unfold valI dropI
  rw [Option.map_eq_none_iff, List.find?_eq_none]
  intro q hq
  have := (List.mem_filter.1 hq).2
  simpa using this
end L2

end
section
set_option Elab.async false
set_option linter.all false
set_option maxRecDepth 100000
set_option maxHeartbeats 4000000
namespace L2
open PySem PySem.Spec PyProof.Rows PySem.W
/-! ### a setup led along -/
/-! ### a trace parted -/
/-! ### states of a walk, their dicts still -/
section
variable {X : Cx} {pins : List (Addr × Obj)} {σ : St} {H : Hp} {s : Shared}
open PySem.SeqAt
end
theorem cut_take {xs : List V} {j : Nat} (h : j ≤ xs.length) : cutV xs none (some (j : Int)) = xs.take j := by
  unfold cutV
  rw [show HT.sIx xs.length 0 none = 0 from rfl, HT.sIx_nat, List.drop_zero, Nat.sub_zero, Nat.min_eq_left h]
end L2

end
section
set_option Elab.async false
set_option linter.all false
set_option maxRecDepth 100000
set_option maxHeartbeats 4000000
namespace L2
open PySem PySem.Spec PyProof.Rows PySem.W
/-! ### reversed(range(n)) -/
section
variable {X : Cx}
end
/-! ### the first drift -/
end L2

end
section
set_option Elab.async false
set_option linter.all false
set_option maxRecDepth 100000
set_option maxHeartbeats 4000000
namespace L2
open PySem PySem.Spec PyProof.Rows PySem.W
/-! ### texts of numbers -/
section
variable {X : Cx}
def cStr1 : List V → Hp → VK → Prop := fun xs H Q => match xs with | [.int i] => i.natAbs.log2 < 1920 ∧ Q (.str (toString i)) H | _ => False
end
section
variable {X : Cx}
def cInt1 : List V → Hp → VK → Prop := fun xs H Q => match xs with | [.bl k] => Q (.int (if k then 1 else 0)) H | [.int i] => Q (.int i) H | _ => False
theorem q_int1 : CallR X (.type "int") cInt1 := call_int1.imp fun xs H Q h => by
  unfold cInt1 at h
  split at h
  · exact .inr ⟨_, rfl, h⟩
  · exact .inl ⟨_, rfl, h⟩
  · exact h.elim
end
section
variable {X : Cx} {K : PySem.W.Frag} {o e : Expr} {es : List Expr} {to : TE} {t : TA} {name : Str} {apos cpos : Pos} {T id : String} {r : V → List V → Hp → VK → Prop}
end
/-! ### f-texts -/
section
variable {X : Cx} {e e1 e2 e3 : Expr} {te t1 t2 t3 : TE} {pos : Pos}
/-! ### a dict of the text's own, made once -/
variable {K : PySem.W.Frag} {o i : Expr} {td ty : TE}
end
/-! ### xs.count(True), xs.index(True) of truths -/
section
variable {X : Cx}
end
end L2

end
section
set_option Elab.async false
set_option linter.all false
set_option maxRecDepth 100000
set_option maxHeartbeats 4000000
namespace L2
open PySem PySem.Spec PyProof.Rows PySem.W
/-! ### xs += ys -/
section
variable {X : Cx}
/-! ### xs.pop() -/
/-! ### xs[::-1] -/
end
section
variable {X : Cx} {K : PySem.W.Frag} {e st : Expr} {te : TE} {ts : TO} {pos p2 : Pos}
end
/-! ### zip, its end told -/
/-! ### runs, the nearest one first -/
/-! ### lists of pairs -/
end L2

end
section
set_option Elab.async false
set_option linter.all false
set_option maxRecDepth 100000
set_option maxHeartbeats 4000000
namespace L2
open PySem PySem.Spec PyProof.Rows
/-! ### a comprehension whose own name an inner one sees: the name has a cell, behind the block's own dict -/
def compEnvY (sc : Scope) (cl : List (Str × Addr)) (C : Addr) (env : Env) (y : Str) : Env := { compEnvC sc cl C env with cells := (y, C + 1) :: cl }
def compCxC (X : Cx) (sc : Scope) (own : List Str) (fr : List Nat) (C : Addr) (s₀ : Shared) (H₀ : Hp) (ex : List Addr) (y : Str) : Cx :=
  { compCx X sc own fr C s₀ H₀ ex with env := compEnvY sc (closOf sc X.env) C X.env y, fn := fun x => decide (x = y) }
theorem fn_y {X : Cx} {sc : Scope} {own : List Str} {fr : List Nat} {C : Addr} {s₀ : Shared} {H₀ : Hp} {ex : List Addr} {y : Str} : (compCxC X sc own fr C s₀ H₀ ex y).fn y = true := decide_eq_true rfl
structure CompScopeC (X : Cx) (sc : Scope) (fr : List Nat) (y : Str) : Prop where
  kind : sc.kind = .function
  one : sc.names.filter (fun x => x.2 == .cell) = [(y, .cell)]
  names : ∀ y ∈ sc.names, y.2 = .local → sc.names.lookup y.1 = some .local
  yk : sc.names.lookup y = some .cell
  frees : FreesOk X (freeNames sc)
  fr : FrOk X sc fr
theorem newEnv_one {M : Model} {A : Around} {E : Value → Shared → Prop} {s : Shared} {sc : Scope} {globals : Addr} {cl : List (Str × Addr)} {qual : Str} {env : Env} {y : Str} {Q : Env → Shared → Prop}
    (h1 : sc.names.filter (fun x => x.2 == .cell) = [(y, .cell)])
    (h : Q { scope := sc, locals := s.heap.objs.size, globals := globals, cells := (y, s.heap.objs.size + 1) :: cl, qual := qual, func := none, code := env.code, frame := env.frame, builtins := env.builtins }
      { s with heap := (s.heap.push { cls := .type "dict", data := .dict #[] }).push { cls := .type "cell", data := .cell none } }) :
    wpAny M A (newFunctionEnv sc globals cl [] qual none .none (some env)) Q E s := by
  have key0 : ∀ (l : List (Str × NameKind)) (cs : List (Str × Addr)), l.filter (fun x => x.2 == .cell) = [] →
      (forIn l cs fun (x : Str × NameKind) (r : List (Str × Addr)) => (if (x.2 == NameKind.cell) = true then (do let a ← alloc { cls := .type "cell", data := .cell none }; pure (ForInStep.yield ((x.1, a) :: r))) else pure (ForInStep.yield r) : Sem (ForInStep (List (Str × Addr)))))
        = pure cs := by
    intro l
    induction l with
    | nil => intro cs _; rfl
    | cons x r ih =>
      intro cs hx
      rw [List.filter_cons] at hx
      split at hx
      · cases hx
      · rename_i e1
        rw [List.forIn_cons, if_neg e1]
        show (forIn r cs _ : Sem _) = _
        exact ih cs hx
  have key : ∀ (l : List (Str × NameKind)) (cs : List (Str × Addr)), l.filter (fun x => x.2 == .cell) = [(y, .cell)] →
      (forIn l cs fun (x : Str × NameKind) (r : List (Str × Addr)) => (if (x.2 == NameKind.cell) = true then (do let a ← alloc { cls := .type "cell", data := .cell none }; pure (ForInStep.yield ((x.1, a) :: r))) else pure (ForInStep.yield r) : Sem (ForInStep (List (Str × Addr)))))
        = (do let a ← alloc { cls := .type "cell", data := .cell none }; pure ((y, a) :: cs)) := by
    intro l
    induction l with
    | nil => intro cs hx; cases hx
    | cons x r ih =>
      intro cs hx
      rw [List.filter_cons] at hx
      split at hx
      · rename_i e1
        injection hx with hx hr
        subst hx
        rw [List.forIn_cons, if_pos (show ((y, NameKind.cell).2 == NameKind.cell) = true from rfl)]
        show (do let a ← alloc { cls := .type "cell", data := .cell none }; forIn r ((y, a) :: cs) _ : Sem _) = _
        congr 1
        funext a
        exact key0 r _ hr
      · rename_i e1
        rw [List.forIn_cons, if_neg e1]
        show (forIn r cs _ : Sem _) = _
        exact ih cs hx
  unfold newFunctionEnv
  refine wpAny_bind (wpAny_alloc ?_)
  have k2 := key sc.names cl h1
  refine wpAny_bind ?_
  have e : (forIn sc.names cl fun (x : Str × NameKind) (__s : List (Str × Addr)) => match x with | (name, kind) => if (kind == NameKind.cell) = true then (do let __do_lift ← alloc { cls := .type "cell", data := .cell none }; pure (ForInStep.yield ((name, __do_lift) :: __s))) else pure (ForInStep.yield __s) : Sem _) = (do let a ← alloc { cls := .type "cell", data := .cell none }; pure ((y, a) :: cl)) := by
    refine Eq.trans (congrArg (fun f => (forIn sc.names cl f : Sem (List (Str × Addr)))) (funext fun x => funext fun r => ?_)) k2
    obtain ⟨n, k⟩ := x
    rfl
  refine (show ∀ {α : Type} {u v : Sem α} {Q' : α → Shared → Prop} {s' : Shared}, u = v → wpAny M A v Q' E s' → wpAny M A u Q' E s' from fun h q => h ▸ q) e (wpAny_bind (wpAny_alloc (wpAny_pure ?_)))
  have es : (s.heap.push { cls := .type "dict", data := .dict #[] }).objs.size = s.heap.objs.size + 1 := by simp [Heap.push]
  refine wpAny_bind (wpAny_pure (wpAny_pure ?_))
  show Q { scope := sc, locals := s.heap.objs.size, globals := globals, cells := (y, (s.heap.push { cls := .type "dict", data := .dict #[] }).objs.size) :: cl, qual := qual, func := none, code := env.code, frame := env.frame, builtins := env.builtins } { s with heap := (s.heap.push { cls := .type "dict", data := .dict #[] }).push { cls := .type "cell", data := .cell none } }
  rw [es]
  exact h
/-- what the relabelled table says a cell or a free name is -/
theorem relabel_back2 {env : Env} {x : Str} : ∀ {names : List (Str × NameKind)},
    ((names.map fun (n, k) => if (k == NameKind.free && env.scope.kind == .function && env.kindOf n == some .cell) then (n, NameKind.cell) else (n, k)).lookup x = some .cell ∨
    (names.map fun (n, k) => if (k == NameKind.free && env.scope.kind == .function && env.kindOf n == some .cell) then (n, NameKind.cell) else (n, k)).lookup x = some .free) → (x, NameKind.free) ∈ names ∨ (x, NameKind.cell) ∈ names
  | [], h => by rcases h with h | h <;> cases h
  | (n, k) :: r, h => by
    change (List.lookup x ((if (k == NameKind.free && env.scope.kind == .function && env.kindOf n == some .cell) = true then (n, NameKind.cell) else (n, k)) :: _) = _ ∨
      List.lookup x ((if (k == NameKind.free && env.scope.kind == .function && env.kindOf n == some .cell) = true then (n, NameKind.cell) else (n, k)) :: _) = _) at h
    by_cases hx : x = n
    · subst hx
      cases k with
      | free => exact .inl (by simp)
      | cell => exact .inr (by simp)
      | _ =>
        exfalso
        rw [if_neg (by simp)] at h
        simp [List.lookup] at h
    · have hb : (x == n) = false := by simpa using hx
      have ih := relabel_back2 (env := env) (x := x) (names := r)
      have e : ∀ k', List.lookup x ((n, k') :: r.map fun (n, k) => if (k == NameKind.free && env.scope.kind == .function && env.kindOf n == some .cell) = true then (n, NameKind.cell) else (n, k)) = List.lookup x (r.map fun (n, k) => if (k == NameKind.free && env.scope.kind == .function && env.kindOf n == some .cell) = true then (n, NameKind.cell) else (n, k)) := fun k' => by
        rw [List.lookup_cons, hb]
      rw [show (if (k == NameKind.free && env.scope.kind == .function && env.kindOf n == some .cell) = true then (n, NameKind.cell) else (n, k)) = (n, if (k == NameKind.free && env.scope.kind == .function && env.kindOf n == some .cell) = true then NameKind.cell else k) by split <;> rfl, e] at h
      rcases ih h with q | q
      · exact .inl (List.mem_cons_of_mem _ q)
      · exact .inr (List.mem_cons_of_mem _ q)
section
variable {X : Cx} {sc : Scope} {own : List Str} {fr : List Nat} {pins : List (Addr × Obj)} {σ : St} {H : Hp} {s : Shared} {y : Str}
theorem CompScopeC.cells (S : CompScopeC X sc fr y) (I : Inv X pins σ H s) : ∀ n ∈ freeNames sc, ∃ c, X.env.cells.lookup n = some c := fun n hn => I.ok.has n (S.frees.mem n hn)
theorem CompScopeC.look (S : CompScopeC X sc fr y) (I : Inv X pins σ H s) {x : Str} {c : Addr} (h : (closOf sc X.env).lookup x = some c) : X.env.cells.lookup x = some c := by
  obtain ⟨a, b⟩ := lookup_tab h
  obtain ⟨d, e⟩ := S.cells I x (List.mem_reverse.mp a)
  rw [e] at b
  rw [e, b]
  rfl
theorem CompScopeC.back (S : CompScopeC X sc fr y) (I : Inv X pins σ H s) {x : Str} (hx : x ∈ freeNames sc) : ∃ c, (closOf sc X.env).lookup x = some c ∧ X.env.cells.lookup x = some c := by
  obtain ⟨c, e⟩ := S.cells I x hx
  refine ⟨c, ?_, e⟩
  unfold closOf
  rw [tab_lookup (List.mem_reverse.mpr hx), e]
  rfl
theorem CompScopeC.oney (S : CompScopeC X sc fr y) {x : Str} (h : (x, NameKind.cell) ∈ sc.names) : x = y := by
  have : (x, NameKind.cell) ∈ sc.names.filter (fun x => x.2 == .cell) := List.mem_filter.2 ⟨h, rfl⟩
  rw [S.one] at this
  simp at this
  exact this
theorem look_y {cl : List (Str × Addr)} {x : Str} {c d : Addr} (h : ((y, d) :: cl).lookup x = some c) : (x = y ∧ c = d) ∨ cl.lookup x = some c := by
  rw [List.lookup_cons] at h
  split at h
  · rename_i e
    exact .inl ⟨by simpa using e, (Option.some.inj h).symm⟩
  · exact .inr h
/-- the block's first state -/
theorem inv_compC (S : CompScopeC X sc fr y) {fp : List Addr} (I : Inv X pins σ H s) (hf : ∀ b ∈ fp, FpOk X pins H b) (ho : ∀ b ∈ fp, ∃ o, s.heap.get? b = some o) {h₁ : Heap} {t : Nat}
    (hns : h₁.Ns s.heap.objs.size (fun _ => none)) (hcn : h₁.IsCell (s.heap.objs.size + 1) none) (hk : ∀ b o, s.heap.get? b = some o → h₁.get? b = some o) :
    Inv (compCxC X sc own fr s.heap.objs.size s H fp y) [] (compSt own.length fr σ) H { s with heap := h₁, toks := t } := by
  have ltC : ∀ b o, s.heap.get? b = some o → b ≠ s.heap.objs.size := fun b o e => Nat.ne_of_lt (Heap.lt_size e)
  have cellOld : ∀ x c, (closOf sc X.env).lookup x = some c → ∃ v, s.heap.IsCell c v := fun x c e => I.cell x c (S.look I e)
  refine ⟨⟨I.ok.mod, S.kind, I.ok.glob, I.ok.blt, Nat.le_refl _, fun x z c h1 h2 => ?inj, fun x hx => ?_, fun x c z hl => ?cab, I.ok.hd, I.ok.frames, .inl rfl, fun b hb => ?_, I.bs, Nat.le_trans I.ok.bsz I.sz, fun b o e hb => ?_, fun b hb => ?_, I.stack, I.stkFree⟩,
    rfl, I.bare, Un.kept hk, ⟨_, hns, fun i x v e1 e2 e3 => ?_⟩, fun x c e => ?_, I.hok.fresh (Nat.le_refl _), fun x c e => ?frc, fun p hp => absurd (show p ∈ ([] : List (Addr × Obj)) from hp) (by simp), I.hok.kept hk, ?_⟩
  case inj =>
    rcases look_y h1 with ⟨a1, b1⟩ | a1
    · rcases look_y h2 with ⟨a2, b2⟩ | a2
      · rw [a1, a2]
      · obtain ⟨v, o, ho', _⟩ := cellOld _ _ a2
        exact absurd (Heap.lt_size ho') (by rw [b1]; exact Nat.not_lt.2 (Nat.le_succ _))
    · rcases look_y h2 with ⟨a2, b2⟩ | a2
      · obtain ⟨v, o, ho', _⟩ := cellOld _ _ a1
        exact absurd (Heap.lt_size ho') (by rw [b2]; exact Nat.not_lt.2 (Nat.le_succ _))
      · exact I.ok.inj x z c (S.look I a1) (S.look I a2)
  case cab =>
    have z : x = y := of_decide_eq_true z
    subst z
    have hl : ((x, s.heap.objs.size + 1) :: closOf sc X.env).lookup x = some c := hl
    rw [List.lookup_cons, beq_self_eq_true] at hl
    rw [← Option.some.inj hl]
    exact Nat.le_succ _
  case frc =>
    rcases look_y e with ⟨_, b1⟩ | a1
    · rw [b1]; exact I.hok.fresh (Nat.le_succ _)
    · exact I.freeC x c (S.look I a1)
  · rcases relabel_back2 (env := X.env) hx with this | this
    · obtain ⟨c, e, _⟩ := S.back I (mem_freeNames this)
      by_cases q : x = y
      · exact ⟨s.heap.objs.size + 1, by show List.lookup x ((y, _) :: _) = _; rw [q, List.lookup_cons, beq_self_eq_true]⟩
      · exact ⟨c, by show List.lookup x ((y, _) :: _) = _; rw [List.lookup_cons, show (x == y) = false by simpa using q]; exact e⟩
    · have q := S.oney this
      exact ⟨s.heap.objs.size + 1, by show List.lookup x ((y, _) :: _) = _; rw [q, List.lookup_cons, beq_self_eq_true]⟩
  · obtain ⟨o, e⟩ := ho b hb
    obtain ⟨_, _, _, _, f4, _⟩ := hf b hb
    refine ⟨ltC b o e, fun x c e' => ?_⟩
    rcases look_y e' with ⟨_, b1⟩ | a1
    · exact fun z => absurd (Heap.lt_size e) (by rw [← z, b1]; exact Nat.not_lt.2 (Nat.le_succ _))
    · exact f4 x c (S.look I a1)
  · obtain ⟨_, _, _, f3, _⟩ := hf b hb
    rcases f3 with z | z
    · exact I.ok.noex b o e z
    · exact absurd (Nat.lt_of_lt_of_le (Heap.lt_size e) (Nat.le_trans I.ok.bsz z)) (Nat.lt_irrefl _)
  · obtain ⟨_, f1, f2, _⟩ := hf b hb
    intro z
    rcases List.mem_cons.mp (I.stkSub b z) with q | q
    · exact f1 q
    · exact f2 q
  · -- a name that is bound
    have hi : own.length ≤ i := by
      rcases Nat.lt_or_ge i own.length with z | z
      · exfalso
        change (List.replicate own.length none ++ fr.map fun k => (σ[k]?).join)[i]? = some (some v) at e2
        rw [List.getElem?_append_left (by simpa using z), List.getElem?_replicate, if_pos z] at e2
        cases e2
      · exact z
    change (List.replicate own.length none ++ fr.map fun k => (σ[k]?).join)[i]? = some (some v) at e2
    rw [List.getElem?_append_right (by simpa using hi), List.length_replicate, List.getElem?_map] at e2
    change (own ++ fr.map fun k => X.N.getD k Str.empty)[i]? = some x at e1
    rw [List.getElem?_append_right hi, List.getElem?_map] at e1
    cases e : fr[i - own.length]? with
    | none => rw [e] at e1; cases e1
    | some k =>
      rw [e] at e1 e2
      have e1 : X.N.getD k Str.empty = x := Option.some.inj e1
      have e2 : (σ[k]?).join = some v := Option.some.inj e2
      have e2' : σ[k]? = some (some v) := by
        cases q : σ[k]? with
        | none => rw [q] at e2; cases e2
        | some z => rw [q] at e2; cases z with
          | none => cases e2
          | some z => rw [show z = v from Option.some.inj e2]
      have hkl : k < X.N.length := by
        have := (List.getElem?_eq_some_iff.mp e2').1
        rw [I.len] at this
        exact this
      have e1' : X.N[k]? = some x := by
        rw [List.getElem?_eq_getElem hkl, ← e1]
        simp [List.getD, hkl]
      obtain ⟨q1, q2⟩ := S.fr.mem k (List.mem_of_getElem? e)
      rw [e1] at q1 q2
      have hvis : Vis X.env.scope x := by
        rcases q2 with z | z
        · exact .inr (.inl z)
        · exact .inr (.inr z)
      obtain ⟨m, hn, hl⟩ := I.loc
      obtain ⟨u, r, l⟩ := hl k x v e1' e2' hvis
      refine ⟨u, r, .inr ⟨?_, ?_⟩⟩
      · exact lookup_relabel_free (env := X.env) q1
      · rcases l with ⟨z, _⟩ | ⟨_, c, hc, z⟩
        · exfalso
          have z : X.env.scope.names.lookup x = some .local := z
          rcases q2 with y | y
          · rw [z] at y; cases y
          · rw [z] at y; cases y
        · obtain ⟨c', h1, h2⟩ := S.back I (mem_freeNames (PySem.mem_of_lookup q1))
          rw [hc] at h2
          cases h2
          obtain ⟨o, ho', hd⟩ := z
          have nxy : (x == y) = false := by
            rw [beq_eq_false_iff_ne]
            rintro rfl
            rw [S.yk] at q1; cases q1
          exact ⟨c, by show List.lookup x ((y, _) :: _) = _; rw [List.lookup_cons, nxy]; exact h1, o, hk c o ho', hd⟩
  · rcases look_y e with ⟨_, b1⟩ | a1
    · exact ⟨none, by rw [b1]; exact hcn⟩
    · obtain ⟨v, o, ho', hd⟩ := cellOld x c a1
      exact ⟨v, o, hk c o ho', hd⟩
  · show (List.replicate own.length none ++ fr.map fun k => (σ[k]?).join).length = (own ++ fr.map fun k => X.N.getD k Str.empty).length
    simp
end
section
variable {X : Cx} {sc : Scope} {own : List Str} {fr : List Nat} {e tg iter : Expr} {ifs : List Expr} {emit : Env → Addr → Sem Unit} {wi : TI} {g : TG} {tc : TT} {tm : TM} {acc : HO} {y : Str}

/-- the loop -/
theorem comp_loopC (F : CompForm e tg iter ifs emit) (hc : X.calm = true) {C : Addr} {s₀ : Shared} {H₀ : Hp} {fp : List Addr} {it D : Addr} {tn : Nat → Heap → Prop} {J : It} {R : Result → Shared → Prop} {s : Shared}
    (hg : PG (compCxC X sc own fr C s₀ H₀ fp y) tg g) (ht : PTs (compCxC X sc own fr C s₀ H₀ fp y) ifs tc) (hm : PM (compCxC X sc own fr C s₀ H₀ fp y) emit tm)
    (T : Turn X.prog X.w X.K tg J fp it tn) (hfp : ∀ b ∈ fp, b ≠ C ∧ b ∉ frs X.stack ∧ ∀ x c, ((y, C + 1) :: closOf sc X.env).lookup x = some c → c ≠ b)
    (W : Nat → Nat → St → Hp → Prop) {Q : Hp → Prop} (turn : ∀ i m σ' H', W i m σ' H' → (J.stop i H' ∧ Q H') ∨ (J.go i H' ∧ ∃ N : St → Hp → Prop, (∀ σ2 H2, N σ2 H2 → ∃ m', m' < m ∧ W (i + 1) m' σ2 H2) ∧ ∀ x H2, J.yld i H' x H2 → g x σ' H2 fun σ3 H3 => tc σ3 H3 fun b H4 =>
      if b = true then tm D σ3 H4 (N σ3) else N σ3 H4))
    (hR : ∀ σ' H' s', Inv (compCxC X sc own fr C s₀ H₀ fp y) [] σ' H' s' → Q H' → R (.ok .next) s')
    {m0 : Nat} {σ0 : St} {H0 : Hp} (I0 : Inv (compCxC X sc own fr C s₀ H₀ fp y) [] σ0 H0 s) (st0 : tn 0 s.heap) (fr0 : ∀ b ∈ fp, H0 b = none) (w0 : W 0 m0 σ0 H0) :
    codeAny (model X.prog X.w) X.A (.compLoop e 0 (.ref it) (.ref D) (compEnvY sc (closOf sc X.env) C X.env y)) R s := by
  have stat : ∀ {H' : Hp}, (∀ b ∈ fp, H' b = none) → ∀ b ∈ fp, FpOk (compCxC X sc own fr C s₀ H₀ fp y) [] H' b := fun hn b hb =>
    ⟨hn b hb, (hfp b hb).1, (hfp b hb).2.1, .inl hb, (hfp b hb).2.2, fun p hp => absurd (show p ∈ ([] : List (Addr × Obj)) from hp) (by simp)⟩
  refine codeAny_loop rfl (fun n s' => ∃ i σ' H', Inv (compCxC X sc own fr C s₀ H₀ fp y) [] σ' H' s' ∧ tn i s'.heap ∧ (∀ b ∈ fp, H' b = none) ∧ W i n σ' H') (fun n s hI => ?_) m0 ⟨0, σ0, H0, I0, st0, fr0, w0⟩
  rw [F.under, F.den]
  refine wpAny_noted ?_
  rw [F.turn]
  obtain ⟨i, σ3, H3, I3, st3, fr3, w3⟩ := hI
  have lift : ∀ {α : Type} {t : Sem α} {Q' : α → Shared → Prop} {E : Value → Shared → Prop} {s : Shared}, wpAny (model X.prog X.w) X.A t Q' (fun _ _ => False) s → wpAny (model X.prog X.w) X.A t Q' E s := fun h => wpAny_mono h (fun _ _ q => q) fun _ _ z => z.elim
  refine wpAny_bind (wpAny_standAt (wpAny_bind ?_))
  rcases turn i n σ3 H3 w3 with ⟨stop, qn⟩ | ⟨go, N, hN, step⟩
  · refine lift (thn (T.done (compCxC X sc own fr C s₀ H₀ fp y) rfl rfl rfl hc i [] s σ3 H3 (fun _ _ => False) I3 (stat fr3) st3 stop) fun r s4 ⟨hr, I4⟩ => ?_)
    subst hr
    exact wpAny_pure (hR σ3 H3 s4 I4 qn)
  · refine lift (thn (T.item (compCxC X sc own fr C s₀ H₀ fp y) rfl rfl rfl hc i [] s σ3 H3 (fun _ _ => False) I3 (stat fr3) st3 go) fun r s4 ⟨u, hr, h4⟩ => ?_)
    subst hr
    refine wpAny_bind (lift (thn h4 fun _ s5 ⟨x, H5, I5, r5, y5, st5, fr5⟩ => ?_))
    have I5' := I5.pinned (stat fr5) (T.obj _ _ st5)
    refine wpAny_bind (lift (thn (hg _ s5 σ3 H5 x u _ I5' r5 (step x H5 y5)) fun _ s6 ⟨σ6, H6, I6, q6⟩ => ?_))
    refine wpAny_bind (lift (thn (ht _ s6 σ6 H6 _ I6 q6) fun ok s7 ⟨H7, I7, q7⟩ => ?_))
    have again : ∀ {σ8 : St} {H8 : Hp} {s8 : Shared}, Inv (compCxC X sc own fr C s₀ H₀ fp y) ([] ++ pinsAt fp s5.heap) σ8 H8 s8 → (∃ m', m' < n ∧ W (i + 1) m' σ8 H8) → ∃ m, m < n ∧ ∃ i σ' H', Inv (compCxC X sc own fr C s₀ H₀ fp y) [] σ' H' s8 ∧ tn i s8.heap ∧ (∀ b ∈ fp, H' b = none) ∧ W i m σ' H' := fun {σ8 H8 s8} I8 ⟨m', hm', w8⟩ => by
      refine ⟨m', hm', i + 1, σ8, H8, I8.unpinned, T.keep _ _ _ st5 fun b hb o e => (I8.pin (b, o) (List.mem_append_right _ (List.mem_append_right _ (mem_pinsAt hb e)))).1, fun b hb => ?_, w8⟩
      obtain ⟨o, e, d⟩ := T.obj _ _ st5 b hb
      exact (I8.pin (b, o) (List.mem_append_right _ (List.mem_append_right _ (mem_pinsAt hb e)))).2.1
    cases ok with
    | false => exact wpAny_pure ⟨rfl, again I7 (hN _ _ q7)⟩
    | true =>
      refine wpAny_bind (lift (thn (hm _ s7 σ6 H7 D _ I7 q7) fun _ s8 ⟨H8, I8, q8⟩ => ?_))
      exact wpAny_pure ⟨rfl, again I8 (hN _ _ q8)⟩
end

section
variable {X : Cx} {sc : Scope} {own : List Str} {fr : List Nat} {e tg iter : Expr} {ifs : List Expr} {emit : Env → Addr → Sem Unit} {wi : TI} {g : TG} {tc : TT} {tm : TM} {acc : HO} {y : Str} {newAcc : Sem Value} {pos : Pos}

/-- a comprehension, whatever is done with its value -/
theorem comp_anyC (F : CompForm e tg iter ifs emit) (hc : X.calm = true) (S : CompScopeC X sc fr y) (hi : PI X tg iter wi) (hnew : PNew X newAcc acc)
    (hg : ∀ C s₀ H₀ fp, PG (compCxC X sc own fr C s₀ H₀ fp y) tg g) (ht : ∀ C s₀ H₀ fp, PTs (compCxC X sc own fr C s₀ H₀ fp y) ifs tc) (hm : ∀ C s₀ H₀ fp, PM (compCxC X sc own fr C s₀ H₀ fp y) emit tm)
    (hs : ∀ x, foldedSetIterable iter X.env x = pure x) {use : Option (Value → Sem Unit)} {pins : List (Addr × Obj)} {s : Shared} {σ : St} {H : Hp} {Q : Addr → Hp → Prop} {Q' : Value → Shared → Prop} (I : Inv X pins σ H s)
    (h : tCompB acc wi own.length fr g tc tm σ H Q)
    (hq : ∀ (p C : Addr) (H' : Hp) (s' : Shared) (m : Str → Option Value), Inv X pins σ H' s' → Q p H' → s'.heap.Ns C m → H' C = none → C ≠ X.env.locals → X.s₀.heap.objs.size ≤ C → (∀ x c, X.env.cells.lookup x = some c → c ≠ C) → (∀ q ∈ X.pn ++ pins, q.1 ≠ C) →
      compPost (model X.prog X.w) X.A X.xe use Q' (.ref p) C (.ok .next) s') :
    wpAny (model X.prog X.w) X.A (comprehension e sc X.env pos newAcc false (eval iter X.env) use) Q' X.xe s := by
  obtain ⟨gs, hcl⟩ := F.cl
  refine wpAny_comprehension_free hcl hs (closureFor_of (S.cells I)) S.kind S.names (thn (hi pins s σ H _ I h) fun v s1 h1 => thn h1 fun itv s2 h2 => ?_)
  obtain ⟨it, fp, tn, J, H2, e2, I2, T, st2, f2, q2⟩ := h2
  subst e2
  refine hnew pins s2 σ H2 _ _ I2 fun p s3 np hp k3 os3 I3 => ?_
  obtain ⟨W, ⟨m0, w0⟩, turn⟩ := q2 p np
  refine newEnv_one S.one ?_
  generalize hh₁ : (s3.heap.push { cls := .type "dict", data := .dict #[] }).push { cls := .type "cell", data := .cell none } = h₁
  have hk : ∀ b o, s3.heap.get? b = some o → h₁.get? b = some o := fun b o eb => by rw [← hh₁]; exact Heap.get?_push_of_some _ (Heap.get?_push_of_some _ eb)
  have hns : h₁.Ns s3.heap.objs.size (fun _ => none) := by
    obtain ⟨o, es, ep, q1, q2⟩ := Heap.Ns.new s3.heap (.type "dict")
    rw [← hh₁]
    exact ⟨o, es, ep, Heap.get?_push_of_some _ q1, q2⟩
  have hcn : h₁.IsCell (s3.heap.objs.size + 1) none := by
    rw [← hh₁]
    have es : (s3.heap.push { cls := .type "dict", data := .dict #[] }).objs.size = s3.heap.objs.size + 1 := by simp [Heap.push]
    exact ⟨_, by rw [← es]; exact Heap.get?_push_size _ rfl, rfl⟩
  have ob2 : ∀ b ∈ fp, ∃ o, s2.heap.get? b = some o := fun b hb => let ⟨o, eo, _⟩ := T.obj _ _ st2 b hb; ⟨o, eo⟩
  have fpn : ∀ b ∈ fp, b ≠ p := fun b hb z => by
    obtain ⟨o, eo⟩ := ob2 b hb
    rw [z, hp] at eo
    exact absurd (Heap.lt_size eo) (Nat.lt_irrefl _)
  have f3 : ∀ b ∈ fp, FpOk X pins (upd H2 p acc) b := fun b hb => by
    obtain ⟨a1, a2⟩ := f2 b hb
    exact ⟨by rw [upd_ne (fpn b hb)]; exact a1, a2⟩
  have ob3 : ∀ b ∈ fp, ∃ o, s3.heap.get? b = some o := fun b hb => let ⟨o, eo⟩ := ob2 b hb; ⟨o, k3 b o eo⟩
  have I4 := inv_compC (own := own) (t := s3.toks) S I3 f3 ob3 (h₁ := h₁) hns hcn hk
  have st4 : tn 0 h₁ := T.keep _ _ _ st2 fun b hb o eo => hk b o (k3 b o eo)
  have hfp : ∀ b ∈ fp, b ≠ s3.heap.objs.size ∧ b ∉ frs X.stack ∧ ∀ x c, ((y, s3.heap.objs.size + 1) :: closOf sc X.env).lookup x = some c → c ≠ b := fun b hb => by
    obtain ⟨_, f1, f2', _, f4, _⟩ := f3 b hb
    obtain ⟨o, eo⟩ := ob3 b hb
    refine ⟨Nat.ne_of_lt (Heap.lt_size eo), fun z => ?_, fun x c ec => ?lk⟩
    case lk =>
      rcases look_y ec with ⟨_, b1⟩ | a1
      · exact fun z => absurd (Heap.lt_size eo) (by rw [← z, b1]; exact Nat.not_lt.2 (Nat.le_succ _))
      · exact f4 x c (S.look I3 a1)
    rcases List.mem_cons.mp (I3.stkSub b z) with q | q
    · exact f1 q
    · exact f2' q
  have loop : codeAny (model X.prog X.w) X.A (.compLoop e 0 (.ref it) (.ref p) (compEnvY sc (closOf sc X.env) s3.heap.objs.size X.env y)) (compPost (model X.prog X.w) X.A X.xe use Q' (.ref p) s3.heap.objs.size) { s3 with heap := h₁, toks := s3.toks } := by
    refine comp_loopC (s₀ := s3) (H₀ := upd H2 p acc) (own := own) (fr := fr) (Q := fun H' => Q p H') F hc (hg _ _ _ _) (ht _ _ _ _) (hm _ _ _ _) T hfp W turn (fun σ' H' s' J' qq => ?_) I4 st4 (fun b hb => (f3 b hb).1) w0
    obtain ⟨m, hn, _⟩ := J'.loc
    have un : Un (frs X.stack) fp H2 H' s2.heap s'.heap := (Un.laid (o := acc) k3 (by rw [hp]; exact Nat.le_refl _) np).trans J'.base
    have IX : Inv X pins σ H' s' := I2.call' (ch := fp) (J'.os.trans os3) un J'.hok J'.bare fun b hb => by
      obtain ⟨_, f1, _, f3', f4, f5⟩ := f2 b hb
      exact ⟨f3', f1, f4, f5⟩
    refine hq p s3.heap.objs.size H' s' m IX qq hn J'.free (Ne.symm (Nat.ne_of_lt I3.lt)) I3.sz (fun x c ec => ?_) fun q hq' => ?_
    · obtain ⟨v, o, eo, _⟩ := I3.cell x c ec
      exact Nat.ne_of_lt (Heap.lt_size eo)
    · exact Nat.ne_of_lt (Heap.lt_size (I3.pin q hq').1)
  exact F.start _ _ _ _ _ _ _ _ loop (T.self _ _ _ _ _ st4 loop)

theorem comp_valueC (F : CompForm e tg iter ifs emit) (hc : X.calm = true) (S : CompScopeC X sc fr y) (hi : PI X tg iter wi) (hnew : PNew X newAcc acc)
    (hg : ∀ C s₀ H₀ fp, PG (compCxC X sc own fr C s₀ H₀ fp y) tg g) (ht : ∀ C s₀ H₀ fp, PTs (compCxC X sc own fr C s₀ H₀ fp y) ifs tc) (hm : ∀ C s₀ H₀ fp, PM (compCxC X sc own fr C s₀ H₀ fp y) emit tm)
    (hs : ∀ x, foldedSetIterable iter X.env x = pure x) {pins : List (Addr × Obj)} {s : Shared} {σ : St} {H : Hp} {Q : VK} (I : Inv X pins σ H s)
    (h : tCompB acc wi own.length fr g tc tm σ H fun p H' => Q (.ref p) H') :
    wpAny (model X.prog X.w) X.A (comprehension e sc X.env pos newAcc false (eval iter X.env) none) (EP X pins σ Q) X.xe s := by
  refine comp_anyC F hc S hi hnew hg ht hm hs I h fun p C H' s' m I' q hn h1 h2 h3 h4 h5 => ⟨m, hn, fun h' hb => ?_⟩
  exact ⟨.ref p, H', I'.turned (t' := s'.toks) (fun b o hne eo => hb.extBut b o hne eo) h1 h2 (.inr h3) h4 h5, rfl, q⟩
end
section
variable {X : Cx} {sc : Scope} {own : List Str} {fr : List Nat} {elt tg iter : Expr} {ifs : List Expr} {wi : TI} {g : TG} {tc : TT} {te : TE} {pos : Pos} {y : Str}
theorem pe_lcC (hc : X.calm = true) (S : CompScopeC X sc fr y) (hi : PI X tg iter wi)
    (hg : ∀ C s₀ H₀ fp, PG (compCxC X sc own fr C s₀ H₀ fp y) tg g) (ht : ∀ C s₀ H₀ fp, PTs (compCxC X sc own fr C s₀ H₀ fp y) ifs tc) (he : ∀ C s₀ H₀ fp, PE (compCxC X sc own fr C s₀ H₀ fp y) elt te)
    (hs : ∀ x, foldedSetIterable iter X.env x = pure x := by intro _; rfl) : PE X (.ListComp elt [⟨tg, iter, ifs, 0⟩] sc pos) (tLC wi own.length fr g tc te) := by
  intro pins s σ H Q I h
  rw [eval_ListComp]
  exact comp_valueC form_list hc S hi pnew_list hg ht (fun _ _ _ _ => pm_list (he _ _ _ _)) hs I h
end
end L2

end
section
set_option Elab.async false
set_option linter.all false
set_option maxRecDepth 100000
set_option maxHeartbeats 4000000
namespace L2
open PySem PySem.Spec PyProof.Rows PySem.W
/-! ### runs that are told as point 24 says -/
/-! ### strides -/
/-! ### an object of the class of striders -/
end L2

end
section
set_option Elab.async false
set_option linter.all false
set_option maxRecDepth 100000
set_option maxHeartbeats 4000000
namespace L2
open PySem PySem.Spec PyProof.Rows PySem.W
/-! ### keys: ints, and tuples of keys -/
inductive NK where
  | int (i : Int)
  | tup (l : List NK)
mutual
def NK.dep : NK → Nat
  | .int _ => 0
  | .tup l => 1 + NK.depL l
def NK.depL : List NK → Nat
  | [] => 0
  | k :: r => max k.dep (NK.depL r)
end
mutual
def NK.hash : NK → Int
  | .int i => hashInt i
  | .tup l => reduceHash (Builtin.Tuple.tupleHashOf (NK.hashL l))
def NK.hashL : List NK → List Int
  | [] => []
  | k :: r => k.hash :: NK.hashL r
end
mutual
def NK.dr : NK → Nat
  | .int _ => 1
  | .tup l => NK.drL l + 1
def NK.drL : List NK → Nat
  | [] => 0
  | k :: r => k.dr + NK.drL r
end
mutual
def IsN (h : Heap) : NK → Value → Prop
  | .int i, v => ∃ t, v = .int i t
  | .tup l, v => ∃ a its, v = .ref a ∧ IsTup h a (List.toArray its) ∧ IsNs h l its
def IsNs (h : Heap) : List NK → List Value → Prop
  | [], vs => vs = []
  | k :: r, vs => ∃ u us, vs = u :: us ∧ IsN h k u ∧ IsNs h r us
end
noncomputable instance : DecidableEq NK := fun a b => Classical.propDecidable (a = b)
theorem reduced_ok {M : Model} {A : Around} {E : Value → Shared → Prop} {s : Shared} {i : Int} {Q : Int → Shared → Prop} (h : Q (reduceHash i) s) : wpAny M A (pyHashByItsType.reduced i) Q E s := by
  unfold pyHashByItsType.reduced
  unfold reduceHash at h
  split
  · rename_i c
    rw [if_pos c] at h
    exact wpAny_pure h
  · rename_i c
    rw [if_neg c] at h
    exact wpAny_bind (wpAny_rule (wpAny_pure h))
section
variable {prog : Program} {w : World} {E : Value → Shared → Prop}
theorem pyHash_n : ∀ (n : Nat) (k : NK) (A : Around) (s : Shared) (v : Value) (Q : Int → Shared → Prop), k.dep ≤ n → A.units + n < cLine → IsN s.heap k v → Q k.hash { s with toks := s.toks + k.dr } → wpAny (model prog w) A (pyHash v) Q E s := by
  intro n
  induction n with
  | zero =>
    intro k A s v Q hd hu hi h
    cases k with
    | int i =>
      rw [IsN] at hi
      obtain ⟨t, rfl⟩ := hi
      rw [NK.hash, NK.dr] at h
      exact wpAny_pyHash_int h
    | tup l => rw [NK.dep] at hd; omega
  | succ n ih =>
    intro k A s v Q hd hu hi h
    cases k with
    | int i =>
      rw [IsN] at hi
      obtain ⟨t, rfl⟩ := hi
      rw [NK.hash, NK.dr] at h
      exact wpAny_pyHash_int h
    | tup l =>
      rw [NK.dep] at hd
      rw [NK.hash, NK.dr] at h
      rw [IsN] at hi
      obtain ⟨a, its, rfl, ht, hi⟩ := hi
      have loop : ∀ (l : List NK) (vs : List Value) (b : Array Int) (s : Shared) (Q' : Array Int → Shared → Prop), NK.depL l ≤ n → IsNs s.heap l vs → (∀ b' : Array Int, b'.toList = b.toList ++ NK.hashL l → Q' b' { s with toks := s.toks + NK.drL l }) →
          wpAny (model prog w) A.in1 (forIn vs b fun x (r : Array Int) => do let h ← pyHash x; pure (ForInStep.yield (r.push h))) Q' E s := by
        intro l
        induction l with
        | nil =>
          intro vs b s Q' _ hv hq
          rw [IsNs] at hv
          subst hv
          exact wpAny_pure (hq b (by rw [NK.hashL, List.append_nil]))
        | cons k r ihl =>
          intro vs b s Q' hd hv hq
          rw [NK.depL] at hd
          rw [IsNs] at hv
          obtain ⟨u, us, rfl, hu', hr⟩ := hv
          rw [List.forIn_cons]
          refine wpAny_bind (wpAny_bind (ih k A.in1 s u _ (by omega) (by show A.units + 1 + n < _; omega) hu' (wpAny_pure ?_)))
          refine ihl us _ _ _ (by omega) hr fun b' hb' => ?_
          have := hq b' (by rw [hb', NK.hashL]; simp)
          rw [NK.drL, ← Nat.add_assoc] at this
          exact this
      show wpAny _ _ (pyHashByItsType (.ref a)) Q E s
      unfold pyHashByItsType
      have hT := ht.typeIs
      refine wpAny_bind (wpAny_cRoomFor_or (.inr (by omega)) (wpAny_bind (wpAny_specialOf hT F.slot_tuple_hash.lookup ?_)))
      rw [if_neg (by rw [beq_builtin_none]; exact Bool.false_ne_true)]
      refine wpAny_bind (wpAny_specialOf hT F.slot_tuple_hash.lookup ?_)
      refine wpAny_bind (wpAny_callSpecialIfBoundUnlessNone?_slot hT F.slot_tuple_hash (wpAny_call_entry F.slot_tuple_hash hT F.entry_tuple_hash ?_ (F.args_tuple_hash_1 _)))
      show wpAny _ _ (Builtin.Tuple.tupleItemsOf (.ref a) >>= _) _ _ s
      refine wpAny_bind (tupleItemsOf_ ht (wpAny_bind ?_))
      rw [← Array.forIn_toList]
      refine loop l its #[] s _ (by omega) hi fun b' hb' => ?_
      have hb' : b'.toList = NK.hashL l := by rw [hb']; rfl
      show wpAny _ _ (retInt (Builtin.Tuple.tupleHashOf b'.toList)) _ _ _
      rw [hb']
      refine wpAny_bind (wpAny_mkInt (wpAny_pure ⟨_, rfl, ?_⟩))
      exact reduced_ok h
theorem IsTup.inj' {h : Heap} {a : Addr} {x y : List Value} (h1 : IsTup h a x.toArray) (h2 : IsTup h a y.toArray) : x = y := by
  obtain ⟨o, e1, _, n, d1⟩ := h1
  obtain ⟨o', e2, _, n', d2⟩ := h2
  rw [e1] at e2
  cases e2
  rw [d1] at d2
  injection d2 with d2 _
  have := congrArg Array.toList d2
  simpa using this
theorem isN_inj {h : Heap} : ∀ (n : Nat) (x y : NK) (v : Value), x.dep ≤ n → IsN h x v → IsN h y v → x = y := by
  intro n
  induction n with
  | zero =>
    intro x y v hd hx hy
    cases x with
    | int i =>
      rw [IsN] at hx
      obtain ⟨t, rfl⟩ := hx
      cases y with
      | int j => rw [IsN] at hy; obtain ⟨t', e⟩ := hy; cases e; rfl
      | tup l => rw [IsN] at hy; obtain ⟨a, its, e, _⟩ := hy; cases e
    | tup l => rw [NK.dep] at hd; omega
  | succ n ih =>
    intro x y v hd hx hy
    cases x with
    | int i =>
      rw [IsN] at hx
      obtain ⟨t, rfl⟩ := hx
      cases y with
      | int j => rw [IsN] at hy; obtain ⟨t', e⟩ := hy; cases e; rfl
      | tup l => rw [IsN] at hy; obtain ⟨a, its, e, _⟩ := hy; cases e
    | tup l =>
      rw [NK.dep] at hd
      rw [IsN] at hx
      obtain ⟨a, its, rfl, ht, hi⟩ := hx
      cases y with
      | int j => rw [IsN] at hy; obtain ⟨t', e⟩ := hy; cases e
      | tup l' =>
        rw [IsN] at hy
        obtain ⟨a', its', e, ht', hi'⟩ := hy
        cases e
        have e := IsTup.inj' ht ht'
        subst e
        have key : ∀ (l l' : List NK) (vs : List Value), NK.depL l ≤ n → IsNs h l vs → IsNs h l' vs → l = l' := by
          intro l
          induction l with
          | nil =>
            intro l' vs _ h1 h2
            rw [IsNs] at h1
            subst h1
            cases l' with
            | nil => rfl
            | cons k r => rw [IsNs] at h2; obtain ⟨u, us, e, _⟩ := h2; cases e
          | cons k r ihl =>
            intro l' vs hd h1 h2
            rw [NK.depL] at hd
            rw [IsNs] at h1
            obtain ⟨u, us, rfl, hu, hr⟩ := h1
            cases l' with
            | nil => rw [IsNs] at h2; cases h2
            | cons k' r' =>
              rw [IsNs] at h2
              obtain ⟨u', us', e, hu', hr'⟩ := h2
              cases e
              rw [ih k k' u (by omega) hu hu', ihl r' us (by omega) hr hr']
        rw [key l l' its (by omega) hi hi']
/-- where every tuple is kept -/
theorem isN_keep {h h' : Heap} (kp : ∀ (a : Addr) (its : List Value), IsTup h a its.toArray → IsTup h' a its.toArray) : ∀ (n : Nat) (x : NK) (v : Value), x.dep ≤ n → IsN h x v → IsN h' x v := by
  intro n
  induction n with
  | zero =>
    intro x v hd hx
    cases x with
    | int i => rw [IsN] at hx ⊢; exact hx
    | tup l => rw [NK.dep] at hd; omega
  | succ n ih =>
    intro x v hd hx
    cases x with
    | int i => rw [IsN] at hx ⊢; exact hx
    | tup l =>
      rw [NK.dep] at hd
      rw [IsN] at hx ⊢
      obtain ⟨a, its, rfl, ht, hi⟩ := hx
      refine ⟨a, its, rfl, kp _ _ ht, ?_⟩
      have key : ∀ (l : List NK) (vs : List Value), NK.depL l ≤ n → IsNs h l vs → IsNs h' l vs := by
        intro l
        induction l with
        | nil => intro vs _ h1; rw [IsNs] at h1 ⊢; exact h1
        | cons k r ihl =>
          intro vs hd h1
          rw [NK.depL] at hd
          rw [IsNs] at h1 ⊢
          obtain ⟨u, us, rfl, hu, hr⟩ := h1
          exact ⟨u, us, rfl, ih k u (by omega) hu, ihl us (by omega) hr⟩
      exact key l its (by omega) hi
theorem isNs_len {h : Heap} : ∀ {l : List NK} {vs : List Value}, IsNs h l vs → vs.length = l.length
  | [], vs, h1 => by rw [IsNs] at h1; subst h1; rfl
  | k :: r, vs, h1 => by
    rw [IsNs] at h1
    obtain ⟨u, us, rfl, _, hr⟩ := h1
    rw [List.length_cons, List.length_cons, isNs_len hr]
theorem isNs_at {h : Heap} : ∀ {l : List NK} {vs : List Value} {j : Nat} (hj : j < vs.length), IsNs h l vs → ∃ k, l[j]? = some k ∧ IsN h k vs[j]
  | [], vs, j, hj, h1 => by rw [IsNs] at h1; subst h1; cases hj
  | k :: r, vs, j, hj, h1 => by
    rw [IsNs] at h1
    obtain ⟨u, us, rfl, hu, hr⟩ := h1
    cases j with
    | zero => exact ⟨k, rfl, hu⟩
    | succ j => exact isNs_at (l := r) (vs := us) (j := j) (by simpa using hj) hr
theorem depL_at {n : Nat} : ∀ {l : List NK} {j : Nat} {k : NK}, NK.depL l ≤ n → l[j]? = some k → k.dep ≤ n
  | [], j, k, _, h => by cases h
  | k' :: r, 0, k, hd, h => by cases h; rw [NK.depL] at hd; omega
  | k' :: r, j + 1, k, hd, h => by rw [NK.depL] at hd; exact depL_at (l := r) (j := j) (by omega) h
theorem dec_intN (i j : Int) : decide (NK.int i = NK.int j) = (i == j) := by
  by_cases e : i = j
  · subst e; simp
  · rw [decide_eq_false (fun q => e (by injection q)), show (i == j) = false by simpa using e]
theorem dec_tup (l l' : List NK) : decide (NK.tup l = NK.tup l') = decide (l = l') := by
  by_cases e : l = l'
  · subst e; simp
  · rw [decide_eq_false e, decide_eq_false (fun q => e (by injection q))]
theorem list_all_eq {l l' : List NK} : ((List.range (min l.length l'.length)).all (fun j => decide (l.getD j (.int 0) = l'.getD j (.int 0))) && l.length == l'.length) = decide (l = l') := by
  by_cases h : l = l'
  · subst h
    simp
  · rw [decide_eq_false h]
    by_cases hl : l.length = l'.length
    · have : ¬ (List.range (min l.length l'.length)).all (fun j => decide (l.getD j (.int 0) = l'.getD j (.int 0))) = true := fun q => h (List.ext_getElem hl fun j h1 h2 => by
        have := List.all_eq_true.1 q j (List.mem_range.2 (by omega))
        have := of_decide_eq_true this
        simpa [List.getD, h1, h2] using this)
      cases e : (List.range (min l.length l'.length)).all (fun j => decide (l.getD j (.int 0) = l'.getD j (.int 0))) with
      | true => exact (this e).elim
      | false => rfl
    · have : (l.length == l'.length) = false := by simpa using hl
      rw [this, Bool.and_false]
theorem eq_n {s : Shared} : ∀ (n : Nat) (x y : NK) (A : Around) (u v : Value), x.dep ≤ n → A.units + n < cLine → IsN s.heap x u → IsN s.heap y v → SeqAt.EqAt A s u v (decide (x = y)) := by
  have intsN : ∀ (i : Int) (y : NK) (A : Around) (u v : Value), A.units < cLine → IsN s.heap (.int i) u → IsN s.heap y v → SeqAt.EqAt A s u v (decide (NK.int i = y)) := by
    intro i y A u v hu hx hy
    rw [IsN] at hx
    obtain ⟨t, rfl⟩ := hx
    cases y with
    | int j =>
      rw [IsN] at hy
      obtain ⟨t', rfl⟩ := hy
      have := SeqAt.EqAt.int_int (A := A) (s := s) i t j t'
      rw [dec_intN]
      exact this
    | tup l =>
      rw [IsN] at hy
      obtain ⟨a, its, rfl, ht, _⟩ := hy
      rw [decide_eq_false (fun q => by cases q)]
      exact SeqAt.EqAt.int_tuple i t ht hu
  intro n
  induction n with
  | zero =>
    intro x y A u v hd hu hx hy
    cases x with
    | int i => exact intsN i y A u v (by omega) hx hy
    | tup l => rw [NK.dep] at hd; omega
  | succ n ih =>
    intro x y A u v hd hu hx hy
    cases x with
    | int i => exact intsN i y A u v (by omega) hx hy
    | tup l =>
      have hxx := hx
      have hdd := hd
      rw [NK.dep] at hd
      rw [IsN] at hx
      obtain ⟨a, its, rfl, ht, hi⟩ := hx
      cases y with
      | int j =>
        rw [IsN] at hy
        obtain ⟨t', rfl⟩ := hy
        rw [decide_eq_false (fun q => by cases q)]
        exact SeqAt.EqAt.tuple_int j t' ht (by omega)
      | tup l' =>
        have hyy := hy
        rw [IsN] at hy
        obtain ⟨b, its', rfl, ht', hi'⟩ := hy
        by_cases hab : a = b
        · subst hab
          rw [isN_inj (n + 1) _ _ _ hdd hxx hyy, decide_eq_true rfl]
          exact SeqAt.EqAt.same _
        · have l1 := isNs_len hi
          have l2 := isNs_len hi'
          have main := SeqAt.RcAt.tuples (e := fun j => decide (l.getD j (.int 0) = l'.getD j (.int 0))) ht ht' (show A.units < cLine by omega) fun j g1 g2 => by
            obtain ⟨k, hk, hkn⟩ := isNs_at (j := j) (by simpa using g1) hi
            obtain ⟨k', hk', hkn'⟩ := isNs_at (j := j) (by simpa using g2) hi'
            rw [List.getD_eq_getElem?_getD, List.getD_eq_getElem?_getD, hk, hk']
            exact ih k k' A.in1 _ _ (depL_at (by omega) hk) (by show A.units + 1 + n < _; omega) (by simpa using hkn) (by simpa using hkn')
          rw [List.size_toArray, List.size_toArray, l1, l2, list_all_eq] at main
          rw [dec_tup]
          exact SeqAt.EqAt.of_refs hab main
theorem quiet_n {s : Shared} : ∀ (n : Nat) (x : NK) (A : Around) (v : Value) (Q : Bool → Shared → Prop), x.dep ≤ n → IsN s.heap x v → Q true s → wpAny (model prog w) A (eqIsQuiet n v) Q E s := by
  have intsN : ∀ (n : Nat) (i : Int) (A : Around) (v : Value) (Q : Bool → Shared → Prop), IsN s.heap (.int i) v → Q true s → wpAny (model prog w) A (eqIsQuiet n v) Q E s := by
    intro n i A v Q hx h
    rw [IsN] at hx
    obtain ⟨t, rfl⟩ := hx
    rw [eqIsQuiet.eq_3 n _ (fun a q => by cases q)]
    exact wpAny_pure h
  intro n
  induction n with
  | zero =>
    intro x A v Q hd hx h
    cases x with
    | int i => exact intsN 0 i A v Q hx h
    | tup l => rw [NK.dep] at hd; omega
  | succ n ih =>
    intro x A v Q hd hx h
    cases x with
    | int i => exact intsN (n + 1) i A v Q hx h
    | tup l =>
      rw [NK.dep] at hd
      rw [IsN] at hx
      obtain ⟨a, its, rfl, ht, hi⟩ := hx
      have hT := ht.typeIs
      rw [eqIsQuiet.eq_2]
      refine wpAny_bind (wpAny_specialOf hT F.slot_tuple_eq.lookup ?_)
      refine wpAny_bind (wpAny_isInstance hT isSubtype_tuple_tuple ?_)
      rw [if_neg (by simp)]
      have loop : ∀ (l : List NK) (vs : List Value) (Q' : Option Bool × Unit → Shared → Prop), NK.depL l ≤ n → IsNs s.heap l vs → Q' (none, ()) s →
          wpAny (model prog w) A (forIn vs ((none, ()) : Option Bool × Unit) fun y _ => do let q ← eqIsQuiet n y; if (!q) = true then pure (ForInStep.done (some false, ())) else pure (ForInStep.yield (none, ()))) Q' E s := by
        intro l
        induction l with
        | nil =>
          intro vs Q' _ hv hq
          rw [IsNs] at hv
          subst hv
          exact wpAny_pure hq
        | cons k r ihl =>
          intro vs Q' hd hv hq
          rw [NK.depL] at hd
          rw [IsNs] at hv
          obtain ⟨u, us, rfl, hu', hr⟩ := hv
          rw [List.forIn_cons]
          refine wpAny_bind (wpAny_bind (ih k A u _ (by omega) hu' ?_))
          rw [if_neg (by simp)]
          exact wpAny_pure (ihl us Q' (by omega) hr hq)
      obtain ⟨o, ho, hc, m', hdt⟩ := id ht
      refine wpAny_bind (wpAny_seqItems ho hdt (wpAny_bind ?_))
      show wpAny _ _ (forIn its.toArray _ _) _ _ _
      rw [← Array.forIn_toList]
      exact loop l its _ (by omega) hi (wpAny_pure h)
/-- the kind of these keys, as the library's dicts want it -/
noncomputable def nKind (prog : Program) (w : World) : HeapKind prog w NK where
  is := fun h k a => k.dep ≤ 7 ∧ IsN h k (.ref a)
  hash := NK.hash
  draws := NK.dr
  room := fun A => A.units + 8 < cLine
  inj := fun hx hy => isN_inj 7 _ _ _ hx.1 hx.2 hy.2
  keeps := fun {h h' k a d o es ep} hx ho hd hs => ⟨hx.1, isN_keep (fun b its ⟨o', e, c, n, q⟩ => ⟨o', by
    rw [hs.2 b (by rintro rfl; rw [ho] at e; cases e; rw [hd] at q; cases q)]; exact e, c, n, q⟩) 7 _ _ hx.1 hx.2⟩
  pyHash := fun {A E s k a Q} hr hx h => pyHash_n 7 k A s _ Q hx.1 (by omega) hx.2 h
  eqBool := fun {A E s x y a b Q} hr hx hy h => eq_n 7 x y A _ _ hx.1 (by omega) hx.2 hy.2 prog w E Q h
  quiet := fun {A E s k a Q} hx h => quiet_n 8 k A _ Q (Nat.le_trans hx.1 (by decide)) hx.2 h
end
/-! ### such keys, and dicts of them, as the readings see them -/
mutual
def DenN (H : Hp) : NK → V → Prop
  | .int i, v => v = .int i
  | .tup l, v => ∃ a xs, v = .ref a ∧ H a = some (.tup xs) ∧ DenNs H l xs
def DenNs (H : Hp) : List NK → List V → Prop
  | [], vs => vs = []
  | k :: r, vs => ∃ u us, vs = u :: us ∧ DenN H k u ∧ DenNs H r us
end
theorem DenN.mono {H H' : Hp} (kp : ∀ a xs, H a = some (.tup xs) → H' a = some (.tup xs)) : ∀ (n : Nat) (x : NK) (v : V), x.dep ≤ n → DenN H x v → DenN H' x v := by
  intro n
  induction n with
  | zero =>
    intro x v hd hx
    cases x with
    | int i => rw [DenN] at hx ⊢; exact hx
    | tup l => rw [NK.dep] at hd; omega
  | succ n ih =>
    intro x v hd hx
    cases x with
    | int i => rw [DenN] at hx ⊢; exact hx
    | tup l =>
      rw [NK.dep] at hd
      rw [DenN] at hx ⊢
      obtain ⟨a, its, rfl, ht, hi⟩ := hx
      refine ⟨a, its, rfl, kp _ _ ht, ?_⟩
      have key : ∀ (l : List NK) (vs : List V), NK.depL l ≤ n → DenNs H l vs → DenNs H' l vs := by
        intro l
        induction l with
        | nil => intro vs _ h1; rw [DenNs] at h1 ⊢; exact h1
        | cons k r ihl =>
          intro vs hd h1
          rw [NK.depL] at hd
          rw [DenNs] at h1 ⊢
          obtain ⟨u, us, rfl, hu, hr⟩ := h1
          exact ⟨u, us, rfl, ih k u (by omega) hu, ihl us (by omega) hr⟩
      exact key l its (by omega) hi
theorem isN_of {X : Cx} {pins : List (Addr × Obj)} {σ : St} {H : Hp} {s : Shared} (I : Inv X pins σ H s) : ∀ (n : Nat) (x : NK) (v : V) (u : Value), x.dep ≤ n → DenN H x v → RelV v u → IsN s.heap x u := by
  intro n
  induction n with
  | zero =>
    intro x v u hd hx ru
    cases x with
    | int i => rw [DenN] at hx; subst hx; rw [IsN]; exact ru
    | tup l => rw [NK.dep] at hd; omega
  | succ n ih =>
    intro x v u hd hx ru
    cases x with
    | int i => rw [DenN] at hx; subst hx; rw [IsN]; exact ru
    | tup l =>
      rw [NK.dep] at hd
      rw [DenN] at hx
      rw [IsN]
      obtain ⟨a, xs, rfl, ht, hi⟩ := hx
      cases ru
      obtain ⟨its, r, p, _⟩ := I.tuple (SqT.of ht)
      refine ⟨a, its, rfl, p, ?_⟩
      have key : ∀ (l : List NK) (vs : List V) (us : List Value), NK.depL l ≤ n → DenNs H l vs → Vals vs us → IsNs s.heap l us := by
        intro l
        induction l with
        | nil => intro vs us _ h1 r; rw [DenNs] at h1; subst h1; rw [IsNs]; cases r; rfl
        | cons k q ihl =>
          intro vs us hd h1 r
          rw [NK.depL] at hd
          rw [DenNs] at h1
          rw [IsNs]
          obtain ⟨u, ws, rfl, hu, hr⟩ := h1
          cases r with
          | @cons _ b _ bs h t => exact ⟨b, bs, rfl, ih k u b (by omega) hu h, ihl ws bs (by omega) hr t⟩
      exact key l xs its (by omega) hi r
def PhiN (d : Addr) (xs : List (NK × Addr × Value)) : Heap → Prop := fun h => ∃ o es ep, h.get? d = some o ∧ o.ExactDict ∧ o.data = .dict es ep ∧ es.toList = xs.map fun x => ({ hash := x.1.hash, key := .ref x.2.1, val := x.2.2 } : DictEntry)
theorem phi_ok {P : Program} {w : World} {H : Hp} {h : Heap} {d : Addr} {xs : List (NK × Addr × Value)} (p : PhiN d xs h) : ObjOk P w H h d (.ext (PhiN d xs)) := by
  refine ⟨p, ?_, fun h1 h2 q k => ?_⟩
  · obtain ⟨o, _, _, e, _⟩ := p; exact ⟨o, e⟩
  · obtain ⟨o, es, ep, e, r⟩ := q; exact ⟨o, es, ep, k o e, r⟩
structure DNx (H : Hp) (d : Addr) (kvs : List (NK × Addr × V)) : Prop where
  ex : ∃ xs, H d = some (.ext (PhiN d xs)) ∧ xs.map (fun x => (x.1, x.2.1)) = kvs.map (fun q => (q.1, q.2.1)) ∧ Vals (kvs.map (·.2.2)) (xs.map (·.2.2))
  ks : ∀ q ∈ kvs, q.1.dep ≤ 7 ∧ DenN H q.1 (.ref q.2.1)
  nd : (kvs.map (·.1)).Nodup
  sz : kvs.length ≤ sizeLine
  sm : (d == sysModules) = false
theorem dn_of {X : Cx} {pins : List (Addr × Obj)} {σ : St} {H : Hp} {s : Shared} {d : Addr} {kvs : List (NK × Addr × V)} (I : Inv X pins σ H s) (D : DNx H d kvs) :
    ∃ xs, H d = some (.ext (PhiN d xs)) ∧ xs.map (fun x => (x.1, x.2.1)) = kvs.map (fun q => (q.1, q.2.1)) ∧ Vals (kvs.map (·.2.2)) (xs.map (·.2.2)) ∧ s.heap.DictOfH (nKind X.prog X.w) d xs := by
  obtain ⟨xs, e, hk, hv⟩ := D.ex
  refine ⟨xs, e, hk, hv, ?_⟩
  obtain ⟨⟨o, es, ep, h1, h2, h3, h4⟩, _, _⟩ := (show ObjOk X.prog X.w H s.heap d (.ext (PhiN d xs)) from I.hok d _ e)
  refine ⟨o, es, ep, h1, h2, h3, h4, fun x hx => ?_, ?_⟩
  · have : (x.1, x.2.1) ∈ kvs.map (fun q => (q.1, q.2.1)) := by rw [← hk]; exact List.mem_map.2 ⟨x, hx, rfl⟩
    obtain ⟨q, hq, e'⟩ := List.mem_map.1 this
    obtain ⟨k1, k2⟩ := D.ks q hq
    injection e' with e1 e2
    rw [e1] at k1 k2
    rw [e2] at k2
    exact ⟨k1, isN_of I 7 x.1 _ _ k1 k2 rfl⟩
  · have := congrArg (List.map (fun z : NK × Addr => z.1)) hk
    rw [List.map_map, List.map_map] at this
    have n := D.nd
    rw [show kvs.map (·.1) = kvs.map ((fun z : NK × Addr => z.1) ∘ fun q => (q.1, q.2.1)) from rfl, ← this] at n
    exact n
section
variable {X : Cx} {pos : Pos}
def tDNewN : TE := fun _ H Q => ∀ p H', H p = none → H' = upd H p (.ext (PhiN p [])) → DNx H' p [] → Q (.ref p) H'
theorem pe_dnewN : PE X (.Dict [] [] pos) tDNewN := fun pins s σ H Q I h =>
  wpAny_Dict_empty ⟨.ref s.heap.objs.size, _, I.laid (a := s.heap.objs.size) (o := .ext (PhiN s.heap.objs.size [])) (t' := s.toks) (fun _ _ q => Heap.get?_push_of_some _ q) (Nat.le_refl _) (phi_ok ⟨_, #[], 0, Heap.get?_push_size _ rfl, ⟨rfl, rfl, rfl⟩, rfl, rfl⟩), rfl,
    h _ _ (I.hok.fresh (Nat.le_refl _)) rfl ⟨⟨[], upd_same, rfl, .nil⟩, (fun q hq => by cases hq), List.nodup_nil, Nat.zero_le _, beq_eq_false_iff_ne.mpr (Ne.symm (Nat.ne_of_lt I.big))⟩⟩
theorem atKey_some {xs : List (NK × Addr × Value)} {k : NK} : (atKey xs k).isSome = decide (k ∈ xs.map (·.1)) := by
  unfold atKey
  rw [Option.isSome_map]
  by_cases h : k ∈ xs.map (·.1)
  · rw [decide_eq_true h]
    obtain ⟨x, hx, rfl⟩ := List.mem_map.1 h
    exact List.find?_isSome.2 ⟨x, hx, decide_eq_true rfl⟩
  · rw [decide_eq_false h]
    cases e : xs.find? (fun x => decide (x.1 = k)) with
    | none => rfl
    | some x =>
      have e2 := List.find?_some e
      exact (h (List.mem_map.2 ⟨x, List.mem_of_find?_eq_some e, of_decide_eq_true e2⟩)).elim
def rInN : R2 := fun x y H Q => ∃ b d k kvs, x = .ref b ∧ y = .ref d ∧ k.dep ≤ 7 ∧ DenN H k (.ref b) ∧ DNx H d kvs ∧ Q (.bl (decide (k ∈ kvs.map (·.1)))) H
theorem op_inN {r : Nat} (hr : Room r X.A) : OpR X (compareOp .In) rInN := by
  intro pins s σ H x y v u Q I rx ry h
  obtain ⟨b, d, k, kvs, rfl, rfl, hk, hb, D, q⟩ := h
  cases rx
  cases ry
  obtain ⟨xs, e, hks, hv, dd⟩ := dn_of I D
  refine wpAny_in_heap (knd := nKind X.prog X.w) (by show X.A.units + 1 + 8 < cLine; have := hr.units; omega) ⟨hk, isN_of I 7 k _ _ hk hb rfl⟩ D.sm dd ?_
  have hkk : xs.map (·.1) = kvs.map (·.1) := by
    have := congrArg (List.map (fun z : NK × Addr => z.1)) hks
    rw [List.map_map, List.map_map] at this
    exact this
  rw [atKey_some, hkk]
  exact ⟨.bl _, H, I.tok _, rfl, q⟩
theorem keys_eq {xs : List (NK × Addr × Value)} {kvs : List (NK × Addr × V)} (h : xs.map (fun x => (x.1, x.2.1)) = kvs.map (fun q => (q.1, q.2.1))) : xs.map (·.1) = kvs.map (·.1) := by
  have := congrArg (List.map (fun z : NK × Addr => z.1)) h
  rw [List.map_map, List.map_map] at this
  exact this
/-- d[k] = v, a key that isn't there yet -/
def sPutN (td ty tv : TE) : TS := fun D σ H => tv σ H fun v H1 => td σ H1 fun x H2 => ty σ H2 fun y H3 => ∃ d b k kvs, x = .ref d ∧ y = .ref b ∧ k.dep ≤ 7 ∧ DenN H3 k (.ref b) ∧ DNx H3 d kvs ∧ k ∉ kvs.map (·.1) ∧ kvs.length < sizeLine ∧
  ∀ H4 : Hp, (∀ c u, H3 c = some u → c ≠ d → H4 c = some u) → (∀ c, H3 c = none → H4 c = none) → DNx H4 d (kvs ++ [(k, b, v)]) → D.nx σ H4
theorem ps_dputN {r : Nat} {o i value : Expr} {td ty tv : TE} {pos' : Pos} (hr : Room r X.A) (ho : PE X o td) (hi : PE X i ty) (hv : PE X value tv) (hs : swapsWith value (some (.Subscript o i pos')) pos.line X.env = pure false) :
    PS X (.Assign [.Subscript o i pos'] value pos) (sPutN td ty tv) := by
  intro pins s σ H D I h
  refine wpAny_Assign_Subscript (thn (hv pins s σ H _ I h) fun rr s1 ⟨v, H1, I1, rv, q1⟩ => thn (ho pins s1 σ H1 _ I1 q1) fun u s2 ⟨x, H2, I2, rx, q2⟩ => thn (hi pins s2 σ H2 _ I2 q2) fun iv s3 ⟨y, H3, I3, ry, d, b, k, kvs, ex, ey, hk, hb, DD, hn, hl, q3⟩ => ?_) hs
  subst ex
  subst ey
  obtain rfl : u = Value.ref d := rx
  obtain rfl : iv = Value.ref b := ry
  obtain ⟨xs, e, hks, hvv, dd⟩ := dn_of I3 DD
  have hxl : xs.length = kvs.length := by have := congrArg List.length hks; simpa using this
  have hna : (atKey xs k).isSome = false := by rw [atKey_some, keys_eq hks]; exact decide_eq_false hn
  refine wpAny_setItem_heap (knd := nKind X.prog X.w) (by show X.A.units + 1 + 8 < cLine; have := hr.units; omega) ⟨hk, isN_of I3 7 k _ _ hk hb rfl⟩ dd (fun h' dd' hsb => ?_) (by omega)
  rw [show storedH xs k b rr = xs ++ [(k, b, rr)] by unfold storedH; rw [hna, if_neg Bool.false_ne_true]] at dd'
  obtain ⟨o', es, ep, g1, g2, g3, g4, g5, g6⟩ := dd'
  have new : ObjOk X.prog X.w (upd H3 d (.ext (PhiN d (xs ++ [(k, b, rr)])))) h' d (.ext (PhiN d (xs ++ [(k, b, rr)]))) := phi_ok ⟨o', es, ep, g1, g2, g3, g4⟩
  have I4 := d_write (t' := s3.toks + (nKind X.prog X.w).draws k) I3 (by rw [e]; exact True.intro) hsb ⟨o', g1⟩ new
  refine ⟨σ, _, I4, q3 _ (fun c u' ec ne => by rw [upd_ne ne]; exact ec) (fun c ec => by rw [upd_ne (by rintro rfl; rw [e] at ec; cases ec)]; exact ec) ?_⟩
  have kp : ∀ a xs', H3 a = some (.tup xs') → (upd H3 d (.ext (PhiN d (xs ++ [(k, b, rr)])))) a = some (.tup xs') := fun a xs' ea => by rw [upd_ne (by rintro rfl; rw [e] at ea; cases ea)]; exact ea
  refine ⟨⟨_, upd_same, by rw [List.map_append, List.map_append, hks]; rfl, ?_⟩, fun q hq => ?_, ?_, by rw [List.length_append]; show kvs.length + 1 ≤ _; omega, DD.sm⟩
  · rw [List.map_append, List.map_append]
    exact hvv.append (.cons rv .nil)
  · rcases List.mem_append.1 hq with hq | hq
    · exact ⟨(DD.ks q hq).1, DenN.mono kp 7 _ _ (DD.ks q hq).1 (DD.ks q hq).2⟩
    · simp at hq
      subst hq
      exact ⟨hk, DenN.mono kp 7 _ _ hk hb⟩
  · rw [List.map_append]
    exact List.nodup_append.2 ⟨DD.nd, by simp, fun a ha c hc => by simp at hc; subst hc; rintro rfl; exact hn ha⟩
end
theorem DNx.sub {H H' : Hp} {d : Addr} {kvs : List (NK × Addr × V)} (S : Sub H H') (h : DNx H d kvs) : DNx H' d kvs :=
  ⟨h.ex.imp fun _ z => ⟨S _ _ z.1, z.2⟩, fun q hq => ⟨(h.ks q hq).1, DenN.mono (fun _ _ e => S _ _ e) 7 _ _ (h.ks q hq).1 (h.ks q hq).2⟩, h.nd, h.sz, h.sm⟩
end L2

end
section
/-! displays of numbers, and of rows of numbers, read at one stroke -/
set_option autoImplicit true
open PySem
namespace L2
end L2

end
section
/-! displays of entries, rows and machines, read at one stroke -/
set_option autoImplicit true
set_option linter.all false
open PySem
namespace L2
end L2

end
section
/-! cuts: what is wanted behind a statement, an expression or a test may be told as a fact of one's own, so that ways that come together again are gone on with once -/
set_option autoImplicit true
open PySem PySem.Spec PyProof.Rows
namespace L2
variable {X : Cx}
/-- an attribute inside a comprehension: K named -/
theorem pe_fldK {K : PySem.W.Frag} {e : Expr} {f : Str} {pos : Pos} {ta : TE} (hK : X.K = K) (he : PE X e ta) (hb : attributeBase e f X.env (eval e X.env) = eval e X.env) : PE X (.Attribute e f pos) (tFld K ta f) := by
  subst hK
  exact pe_fld he hb
end L2

end
section
set_option Elab.async false
set_option linter.all false
set_option maxRecDepth 100000
set_option maxHeartbeats 4000000
namespace L2
open PySem PySem.Spec PyProof.Rows PySem.W
/-! ### list(enumerate(a tuple)) -/
section
variable {prog : Program} {w : World} {A : Around} {E : Value → Shared → Prop} {s : Shared}
theorem tupit_item {j t : Addr} {i : Nat} {its : Array Value} {x : Value} {Q : Value → Shared → Prop} (hj : s.heap.IsTupleIter j t i) (ht : s.heap.IsTuple t its) (hx : its[i]? = some x) (q : ∀ h1, h1.IsTupleIter j t (i + 1) → Heap.SameBut j s.heap h1 → Q x { s with heap := h1 }) :
    wpAny (model prog w) A (Builtin.SmallTypes.nextOf (.ref j)) Q E s := by
  obtain ⟨oj, hoj, hcj, hdj⟩ := id hj
  obtain ⟨ot, hot, _, nt, hdt⟩ := ht
  unfold Builtin.SmallTypes.nextOf
  refine wpAny_bind (wpAny_callSpecial?_slot (name := Str.ofString "__next__") hj.typeIs F.slot_tuple_iterator_next (wpAny_call_entry F.slot_tuple_iterator_next hj.typeIs F.entry_tuple_iterator_next ?_ (F.args_tuple_iterator_next_1 _)))
  show wpAny _ _ (field (.ref j) 0 >>= _) _ _ s
  refine wpAny_bind (wpAny_field hoj hdj (x := .ref t) rfl ?_)
  show wpAny _ _ (if (Value.ref t == Value.none) = true then _ else _) _ _ s
  rw [if_neg (by intro z; exact Bool.false_ne_true z)]
  show wpAny _ _ (field (.ref j) 1 >>= _) _ _ s
  refine wpAny_bind (wpAny_field hoj hdj (x := .int i 0) rfl ?_)
  show wpAny _ _ (seqItems? (.ref t) >>= _) _ _ s
  refine wpAny_bind (wpAny_seqItems hot hdt ?_)
  simp only [Int.toNat_natCast, hx]
  refine wpAny_bind (wpAny_setField hoj hdj (by simp) (wpAny_pure ⟨x, rfl, wpAny_pure (q _ ⟨_, Heap.get?_update_self _ hoj (Obj.isFreed_of_fields (Obj.data_mapFields hdj _)), (Obj.cls_mapFields ..).trans hcj, ?_⟩ (Heap.SameBut.update ..))⟩))
  rw [Obj.data_mapFields hdj]
  simp [rawInt]
theorem tupit_end {j t : Addr} {i : Nat} {its : Array Value} {Q : Value → Shared → Prop} (hh : A.handled = none) (hj : s.heap.IsTupleIter j t i) (ht : s.heap.IsTuple t its) (hx : its[i]? = none)
    (q : ∀ h1 e, Heap.ExtBut j s.heap h1 → (∃ o, h1.get? e = some o ∧ o.cls = .type "StopIteration") → E (.ref e) { s with heap := h1 }) : wpAny (model prog w) A (Builtin.SmallTypes.nextOf (.ref j)) Q E s := by
  obtain ⟨oj, hoj, hcj, hdj⟩ := id hj
  obtain ⟨ot, hot, _, nt, hdt⟩ := ht
  unfold Builtin.SmallTypes.nextOf
  refine wpAny_bind (wpAny_callSpecial?_slot (name := Str.ofString "__next__") hj.typeIs F.slot_tuple_iterator_next (wpAny_call_entry F.slot_tuple_iterator_next hj.typeIs F.entry_tuple_iterator_next ?_ (F.args_tuple_iterator_next_1 _)))
  show wpAny _ _ (field (.ref j) 0 >>= _) _ _ s
  refine wpAny_bind (wpAny_field hoj hdj (x := .ref t) rfl ?_)
  show wpAny _ _ (if (Value.ref t == Value.none) = true then _ else _) _ _ s
  rw [if_neg (by intro z; exact Bool.false_ne_true z)]
  show wpAny _ _ (field (.ref j) 1 >>= _) _ _ s
  refine wpAny_bind (wpAny_field hoj hdj (x := .int i 0) rfl ?_)
  show wpAny _ _ (seqItems? (.ref t) >>= _) _ _ s
  refine wpAny_bind (wpAny_seqItems hot hdt ?_)
  simp only [Int.toNat_natCast, hx]
  refine wpAny_bind (wpAny_rule (wpAny_bind (wpAny_setField hoj hdj (by simp) ?_)))
  show wpAny (model prog w) _ (newExc (.type "StopIteration") [] >>= _) _ _ _
  refine wpAny_bind ?_
  simp only [newExc, newTuple]
  refine wpAny_bind (wpAny_newObj_type (?_ : _) (by size_fits))
  refine wpAny_bind (m := firstArgMember _ _) (wpAny_of_eq (a := Value.none) (by first | rfl | (with_unfolding_all rfl)) ?_)
  refine wpAny_newObj_type (?_ : _) (by size_fits)
  simp only [raiseNew]
  refine wpAny_bind (wpAny_handled ?_)
  first | rw [show A.in1.handled = none from hh] | rw [hh]
  refine wpAny_bind (wpAny_pure (wpAny_throw (q _ _ (((Heap.SameBut.update ..).extBut.push _).push _) ⟨_, Heap.get?_push_size _ rfl, rfl⟩)))
/-- an enumerate at i, whatever tuple it has handed out -/
abbrev EnO (h : Heap) (e j : Addr) (i : Int) (x0 : Value) (f : Bool) (old : Value) : Prop :=
  h.get? e = some { cls := .type "enumerate", dict := none, data := .fields #[x0, .bool f, .ref j, rawInt i, .none, old], slots := #[] }
def Ot (x0 : Value) : Prop := x0 = .none ∨ ∃ a : Nat, x0 = rawInt a
theorem en_alive {a : Addr} {Q : Option Obj → Shared → Prop} (h : Q (s.heap.get? a) s) : wpAny (model prog w) A (loadIfAlive a) Q E s := fun _ _ _ => h
theorem en_free {e j : Addr} {i : Int} {x0 : Value} {f : Bool} {old : Value} {Q : Bool → Shared → Prop} (he : EnO s.heap e j i x0 f old) (h0 : Ot x0) (q : ∀ b f' h1, EnO h1 e j i x0 f' old → Heap.SameBut e s.heap h1 → Q b { s with heap := h1 }) :
    wpAny (model prog w) A (Builtin.SmallTypes.ownedTupleIsFree (.ref e)) Q E s := by
  unfold Builtin.SmallTypes.ownedTupleIsFree
  refine wpAny_bind (wpAny_field he rfl (x := x0) rfl ?_)
  rcases h0 with rfl | ⟨a, rfl⟩
  · exact wpAny_pure (q true f s.heap he (Heap.SameBut.refl _ _))
  · show wpAny _ _ (loadIfAlive ((a : Int).toNat) >>= _) _ _ _
    rw [Int.toNat_natCast]
    refine wpAny_bind (en_alive ?_)
    cases s.heap.get? a with
    | none => exact wpAny_pure (q true f s.heap he (Heap.SameBut.refl _ _))
    | some o =>
      simp only [Option.isNone_some, Bool.false_eq_true, if_false]
      refine wpAny_bind (wpAny_field he rfl (x := .bool f) rfl ?_)
      cases f with
      | true =>
        rw [if_neg (by decide)]
        exact wpAny_pure (q false true s.heap he (Heap.SameBut.refl _ _))
      | false =>
        rw [if_pos (by decide)]
        exact wpAny_bind (wpAny_setField_rec he (by simp) fun h1 he1 hs1 => wpAny_pure (q false true h1 he1 hs1))
theorem en_item {e j t : Addr} {i : Nat} {x0 : Value} {f : Bool} {old x : Value} {its : Array Value} {Q : Option Value → Shared → Prop} (he : EnO s.heap e j i x0 f old) (h0 : Ot x0) (hj : s.heap.IsTupleIter j t i) (ht : s.heap.IsTuple t its) (hx : its[i]? = some x) (hej : e ≠ j)
    (q : ∀ y0 f' old' h1, EnO h1 e j ((i : Int) + 1) y0 f' old' → Ot y0 → h1.IsTupleIter j t (i + 1) → h1.get? s.heap.objs.size = some { cls := .type "tuple", data := .seq #[.int i s.toks, x] } → h1.objs.size = s.heap.objs.size + 1 →
      (∀ b o, b ≠ e → b ≠ j → s.heap.get? b = some o → h1.get? b = some o) → Q (some (.ref s.heap.objs.size)) { s with heap := h1, toks := s.toks + 1 }) :
    wpAny (model prog w) A (pyNext (.ref e)) Q E s := by
  have hT : s.TypeIs (.ref e) "enumerate" := ⟨_, he, rfl⟩
  have hel0 : e < s.heap.objs.size := Heap.lt_size he
  unfold pyNext
  refine wpAny_bind (wpAny_attempt (wpAny_callSpecial?_slot (name := Str.ofString "__next__") hT F.slot_enumerate_next (wpAny_call_entry F.slot_enumerate_next hT F.entry_enumerate_next ?_ (F.args_enumerate_next_1 _))))
  obtain ⟨hp, g, d, tk, os⟩ := s
  show wpAny _ _ (field (.ref e) 2 >>= _) _ _ _
  refine wpAny_bind (wpAny_field he rfl (x := .ref j) rfl ?_)
  refine wpAny_bind (tupit_item hj ht hx fun h1 hj1 hs1 => ?_)
  replace hs1 : Heap.SameBut j hp h1 := hs1
  have he1 : EnO h1 e j i x0 f old := (hs1.2 e hej).trans he
  show wpAny _ _ (field (.ref e) 3 >>= _) _ _ ⟨h1, g, d, tk, os⟩
  refine wpAny_bind (wpAny_field he1 rfl (x := rawInt i) rfl ?_)
  show wpAny _ _ (field (.ref e) 4 >>= _) _ _ ⟨h1, g, d, tk, os⟩
  refine wpAny_bind (wpAny_field he1 rfl (x := .none) rfl ?_)
  show wpAny _ _ (mkInt i >>= _) _ _ ⟨h1, g, d, tk, os⟩
  refine wpAny_bind (wpAny_mkInt ?_)
  show wpAny _ _ (setField (.ref e) 3 (rawInt ((i : Int) + 1)) >>= _) _ _ ⟨h1, g, d, tk + 1, os⟩
  refine wpAny_bind (wpAny_setField_rec he1 (by simp) fun h2 he2 hs2 => ?_)
  replace hs2 : Heap.SameBut e h1 h2 := hs2
  replace he2 : EnO h2 e j ((i : Int) + 1) x0 f old := he2
  show wpAny _ _ (setField (.ref e) 4 .none >>= _) _ _ ⟨h2, g, d, tk + 1, os⟩
  refine wpAny_bind (wpAny_setField_rec he2 (by simp) fun h3 he3 hs3 => ?_)
  replace hs3 : Heap.SameBut e h2 h3 := hs3
  replace he3 : EnO h3 e j ((i : Int) + 1) x0 f old := he3
  show wpAny _ _ (newTuple [.int i tk, x] >>= _) _ _ ⟨h3, g, d, tk + 1, os⟩
  refine wpAny_bind (wpAny_newTuple ?_)
  have he4 : EnO (h3.push { cls := .type "tuple", data := .seq #[.int i tk, x] }) e j ((i : Int) + 1) x0 f old := Heap.get?_push_of_some _ he3
  generalize hh4 : h3.push { cls := .type "tuple", data := .seq #[.int i tk, x] } = h4 at he4
  have hsz : h3.objs.size = hp.objs.size := hs3.1.trans (hs2.1.trans hs1.1)
  have ht4 : h4.get? hp.objs.size = some { cls := .type "tuple", data := .seq #[.int i tk, x] } := by rw [← hsz, ← hh4]; exact Heap.get?_push_size _ rfl
  have hz4 : h4.objs.size = hp.objs.size + 1 := by rw [← hsz, ← hh4, Heap.size_push]
  have hk4 : ∀ b o, b ≠ e → b ≠ j → hp.get? b = some o → h4.get? b = some o := fun b o h1' h2' hb => hh4 ▸ Heap.get?_push_of_some _ (hs3.extBut b o h1' (hs2.extBut b o h1' (hs1.extBut b o h2' hb)))
  have hj4 : h4.IsTupleIter j t (i + 1) := by
    obtain ⟨o, ho, r⟩ := (hj1.extBut hs2.extBut (Ne.symm hej)).extBut hs3.extBut (Ne.symm hej)
    exact ⟨o, hh4 ▸ Heap.get?_push_of_some _ ho, r⟩
  show wpAny _ _ (Builtin.SmallTypes.ownedTupleIsFree (.ref e) >>= _) _ _ ⟨h4, g, d, tk + 1, os⟩
  rw [hsz]
  clear hh4 he3 hs3 he2 hs2 he1 hs1 hj1 hsz h3 h2 h1
  refine wpAny_bind (en_free he4 h0 fun b f5 h5 he5 hs5 => ?_)
  replace hs5 : Heap.SameBut e h4 h5 := hs5
  have fin : ∀ y0 f' old' h6, EnO h6 e j ((i : Int) + 1) y0 f' old' → Ot y0 → Heap.SameBut e h5 h6 → Q (some (.ref hp.objs.size)) ⟨h6, g, d, tk + 1, os⟩ := fun y0 f' old' h6 he6 hy hs6 =>
    q y0 f' old' h6 he6 hy ((hj4.extBut hs5.extBut (Ne.symm hej)).extBut hs6.extBut (Ne.symm hej)) (hs6.extBut _ _ (Nat.ne_of_gt hel0) (hs5.extBut _ _ (Nat.ne_of_gt hel0) ht4)) (hs6.1.trans (hs5.1.trans hz4))
      fun b o h1' h2' hb => hs6.extBut b o h1' (hs5.extBut b o h1' (hk4 b o h1' h2' hb))
  cases b with
  | false =>
    simp only [Bool.false_eq_true, if_false]
    exact wpAny_pure ⟨_, rfl, wpAny_pure (fin _ _ _ h5 he5 h0 (Heap.SameBut.refl _ _))⟩
  | true =>
    simp only [if_true]
    refine wpAny_bind (wpAny_rule ?_)
    refine wpAny_bind (wpAny_field he5 rfl (x := old) rfl ?_)
    refine wpAny_bind (wpAny_setField_rec he5 (by simp) fun h6 he6 hs6 => ?_)
    replace hs6 : Heap.SameBut e h5 h6 := hs6
    replace he6 : EnO h6 e j ((i : Int) + 1) x0 f5 x := he6
    show wpAny _ _ (Builtin.SmallTypes.ownedTupleHandOut (.ref e) (.ref hp.objs.size) >>= _) _ _ ⟨h6, g, d, tk + 1, os⟩
    refine wpAny_bind ?_
    unfold Builtin.SmallTypes.ownedTupleHandOut
    refine wpAny_bind (wpAny_setField_rec he6 (by simp) fun h7 he7 hs7 => ?_)
    replace hs7 : Heap.SameBut e h6 h7 := hs7
    replace he7 : EnO h7 e j ((i : Int) + 1) (rawInt hp.objs.size) f5 x := he7
    refine wpAny_setField_rec he7 (by simp) fun h8 he8 hs8 => ?_
    replace hs8 : Heap.SameBut e h7 h8 := hs8
    replace he8 : EnO h8 e j ((i : Int) + 1) (rawInt hp.objs.size) false x := he8
    exact wpAny_bind (wpAny_letGo (wpAny_pure ⟨_, rfl, wpAny_pure (fin _ _ _ h8 he8 (.inr ⟨_, rfl⟩) ⟨hs8.1.trans (hs7.1.trans hs6.1), fun b hb => (hs8.2 b hb).trans ((hs7.2 b hb).trans (hs6.2 b hb))⟩)⟩))
theorem en_end {e j t : Addr} {i : Nat} {x0 : Value} {f : Bool} {old : Value} {its : Array Value} {Q : Option Value → Shared → Prop} (hh : A.handled = none) (he : EnO s.heap e j i x0 f old) (hj : s.heap.IsTupleIter j t i) (ht : s.heap.IsTuple t its) (hx : its[i]? = none)
    (q : ∀ h1, Heap.ExtBut j s.heap h1 → Q none { s with heap := h1 }) : wpAny (model prog w) A (pyNext (.ref e)) Q E s := by
  have hT : s.TypeIs (.ref e) "enumerate" := ⟨_, he, rfl⟩
  unfold pyNext
  refine wpAny_bind (wpAny_attempt (wpAny_callSpecial?_slot (name := Str.ofString "__next__") hT F.slot_enumerate_next (wpAny_call_entry F.slot_enumerate_next hT F.entry_enumerate_next ?_ (F.args_enumerate_next_1 _))))
  show wpAny _ _ (field (.ref e) 2 >>= _) _ _ _
  refine wpAny_bind (wpAny_field he rfl (x := .ref j) rfl ?_)
  refine wpAny_bind (tupit_end (A := A.in1) hh hj ht hx fun h1 ex he' hx' => ?_)
  obtain ⟨o, ho, hc⟩ := hx'
  refine wpAny_bind (wpAny_isInstance (T := "StopIteration") (b := true) ⟨o, ho, hc⟩ isSubtype_stop ?_)
  exact wpAny_pure (q _ he')
end
/-- the pairs handed out so far -/
structure EnG (its : Array Value) (lo : Addr) (h : Heap) (as : List Addr) : Prop where
  up : ∀ a ∈ as, lo < a
  pr : ∀ (k : Nat) (a : Addr), as[k]? = some a → ∃ t x, its[k]? = some x ∧ h.get? a = some { cls := .type "tuple", data := .seq #[.int k t, x] }
def EnS (h : Heap) (e j t : Addr) (i : Nat) : Prop := (∃ x0 f old, EnO h e j i x0 f old ∧ Ot x0) ∧ h.IsTupleIter j t i
theorem EnS.at {h h1 : Heap} {e j t : Addr} {i : Nat} (x : EnS h e j t i) (k : ∀ b o, b = e ∨ b = j → h.get? b = some o → h1.get? b = some o) : EnS h1 e j t i :=
  let ⟨⟨x0, f, old, he, h0⟩, o, ho, r⟩ := x; ⟨⟨x0, f, old, k _ _ (.inl rfl) he, h0⟩, o, k _ _ (.inr rfl) ho, r⟩
section
variable {prog : Program} {w : World} {A : Around} {s : Shared} {R : Result → Shared → Prop} {its : Array Value}
theorem en_loop {S e j t : Addr} (hh : A.handled = none) (hej : e ≠ j) (hSe : S ≠ e) (hSj : S ≠ j) (hte : t ≠ e) (htj : t ≠ j) (htS : t ≠ S) (hn : its.size ≤ sizeLine) (res : Value) {h0 : Heap} (lo : Addr) (l1 : S ≤ lo) (l2 : e ≤ lo) (l3 : j ≤ lo)
    (hR : ∀ h1 tk acc c as, (∀ b o, b ≠ S → b ≠ e → b ≠ j → h0.get? b = some o → h1.get? b = some o) → h1.get? S = some { cls := .type "list", dict := none, data := .seq acc c, slots := #[] } → as.length = its.size → EnG its lo h1 as → acc.toList = as.map Value.ref → R (.ok (.ret res)) { s with heap := h1, toks := tk }) :
    ∀ (k i : Nat) (h : Heap) (tk c : Nat) (acc : Array Value) (as : List Addr), its.size - i = k → i ≤ its.size → EnS h e j t i → h.IsTuple t its → (∀ b o, b ≠ S → b ≠ e → b ≠ j → h0.get? b = some o → h.get? b = some o) →
      h.get? S = some { cls := .type "list", dict := none, data := .seq acc c, slots := #[] } → acc.toList = as.map Value.ref → as.length = i → EnG its lo h as → lo < h.objs.size →
      codeAny (model prog w) A (.builtin "list.extend.loop" ⟨[.ref S, .ref e, res], []⟩) R { s with heap := h, toks := tk } := by
  intro k
  induction k with
  | zero =>
    intro i h tk c acc as hk hi hst hD hkeep hS hacc hal hG hlo
    obtain ⟨⟨x0, f, old, he, ho⟩, hj⟩ := hst
    refine codeAny_builtin PySem.F.entry_extend_loop ?_
    rw [Around.under_plainId PySem.F.plain_extend_loop]
    show wpAny _ A.in1 (pyNext (.ref e) >>= _) _ _ _
    refine wpAny_bind (en_end (s := { s with heap := h, toks := tk }) (A := A.in1) hh he hj hD (Array.getElem?_eq_none (by omega)) fun h1 hx => ?_)
    refine wpAny_pure (hR h1 tk acc c as (fun b o b1 b2 b3 q => hx b o b3 (hkeep b o b1 b2 b3 q)) (hx S _ hSj hS) (by omega) ⟨hG.up, fun m a ha => ?_⟩ hacc)
    obtain ⟨t', x, q1, q2⟩ := hG.pr m a ha
    exact ⟨t', x, q1, hx a _ (Nat.ne_of_gt (Nat.lt_of_le_of_lt l3 (hG.up a (List.mem_of_getElem? ha)))) q2⟩
  | succ k ih =>
    intro i h tk c acc as hk hi hst hD hkeep hS hacc hal hG hlo
    obtain ⟨⟨x0, f, old, he, ho⟩, hj⟩ := hst
    have hlt : i < its.size := by omega
    have hsz : acc.size = i := by rw [← Array.length_toList, hacc, List.length_map, hal]
    refine codeAny_builtin PySem.F.entry_extend_loop ?_
    rw [Around.under_plainId PySem.F.plain_extend_loop]
    show wpAny _ A.in1 (pyNext (.ref e) >>= _) _ _ _
    refine wpAny_bind (en_item (s := { s with heap := h, toks := tk }) he ho hj hD (x := its[i]) (by simp [hlt]) hej fun y0 f1 old1 h1 he1 hy hj1 ht1 hz1 hk1 => ?_)
    dsimp only at ht1 hz1 hk1 ⊢
    have hS1 := hk1 S _ hSe hSj hS
    have kp : ∀ b o, b ≠ S → h1.get? b = some o → (h1.update S (Obj.mapSeq (·.push (Value.ref h.objs.size)))).get? b = some o := fun b o hb q => (Heap.get?_update_other _ _ (Ne.symm hb)).trans q
    have hSl : S < h.objs.size := Heap.lt_size hS
    show wpAny _ A.in1 (updateSeq S (·.push (Value.ref h.objs.size)) >>= _) _ _ _
    refine wpAny_bind ?_
    have he1' : EnO h1 e j ((i + 1 : Nat) : Int) y0 f1 old1 := by
      rw [show ((i + 1 : Nat) : Int) = (i : Int) + 1 by omega]; exact he1
    have hD1 : Heap.IsTuple h1 t its := by
      obtain ⟨ot, hot, r⟩ := hD
      exact ⟨ot, hk1 t ot hte htj hot, r⟩
    refine wpAny_updateSeq hS1 rfl (wpAny_pure ⟨plainId_quiet PySem.F.plain_extend_loop _, ih (i + 1) _ (tk + 1) _ (acc.push (Value.ref h.objs.size)) (as ++ [h.objs.size]) (by omega) hlt (EnS.at ⟨⟨y0, f1, old1, he1', hy⟩, hj1⟩ fun b o hb q => kp b o (by rcases hb with rfl | rfl; exact hSe.symm; exact hSj.symm) q) ?_
      (fun b o b1 b2 b3 q => kp b o b1 (hk1 b o b2 b3 (hkeep b o b1 b2 b3 q))) (Heap.get?_update_self _ hS1 rfl) (by rw [Array.toList_push, hacc, List.map_append]; rfl) (by rw [List.length_append, hal]; rfl) ⟨?_, ?_⟩ ?_⟩) (by rw [hsz]; omega) (by rw [Array.size_push, hsz]; omega)
    · obtain ⟨ot, hot, r⟩ := hD1
      exact ⟨ot, kp t ot htS hot, r⟩
    · intro a ha
      rcases List.mem_append.1 ha with ha | ha
      · exact hG.up a ha
      · rw [List.mem_singleton.1 ha]; exact hlo
    · intro m b hm
      rcases Nat.lt_trichotomy m as.length with c1 | c1 | c1
      · rw [List.getElem?_append_left c1] at hm
        obtain ⟨t', x, q1, q2⟩ := hG.pr m b hm
        have hb := hG.up b (List.mem_of_getElem? hm)
        exact ⟨t', x, q1, kp b _ (Nat.ne_of_gt (Nat.lt_of_le_of_lt l1 hb)) (hk1 b _ (Nat.ne_of_gt (Nat.lt_of_le_of_lt l2 hb)) (Nat.ne_of_gt (Nat.lt_of_le_of_lt l3 hb)) q2)⟩
      · subst c1
        have hb : h.objs.size = b := by simpa using hm
        subst hb
        exact ⟨tk, its[i], by rw [hal]; simp [hlt], by rw [hal]; exact kp _ _ (Nat.ne_of_gt hSl) ht1⟩
      · rw [List.getElem?_eq_none (by rw [List.length_append, List.length_singleton]; omega)] at hm
        cases hm
    · have q : (h1.update S (Obj.mapSeq (·.push (Value.ref h.objs.size)))).get? h.objs.size = _ := kp _ _ (Nat.ne_of_gt hSl) ht1
      exact Nat.lt_trans hlo (Heap.lt_size q)
end
theorem en_len : typeLookup (.type "enumerate") "__len__" = pure none := by rw [typeLookup_type, builtinLookup_eq_fast]; kernel_rfl
theorem en_lenh : typeLookup (.type "enumerate") "__length_hint__" = pure none := by rw [typeLookup_type, builtinLookup_eq_fast]; kernel_rfl
section
variable {prog : Program} {w : World} {A : Around} {E : Value → Shared → Prop} {s : Shared} {its : Array Value}
theorem en_hint {e : Addr} {Q : Bool → Shared → Prop} (hT : s.TypeIs (.ref e) "enumerate") (h : Q true s) : wpAny (model prog w) A (Builtin.List.listLengthHint (.ref e)) Q E s := by
  unfold Builtin.List.listLengthHint
  refine wpAny_bind (wpAny_specialOf hT en_len ?_)
  show wpAny _ _ (specialOf (.ref e) "__length_hint__" >>= _) _ _ _
  refine wpAny_bind (wpAny_specialOf hT en_lenh ?_)
  exact wpAny_pure h
theorem en_ext {R : Result → Shared → Prop} {S e j t : Addr} (hh : A.handled = none) (he : IsEnum s.heap e j 0 .none) (hj : s.heap.IsTupleIter j t 0) (ht : s.heap.IsTuple t its) (hej : e ≠ j) (hSe : S ≠ e) (hSj : S ≠ j) (hte : t ≠ e) (htj : t ≠ j) (htS : t ≠ S) (res : Value) (c0 : Nat) (hS : s.heap.get? S = some { cls := .type "list", data := .seq #[] c0 }) (hn : its.size ≤ sizeLine) (lo : Addr) (l1 : S ≤ lo) (l2 : e ≤ lo) (l3 : j ≤ lo) (hlo : lo < s.heap.objs.size)
    (hR : ∀ h1 tk acc c as, (∀ b o, b ≠ S → b ≠ e → b ≠ j → s.heap.get? b = some o → h1.get? b = some o) → h1.get? S = some { cls := .type "list", dict := none, data := .seq acc c, slots := #[] } → as.length = its.size → EnG its lo h1 as → acc.toList = as.map Value.ref → R (.ok (.ret res)) { s with heap := h1, toks := tk }) :
    wpAny (model prog w) A.in1 (Builtin.List.listExtendWith (.ref S) (.ref e) res)
      (fun fin s1 => match fin with | .done f => R (.ok f) s1 | .again c1 => c1.quiet = true ∧ codeAny (model prog w) A c1 R s1) (fun x s1 => R (.error x) s1) s := by
  have hst : EnS s.heap e j t 0 := ⟨⟨.none, false, .none, he, .inl rfl⟩, hj⟩
  have hT : s.TypeIs (.ref e) "enumerate" := ⟨_, he, rfl⟩
  have key : ∀ (h : Heap) (c1 tk : Nat), (∀ b o, b ≠ S → s.heap.get? b = some o → h.get? b = some o) → h.get? S = some { cls := .type "list", data := .seq #[] c1 } → s.heap.objs.size ≤ h.objs.size → codeAny (model prog w) A (.builtin "list.extend.loop" ⟨[.ref S, .ref e, res], []⟩) R { s with heap := h, toks := tk } := by
    intro h c1 tk hk hS1 hz
    refine en_loop (s := s) (h0 := s.heap) hh hej hSe hSj hte htj htS hn res lo l1 l2 l3 hR its.size 0 h tk c1 #[] [] (Nat.sub_zero _) (Nat.zero_le _) (hst.at fun b o hb q => hk b o (by rcases hb with rfl | rfl; exact hSe.symm; exact hSj.symm) q) ?_ (fun b o b1 _ _ q => hk b o b1 q) hS1 rfl rfl ⟨(fun _ ha => nomatch ha), (fun m a hm => by simp at hm)⟩ (Nat.lt_of_lt_of_le hlo hz)
    obtain ⟨ot, hot, r⟩ := ht
    exact ⟨ot, hk t ot htS hot, r⟩
  unfold Builtin.List.listExtendWith
  refine wpAny_bind (wpAny_typeOf (T := "enumerate") hT ?_)
  have h1 : Builtin.List.listSameRef (.ref S) (.ref e) = false := by simp [Builtin.List.listSameRef, hSe]
  have h2 : (Value.type "enumerate" == Value.type "list") = false := by decide
  have h3 : (Value.type "enumerate" == Value.type "tuple") = false := by decide
  simp only [h1, h2, h3, Bool.or_false, Bool.false_eq_true, if_false]
  refine wpAny_bind (wpAny_pyIter_enum he ?_)
  refine wpAny_bind (wpAny_holding (en_hint hT ?_))
  refine wpAny_ite_split (fun _ => ?_) (fun _ => wpAny_pure ⟨plainId_quiet PySem.F.plain_extend_loop _, key _ c0 _ (fun b o _ q => q) hS (Nat.le_refl _)⟩)
  refine wpAny_bind (wpAny_rule (wpAny_bind ?_))
  show wpAny _ _ (updateSeq S (·.push Value.none) >>= fun _ => updateSeq S (·.pop)) _ _ _
  refine wpAny_bind (wpAny_updateSeq hS rfl ?_)
  have hS2 := Heap.get?_update_self (Obj.mapSeq (·.push Value.none)) hS rfl
  refine wpAny_updateSeq (hz := by seq_fits) hS2 rfl ?_
  have hS3 := Heap.get?_update_self (Obj.mapSeq (·.pop)) hS2 rfl
  refine wpAny_pure ⟨plainId_quiet PySem.F.plain_extend_loop _, key _ _ _ (fun b o hb q => ?_) hS3 ?_⟩
  · exact (Heap.get?_update_other _ _ (Ne.symm hb)).trans ((Heap.get?_update_other _ _ (Ne.symm hb)).trans q)
  · rw [Heap.size_update, Heap.size_update]; exact Nat.le_refl _
theorem en_init {R : Result → Shared → Prop} {S e j t : Addr} (hh : A.handled = none) (he : IsEnum s.heap e j 0 .none) (hj : s.heap.IsTupleIter j t 0) (ht : s.heap.IsTuple t its) (hej : e ≠ j) (hSe : S ≠ e) (hSj : S ≠ j) (hte : t ≠ e) (htj : t ≠ j) (htS : t ≠ S) (hS : s.heap.get? S = some { cls := .type "list", data := .seq #[] }) (hn : its.size ≤ sizeLine) (lo : Addr) (l1 : S ≤ lo) (l2 : e ≤ lo) (l3 : j ≤ lo) (hlo : lo < s.heap.objs.size)
    (hR : ∀ h1 tk acc c as, (∀ b o, b ≠ S → b ≠ e → b ≠ j → s.heap.get? b = some o → h1.get? b = some o) → h1.get? S = some { cls := .type "list", dict := none, data := .seq acc c, slots := #[] } → as.length = its.size → EnG its lo h1 as → acc.toList = as.map Value.ref → R (.ok (.ret .none)) { s with heap := h1, toks := tk }) :
    wpAny (model prog w) A.in1 (Builtin.«list.__init__» ⟨[.ref S, .ref e], []⟩)
      (fun fin s1 => match fin with | .done f => R (.ok f) s1 | .again c1 => c1.quiet = true ∧ codeAny (model prog w) A c1 R s1) (fun x s1 => R (.error x) s1) s := by
  show wpAny _ _ (do let old ← Builtin.List.listItems (.ref S); Builtin.List.listUpdate (.ref S) (fun _ => #[]); letGo old.toList.reverse; Builtin.List.listExtendWith (.ref S) (.ref e) .none) _ _ s
  refine wpAny_bind ?_
  unfold Builtin.List.listItems
  refine wpAny_bind (wpAny_seqItems hS rfl (wpAny_pure ?_))
  show wpAny _ _ (updateSeq S (fun _ => #[]) >>= fun _ => letGo (#[] : Array Value).toList.reverse >>= fun _ => Builtin.List.listExtendWith (.ref S) (.ref e) .none) _ _ s
  refine wpAny_bind (wpAny_updateSeq hS rfl ?_)
  have hS2 := Heap.get?_update_self (Obj.mapSeq (fun _ => (#[] : Array Value))) hS rfl
  have oth : ∀ b o, b ≠ S → s.heap.get? b = some o → (s.heap.update S (Obj.mapSeq (fun _ => (#[] : Array Value)))).get? b = some o := fun b o hb q => (Heap.get?_update_other _ _ (Ne.symm hb)).trans q
  refine wpAny_bind (wpAny_letGo ?_)
  refine en_ext hh (oth _ _ hSe.symm he) (let ⟨o, ho, r⟩ := hj; ⟨o, oth _ _ hSj.symm ho, r⟩) (let ⟨o, ho, r⟩ := ht; ⟨o, oth _ _ htS ho, r⟩) hej hSe hSj hte htj htS .none _ hS2 hn lo l1 l2 l3 (by rw [Heap.size_update]; exact hlo) fun h1 tk acc c as hk q1 q2 q3 q4 => ?_
  exact hR h1 tk acc c as (fun b o b1 b2 b3 q => hk b o b1 b2 b3 (oth b o b1 q)) q1 q2 q3 q4
theorem en_list {Q : Value → Shared → Prop} {e j t : Addr} (hh : A.handled = none) (he : IsEnum s.heap e j 0 .none) (hj : s.heap.IsTupleIter j t 0) (ht : s.heap.IsTuple t its) (hej : e ≠ j) (hte : t ≠ e) (htj : t ≠ j) (hn : its.size ≤ sizeLine)
    (hQ : ∀ h1 tk acc c as, (∀ b o, b ≠ e → b ≠ j → s.heap.get? b = some o → h1.get? b = some o) → h1.get? s.heap.objs.size = some { cls := .type "list", dict := none, data := .seq acc c, slots := #[] } → as.length = its.size → EnG its s.heap.objs.size h1 as → acc.toList = as.map Value.ref → Q (.ref s.heap.objs.size) { s with heap := h1, toks := tk }) :
    wpAny (model prog w) A (call (.type "list") [.ref e]) Q E s := by
  refine callType_codes (Q₁ := fun obj s1 => obj = .ref s.heap.objs.size ∧ s1 = { s with heap := s.heap.push { cls := .type "list", data := .seq #[] } }) PySem.F.called_list (PySem.F.typeCall_list_1 _) PySem.F.entry_list_init (code_list_new _ ⟨rfl, rfl⟩) fun obj s1 z => ?_
  obtain ⟨rfl, rfl⟩ := z
  have hS : (s.heap.push { cls := .type "list", data := .seq #[] }).get? s.heap.objs.size = some { cls := .type "list", data := .seq #[] } := Heap.get?_push_size _ rfl
  have le : e < s.heap.objs.size := Heap.lt_size he
  have lj : j < s.heap.objs.size := let ⟨_, ho, _⟩ := hj; Heap.lt_size ho
  have lt : t < s.heap.objs.size := let ⟨_, ho, _⟩ := ht; Heap.lt_size ho
  refine ⟨⟨_, hS, rfl⟩, PySem.F.args_list_init_2 _ _, en_init (A := A.in1) hh (Heap.get?_push_of_some _ he) (let ⟨o, ho, r⟩ := hj; ⟨o, Heap.get?_push_of_some _ ho, r⟩) (ht.push _) hej (Nat.ne_of_gt le) (Nat.ne_of_gt lj) hte htj (Nat.ne_of_lt lt) hS hn s.heap.objs.size (Nat.le_refl _) (Nat.le_of_lt le) (Nat.le_of_lt lj) (by show s.heap.objs.size < (s.heap.push _).objs.size; rw [Heap.size_push]; exact Nat.lt_succ_self _) fun h1 tk acc c as hk q1 q2 q3 q4 => ?_⟩
  exact ⟨rfl, hQ h1 tk acc c as (fun b o b2 b3 q => hk b o (Nat.ne_of_lt (Heap.lt_size q)) b2 b3 (Heap.get?_push_of_some _ q)) q1 q2 q3 q4⟩
end
/-! enumerate(a tuple) -/
theorem meets_enum_tup (t : Addr) (its : Array Value) (n : Nat) (dct : Option Addr) (sl : Array (Option Value)) :
    Meets (Builtin.«enumerate.__new__» ⟨[.type "enumerate", .ref t], []⟩) (fun _ R s => s.heap.get? t = some { cls := .type "tuple", dict := dct, data := .seq its n, slots := sl } ∧
      R (.ok (.ret (.ref (s.heap.push { cls := .type "tuple_iterator", data := .fields #[.ref t, .int 0 0] }).objs.size)))
        { s with heap := (s.heap.push { cls := .type "tuple_iterator", data := .fields #[.ref t, .int 0 0] }).push { cls := .type "enumerate", data := .fields #[.none, .bool false, .ref s.heap.objs.size, rawInt 0, .none, .none] } }) :=
  .of_wp fun prog w A R s ⟨hl, q⟩ => by
    obtain ⟨hp, g, d, tk, os⟩ := s
    have hsub := sub_enumerate
    have hL : Heap.IsTuple (Shared.heap ⟨hp, g, d, tk, os⟩) t its := ⟨_, hl, rfl, n, rfl⟩
    wp_walk using AutoSeq1.wpAny_loadPart' hl
    refine wpAny_stack_any fun st => wpAny_pure ?_
    split
    · rename_i c _ _ _ _ _
      cases (c == Value.type "enumerate") <;>
      · wp_walk using AutoSeq1.wpAny_loadPart' hl, wpAny_pyIter_tuple hL
        exact ⟨_, rfl, q⟩
    · wp_walk using AutoSeq1.wpAny_loadPart' hl, wpAny_pyIter_tuple hL
      exact ⟨_, rfl, q⟩
section
variable {prog : Program} {w : World} {A : Around} {E : Value → Shared → Prop} {s : Shared}
theorem call_enum_tup {t : Addr} {its : Array Value} {Q : Value → Shared → Prop} (hL : s.heap.IsTuple t its)
    (h : ∀ h1, IsEnum h1 (s.heap.objs.size + 1) s.heap.objs.size 0 .none → h1.IsTupleIter s.heap.objs.size t 0 → (∀ b o, s.heap.get? b = some o → h1.get? b = some o) → Q (.ref (s.heap.objs.size + 1)) { s with heap := h1 }) :
    wpAny (model prog w) A (call (.type "enumerate") [.ref t]) Q E s := by
  obtain ⟨⟨c, dct, dt, sl⟩, hl, hc, n, hd⟩ := hL
  replace hc : c = .type "tuple" := hc
  replace hd : dt = .seq its n := hd
  subst hc hd
  refine callType_new F.called_enumerate (by decide) (F.typeCall_enumerate_1 _) (F.newCall_enumerate_1 _) (fun obj => F.args_object_init_2 obj _) F.entry_enumerate_new (meets_enum_tup t its n dct sl) ⟨hl, ?_⟩
  have hz : (s.heap.push { cls := .type "tuple_iterator", data := .fields #[.ref t, .int 0 0] }).objs.size = s.heap.objs.size + 1 := Heap.size_push ..
  show _ ∧ _
  rw [hz]
  have he : IsEnum ((s.heap.push { cls := .type "tuple_iterator", data := .fields #[.ref t, .int 0 0] }).push { cls := .type "enumerate", data := .fields #[.none, .bool false, .ref s.heap.objs.size, rawInt 0, .none, .none] }) (s.heap.objs.size + 1) s.heap.objs.size 0 .none := by
    have z := Heap.get?_push_size (s.heap.push { cls := .type "tuple_iterator", data := .fields #[.ref t, .int 0 0] }) (o := { cls := .type "enumerate", data := .fields #[.none, .bool false, .ref s.heap.objs.size, rawInt 0, .none, .none] }) rfl
    rw [hz] at z
    exact z
  exact ⟨⟨_, he, rfl⟩, h _ he ⟨_, Heap.get?_push_of_some _ (Heap.get?_push_size _ rfl), rfl, rfl⟩ fun b o x => Heap.get?_push_of_some _ (Heap.get?_push_of_some _ x)⟩
end
/-- numbers with their places -/
def enm (k : Int) : List Int → Mk2
  | [] => []
  | n :: ns => (k, n) :: enm (k + 1) ns
theorem enm_len : ∀ (ns : List Int) (k : Int), (enm k ns).length = ns.length
  | [], _ => rfl
  | _ :: ns, k => by rw [enm, List.length_cons, enm_len ns, List.length_cons]
theorem enm_at : ∀ (ns : List Int) (k : Int) (i : Nat), (enm k ns)[i]? = (ns[i]?).map fun n => (k + i, n)
  | [], _, i => by simp [enm]
  | n :: ns, k, 0 => by simp [enm]
  | n :: ns, k, i + 1 => by
    rw [enm, List.getElem?_cons_succ, enm_at ns (k + 1) i, List.getElem?_cons_succ]
    cases ns[i]? with
    | none => rfl
    | some m =>
      show some (k + 1 + (i : Int), m) = some (k + ((i + 1 : Nat) : Int), m)
      rw [show k + 1 + (i : Int) = k + ((i + 1 : Nat) : Int) by omega]
section
variable {X : Cx} {K : PySem.W.Frag}
def tLE (K : PySem.W.Frag) (ta : TA) : TE := fun σ H Q => ta σ H fun vs H1 => match vs with
  | [.ref t] => ∃ ns : List Int, SqT K H1 t (ns.map V.int) ∧ ∀ (p : Addr) (H2 : Hp), Sub H1 H2 → H1 p = none → Strip H2 p (enm 0 ns) → Q (.ref p) H2
  | _ => False
theorem pe_lenum {a : Expr} {ta : TA} {p p' pos pos' : Pos} (hK : X.K = K) (hc : X.calm = true) (gl : Gl X "list") (ml : X.mg "list" = none) (ge : Gl X "enumerate") (me : X.mg "enumerate" = none) (ha : PA X [a] ta) (hs : starEach [a] X.env = [(false, eval a X.env)] := by rfl)
    (hs' : starEach [.Call (.Name "enumerate" p') [a] [] pos'] X.env = [(false, eval (.Call (.Name "enumerate" p') [a] [] pos') X.env)] := by rfl) :
    PE X (.Call (.Name "list" p) [.Call (.Name "enumerate" p') [a] [] pos'] [] pos) (tLE K ta) := by
  subst hK
  intro pins s σ H Q I h
  refine Call_ (ld_blt I gl ml bt_list (PyProof.Rows.callWith_type1 ?_ hs' rfl))
  rw [hs']
  show wpAny _ _ (spliced ((false, eval (.Call (.Name "enumerate" p') [a] [] pos') X.env) :: backTo pos [])) _ _ s
  refine Calls.spliced_cons ?_
  refine Call_ (ld_blt I ge me bt_enumerate (PyProof.Rows.callWith_type1 (thn (ha pos' pins s σ H _ I h) fun us s1 ⟨vs, H1, I1, r1, q1⟩ => ?_) hs rfl))
  obtain ⟨t, ns, rfl, hq, q⟩ : ∃ t, ∃ ns : List Int, vs = [.ref t] ∧ SqT X.K H1 t (ns.map V.int) ∧ ∀ (p : Addr) (H2 : Hp), Sub H1 H2 → H1 p = none → Strip H2 p (enm 0 ns) → Q (.ref p) H2 := by
    dsimp only at q1
    split at q1
    · obtain ⟨ns, z⟩ := q1; exact ⟨_, ns, rfl, z⟩
    · exact q1.elim
  cases r1 with
  | cons r rr =>
    cases rr
    cases r
    obtain ⟨its, rv, pl, hz⟩ := I1.tuple hq
    have hT : s1.heap.IsTuple t its.toArray := pl
    have htl : t < s1.heap.objs.size := let ⟨_, ho, _⟩ := hT; Heap.lt_size ho
    have hil : its.length = ns.length := by have := rv.length; rw [List.length_map] at this; exact this.symm
    refine call_enum_tup hT fun h1 he hj hk => ?_
    refine Calls.spliced_nil ?_
    have hT1 : h1.IsTuple t its.toArray := by
      obtain ⟨o, ho, r⟩ := hT
      exact ⟨o, hk _ _ ho, r⟩
    rw [List.length_map] at hz
    refine en_list (s := { s1 with heap := h1 }) (its := its.toArray) (I.ok.hd hc) he hj hT1 (Nat.succ_ne_self _) (Nat.ne_of_lt (Nat.lt_succ_of_lt htl)) (Nat.ne_of_lt htl) (by rw [List.size_toArray, hil]; exact hz) fun h2 tk acc c as hk2 hS hal hG hacc => ?_
    dsimp only at hk2 hS hG
    rw [List.size_toArray] at hal
    have hk3 : ∀ b o, s1.heap.get? b = some o → h2.get? b = some o := fun b o e => hk2 b o (Nat.ne_of_lt (Nat.lt_succ_of_lt (Heap.lt_size e))) (Nat.ne_of_lt (Heap.lt_size e)) (hk b o e)
    have hsz : s1.heap.objs.size ≤ h1.objs.size := Nat.le_of_lt (Nat.lt_of_le_of_lt (Nat.le_succ _) (Heap.lt_size he))
    have noneS : s1.heap.get? h1.objs.size = none := Heap.get?_none_of_le hsz
    have noneA : ∀ b ∈ as, s1.heap.get? b = none := fun b hb => Heap.get?_none_of_le (Nat.le_of_lt (Nat.lt_of_le_of_lt hsz (hG.up b hb)))
    generalize hL : ((h1.objs.size, HO.lst (as.map V.ref)) :: as.zip ((iv (enm 0 ns)).map tI)) = L
    have ivl : (iv (enm 0 ns)).length = as.length := by rw [hal, List.length_map, enm_len, hil]
    have zkeys : (as.zip ((iv (enm 0 ns)).map tI)).map (·.1) = as := by rw [← List.unzip_fst, List.unzip_zip (by rw [List.length_map, ivl])]
    have asnd : as.Nodup := by
      refine List.pairwise_iff_getElem.2 fun i j hi hj hij e => ?_
      obtain ⟨t1, x1, _, e1⟩ := hG.pr i _ (List.getElem?_eq_getElem hi)
      obtain ⟨t2, x2, _, e2⟩ := hG.pr j _ (List.getElem?_eq_getElem hj)
      rw [e, e2] at e1
      injection e1 with e1
      injection e1 with _ _ e1 _
      injection e1 with e1 _
      have e1 := congrArg Array.toList e1
      injection e1 with e1 _
      injection e1 with e1 _
      omega
    have Lnone : ∀ p ∈ L, s1.heap.get? p.1 = none := fun p hpL => by
      rw [← hL] at hpL
      rcases List.mem_cons.1 hpL with rfl | hpL
      · exact noneS
      · exact noneA _ (by rw [← zkeys]; exact List.mem_map.2 ⟨p, hpL, rfl⟩)
    have Lnd : (L.map (·.1)).Nodup := by
      rw [← hL, List.map_cons, zkeys, List.nodup_cons]
      exact ⟨fun z => Nat.lt_irrefl _ (hG.up _ z), asnd⟩
    have S : Sub H1 (ovr H1 L) := ovr_old fun p hpL => I1.noneAt (Lnone p hpL)
    refine ⟨.ref h1.objs.size, ovr H1 L, I1.more hk3 S (fun b o ho hn => ?_), rfl, q _ _ S (I1.noneAt noneS) ⟨as, ?_, ⟨ivl.symm, fun i b x hb hx => ?_⟩⟩⟩
    · have hm := ovr_new ho hn
      refine ⟨Lnone _ hm, ?_⟩
      rw [← hL] at hm
      rcases List.mem_cons.1 hm with e | hm
      · cases e
        exact ⟨by rw [List.length_map, hal, hil]; exact hz, as.map Value.ref, c, vals_ref as, by rw [← hacc]; exact hS⟩
      · obtain ⟨i, hi⟩ := List.mem_iff_getElem?.1 hm
        rw [List.getElem?_zip_eq_some] at hi
        obtain ⟨hb, hx⟩ := hi
        rw [List.getElem?_map] at hx
        obtain ⟨qv, hqv, rfl⟩ := Option.map_eq_some_iff.1 hx
        rw [List.getElem?_map, enm_at] at hqv
        obtain ⟨qn, hqn, rfl⟩ := Option.map_eq_some_iff.1 hqv
        obtain ⟨n, hn', rfl⟩ := Option.map_eq_some_iff.1 hqn
        obtain ⟨t', u, e1, e2⟩ := hG.pr i b hb
        obtain ⟨u', hu', ru⟩ := rv.get (x := V.int n) (i := i) (by rw [List.getElem?_map, hn']; rfl)
        rw [List.getElem?_toArray, hu'] at e1
        cases e1
        refine ⟨by show 2 ≤ sizeLine; decide, [.int i t', u], .cons ⟨t', ?_⟩ (.cons ru .nil), ⟨_, e2, rfl, _, rfl⟩⟩
        show Value.int (i : Int) t' = Value.int (0 + (i : Int)) t'
        rw [Int.zero_add]
    · refine ovr_at Lnd ?_
      rw [← hL]
      exact List.mem_cons_self
    · refine ovr_at Lnd ?_
      rw [← hL]
      refine List.mem_cons_of_mem _ (List.mem_of_getElem? (i := i) ?_)
      rw [List.getElem?_zip_eq_some]
      exact ⟨hb, by rw [List.getElem?_map, hx]; rfl⟩
end
end L2

end
section
/-! blocks: a machine in a block, by its row, its place and the block's signs -/
set_option autoImplicit true
set_option linter.all false
open PySem
namespace L2
abbrev Bs := Int × Int × List Int
def bent (m : Ma) (x : Bs) : Option En := (m[x.1.toNat]?).bind fun es => es[((x.2.2[x.2.1.toNat]?).getD 0).toNat]?
def insd (x : Bs) : Prop := 0 ≤ x.2.1 ∧ x.2.1 < x.2.2.length
instance insdDec (x : Bs) : Decidable (insd x) := inferInstanceAs (Decidable (_ ∧ _))
def bnx (x : Bs) (s w r : Int) : Bs := (r, x.2.1 + w, x.2.2.set x.2.1.toNat s)
inductive TRes where
  | out (b : List Int) (r side k : Int)
  | fin (b : List Int) (r p k : Int)
  | stay
inductive Thr (m : Ma) : List Bs → Bs → Int → TRes → Prop
  | out {seen : List Bs} {x : Bs} {k : Int} : ¬ insd x → Thr m seen x k (.out x.2.2 x.1 (if x.2.1 < 0 then -1 else 1) k)
  | stay {seen : List Bs} {x : Bs} {k : Int} : insd x → x ∈ seen → Thr m seen x k .stay
  | fin {seen : List Bs} {x : Bs} {k : Int} : insd x → x ∉ seen → bent m x = some [] → Thr m seen x k (.fin x.2.2 x.1 x.2.1 k)
  | step {seen : List Bs} {x : Bs} {k s w r : Int} {res : TRes} : insd x → x ∉ seen → bent m x = some [s, w, r] → Thr m (seen ++ [x]) (bnx x s w r) (k + 1) res → Thr m seen x k res
/-- what a block's state keeps to -/
structure OkB (m : Ma) (n : Nat) (x : Bs) : Prop where
  r0 : 0 ≤ x.1
  r1 : x.1 < m.length
  len : x.2.2.length = n
  sg : ∀ s ∈ x.2.2, 0 ≤ s ∧ s < sgn m
theorem OkB.nx {m : Ma} {n : Nat} {x : Bs} {s w r : Int} (h : OkB m n x) (s0 : 0 ≤ s) (s1 : s < sgn m) (r0 : 0 ≤ r) (r1 : r < m.length) : OkB m n (bnx x s w r) :=
  ⟨r0, r1, by show (x.2.2.set _ s).length = n; rw [List.length_set]; exact h.len, fun q hq => by
    rcases List.mem_or_eq_of_mem_set hq with z | rfl
    · exact h.sg q z
    · exact ⟨s0, s1⟩⟩
theorem OkB.val {m : Ma} {n : Nat} {x : Bs} (M : OkM m) (h : OkB m n x) (hi : insd x) : ∃ s, x.2.2[x.2.1.toNat]? = some s ∧ 0 ≤ s ∧ s < sgn m := by
  have hl : x.2.1.toNat < x.2.2.length := by have := hi.1; have := hi.2; omega
  exact ⟨_, List.getElem?_eq_getElem hl, h.sg _ (List.getElem_mem hl)⟩
theorem OkB.at {m : Ma} {n : Nat} {x : Bs} (M : OkM m) (h : OkB m n x) (hi : insd x) : ∃ es s e, m[x.1.toNat]? = some es ∧ x.2.2[x.2.1.toNat]? = some s ∧ 0 ≤ s ∧ es[s.toNat]? = some e ∧ bent m x = some e ∧ entryOk m.length (sgn m) e = true ∧ es.length = sgn m ∧ s < sgn m := by
  obtain ⟨s, hs, s0, s1⟩ := h.val M hi
  have hr : x.1.toNat < m.length := by have := h.r0; have := h.r1; omega
  have he : m[x.1.toNat]? = some m[x.1.toNat] := List.getElem?_eq_getElem hr
  have hm : m[x.1.toNat] ∈ m := List.getElem_mem hr
  have hl := M.len _ hm
  have hs2 : s.toNat < m[x.1.toNat].length := by rw [hl]; omega
  refine ⟨_, s, _, he, hs, s0, List.getElem?_eq_getElem hs2, ?_, M.ent _ hm _ (List.getElem_mem hs2), hl, s1⟩
  unfold bent
  rw [he, Option.bind_some, hs, Option.getD_some, List.getElem?_eq_getElem hs2]
/-! how many there can be -/
def cod : List Int → Nat
  | [] => 0
  | s :: r => s.toNat + 4 * cod r
theorem cod_lt : ∀ {l : List Int}, (∀ s ∈ l, 0 ≤ s ∧ s < 4) → cod l < 4 ^ l.length
  | [], _ => by simp [cod]
  | s :: l, h => by
    have h1 := h s (by simp)
    have h2 := cod_lt (l := l) fun q hq => h q (by simp [hq])
    rw [cod, List.length_cons, Nat.pow_succ]
    omega
theorem cod_inj : ∀ {l l' : List Int}, (∀ s ∈ l, 0 ≤ s ∧ s < 4) → (∀ s ∈ l', 0 ≤ s ∧ s < 4) → l.length = l'.length → cod l = cod l' → l = l'
  | [], [], _, _, _, _ => rfl
  | [], _ :: _, _, _, h, _ => by simp at h
  | _ :: _, [], _, _, h, _ => by simp at h
  | s :: l, s' :: l', h, h', hl, e => by
    have h1 := h s (by simp)
    have h2 := h' s' (by simp)
    rw [cod, cod] at e
    have e1 : s.toNat = s'.toNat := by omega
    have e2 : cod l = cod l' := by omega
    rw [cod_inj (fun q hq => h q (by simp [hq])) (fun q hq => h' q (by simp [hq])) (by simpa using hl) e2, show s = s' by omega]
def codB (x : Bs) : Nat := x.1.toNat + 4 * (x.2.1.toNat + 4 * cod x.2.2)
theorem pig : ∀ (n : Nat) (l : List Nat), l.Nodup → (∀ x ∈ l, x < n) → l.length ≤ n
  | 0, [], _, _ => Nat.le_refl _
  | 0, x :: _, _, h => absurd (h x (by simp)) (Nat.not_lt_zero _)
  | n + 1, l, nd, h => by
    by_cases c : n ∈ l
    · have := pig n (l.erase n) (nd.erase n) fun x hx => by
        have h1 := h x (List.mem_of_mem_erase hx)
        have h2 : x ≠ n := fun e => by
          rw [e] at hx
          exact (List.Nodup.mem_erase_iff nd).1 hx |>.1 rfl
        omega
      rw [List.length_erase_of_mem c] at this
      omega
    · have := pig n l nd fun x hx => by
        have h1 := h x hx
        have h2 : x ≠ n := fun e => c (e ▸ hx)
        omega
      omega
theorem seen_le {m : Ma} {n : Nat} (M : OkM m) (hn : n ≤ 4) {seen : List Bs} (nd : seen.Nodup) (h : ∀ x ∈ seen, OkB m n x ∧ insd x) : seen.length ≤ 4096 := by
  have hs4 := M.s4
  have hn4 := M.n4
  have b4 : ∀ x ∈ seen, ∀ s ∈ x.2.2, 0 ≤ s ∧ s < 4 := fun x hx s hs => by have := (h x hx).1.sg s hs; omega
  have := pig 4096 (seen.map codB) ?_ ?_
  · rwa [List.length_map] at this
  · refine List.pairwise_map.2 (nd.imp_of_mem fun {x y} hx hy ne e => ne ?_)
    obtain ⟨ox, ix⟩ := h x hx
    obtain ⟨oy, iy⟩ := h y hy
    have a1 := ox.r0; have a2 := ox.r1; have a3 := oy.r0; have a4 := oy.r1
    have c1 := ix.1; have c2 := ix.2; have c3 := iy.1; have c4 := iy.2
    have l1 := ox.len; have l2 := oy.len
    unfold codB at e
    have e1 : x.1 = y.1 := by omega
    have e2 : x.2.1 = y.2.1 := by omega
    have e3 : cod x.2.2 = cod y.2.2 := by omega
    exact Prod.ext e1 (Prod.ext e2 (cod_inj (b4 x hx) (b4 y hy) (l1.trans l2.symm) e3))
  · intro c hc
    obtain ⟨x, hx, rfl⟩ := List.mem_map.1 hc
    obtain ⟨ox, ix⟩ := h x hx
    have a1 := ox.r0; have a2 := ox.r1; have c1 := ix.1; have c2 := ix.2; have l1 := ox.len
    have := cod_lt (b4 x hx)
    have h4 : 4 ^ x.2.2.length ≤ 4 ^ 4 := Nat.pow_le_pow_right (by decide) (by omega)
    unfold codB
    omega
/-! keys -/
def keyB (x : Bs) : NK := .tup [.int x.1, .int x.2.1, .tup (x.2.2.map NK.int)]
theorem keyB_inj {x y : Bs} (h : keyB x = keyB y) : x = y := by
  unfold keyB at h
  injection h with h
  injection h with h1 h
  injection h with h2 h
  injection h with h3 _
  injection h1 with h1
  injection h2 with h2
  injection h3 with h3
  have : ∀ (A B : List Int), A.map NK.int = B.map NK.int → A = B := by
    intro A
    induction A with
    | nil => intro B hB; cases B with
      | nil => rfl
      | cons b B => cases hB
    | cons a A ih => intro B hB; cases B with
      | nil => cases hB
      | cons b B =>
        rw [List.map_cons, List.map_cons] at hB
        injection hB with e1 e2
        injection e1 with e1
        rw [ih B e2, e1]
  exact Prod.ext h1 (Prod.ext h2 (this _ _ h3))
theorem depL_ints : ∀ A : List Int, NK.depL (A.map NK.int) ≤ 0
  | [] => by rw [List.map_nil, NK.depL]; omega
  | q :: A => by
    rw [List.map_cons, NK.depL]
    have := depL_ints A
    simp only [NK.dep]
    omega
theorem keyB_dep (x : Bs) : (keyB x).dep ≤ 7 := by
  have := depL_ints x.2.2
  unfold keyB
  simp only [NK.dep, NK.depL]
  omega
theorem denN_ints {H : Hp} : ∀ {ns : List Int}, DenNs H (ns.map NK.int) (ns.map V.int)
  | [] => by rw [List.map_nil, List.map_nil, DenNs]
  | n :: ns => by
    rw [List.map_cons, List.map_cons, DenNs]
    exact ⟨_, _, rfl, by rw [DenN], denN_ints⟩
theorem denN_key {H : Hp} {p q : Addr} {x : Bs} (h : H p = some (.tup [.int x.1, .int x.2.1, .ref q])) (hq : H q = some (.tup (x.2.2.map V.int))) : DenN H (keyB x) (.ref p) := by
  unfold keyB
  rw [DenN]
  refine ⟨p, _, rfl, h, ?_⟩
  rw [DenNs]
  refine ⟨_, _, rfl, by rw [DenN], ?_⟩
  rw [DenNs]
  refine ⟨_, _, rfl, by rw [DenN], ?_⟩
  rw [DenNs]
  refine ⟨_, _, rfl, ?_, by rw [DenNs]⟩
  rw [DenN]
  exact ⟨q, _, rfl, hq, denN_ints⟩
/-- a dict by nested tuples where just objects that are neither it nor tuples change -/
theorem DNx.keep {H H' : Hp} {d : Addr} {kvs : List (NK × Addr × V)} (hd : ∀ u, H d = some u → H' d = some u) (kp : ∀ a xs, H a = some (.tup xs) → H' a = some (.tup xs)) (h : DNx H d kvs) : DNx H' d kvs :=
  ⟨h.ex.imp fun _ z => ⟨hd _ z.1, z.2⟩, fun q hq => ⟨(h.ks q hq).1, DenN.mono kp 7 _ _ (h.ks q hq).1 (h.ks q hq).2⟩, h.nd, h.sz, h.sm⟩
/-! the signs of a block on a strip -/
def sgs (ks : Mk2) (n : Nat) : List Int := (List.range n).map fun (i : Nat) => (valI ks (i : Int)).getD 0
theorem sgs_len (ks : Mk2) (n : Nat) : (sgs ks n).length = n := by unfold sgs; rw [List.length_map, List.length_range]
theorem sgs_at {ks : Mk2} {n i : Nat} (hi : i < n) : (sgs ks n)[i]? = some ((valI ks (i : Int)).getD 0) := by
  unfold sgs
  rw [List.getElem?_map, List.getElem?_range hi]
  rfl
theorem put_other {ks : Mk2} {p q s : Int} (h : q ≠ p) : valI (putI ks p s) q = valI ks q := by
  unfold putI valI
  split
  · congr 1
    induction ks with
    | nil => rfl
    | cons a ks ih =>
      rename_i hx
      by_cases c : a.1 = p
      · have c' : a.1 ≠ q := fun e => h (e.symm.trans c)
        rw [List.map_cons, if_pos c, List.find?_cons_of_neg (by simpa using c'), List.find?_cons_of_neg (by simpa using c')]
        by_cases hk : (ks.any fun q => decide (q.1 = p)) = true
        · exact ih hk
        · have : ks.map (fun q => if q.1 = p then (q.1, s) else q) = ks := by
            rw [List.map_congr_left (g := id), List.map_id]
            intro b hb
            rw [if_neg]; · rfl
            intro e
            exact hk (List.any_eq_true.2 ⟨b, hb, by simpa using e⟩)
          rw [this]
      · rw [List.map_cons, if_neg c]
        have hk : (ks.any fun q => decide (q.1 = p)) = true := by simpa [c] using hx
        by_cases c2 : a.1 = q
        · rw [List.find?_cons_of_pos (by simpa using c2), List.find?_cons_of_pos (by simpa using c2)]
        · rw [List.find?_cons_of_neg (by simpa using c2), List.find?_cons_of_neg (by simpa using c2)]
          exact ih hk
  · rw [List.find?_append]
    cases ks.find? fun q' => decide (q'.1 = q) with
    | some v => rfl
    | none => rw [Option.none_or, List.find?_cons_of_neg (by simpa using h.symm)]; rfl
theorem drop_other {ks : Mk2} {p q : Int} (h : q ≠ p) : valI (dropI ks p) q = valI ks q := by
  unfold dropI valI
  congr 1
  induction ks with
  | nil => rfl
  | cons a ks ih =>
    by_cases c : a.1 = p
    · have c' : a.1 ≠ q := fun e => h (e.symm.trans c)
      rw [List.filter_cons_of_neg (by simpa using c), List.find?_cons_of_neg (by simpa using c')]
      exact ih
    · rw [List.filter_cons_of_pos (by simpa using c)]
      by_cases c2 : a.1 = q
      · rw [List.find?_cons_of_pos (by simpa using c2), List.find?_cons_of_pos (by simpa using c2)]
      · rw [List.find?_cons_of_neg (by simpa using c2), List.find?_cons_of_neg (by simpa using c2)]
        exact ih
theorem nxt_val (ks : Mk2) (p q s : Int) : (valI (nxt ks p s) q).getD 0 = if q = p then s else (valI ks q).getD 0 := by
  unfold nxt
  by_cases c : q = p
  · subst c
    rw [if_pos rfl]
    split
    · rename_i e; rw [drop_val, e]; rfl
    · rw [put_val]; rfl
  · rw [if_neg c]
    split
    · rw [drop_other c]
    · rw [put_other c]
theorem sgs_nxt {ks : Mk2} {n : Nat} {p s : Int} (h0 : 0 ≤ p) : sgs (nxt ks p s) n = (sgs ks n).set p.toNat s := by
  refine List.ext_getElem? fun i => ?_
  rw [List.getElem?_set]
  by_cases hi : i < n
  · rw [sgs_at hi, nxt_val]
    by_cases c : p.toNat = i
    · rw [if_pos (by omega), if_pos c, if_pos (by rw [sgs_len]; omega)]
    · rw [if_neg (by omega), if_neg c, sgs_at hi]
  · have h1 : (sgs (nxt ks p s) n)[i]? = none := List.getElem?_eq_none (by rw [sgs_len]; omega)
    have h2 : (sgs ks n)[i]? = none := List.getElem?_eq_none (by rw [sgs_len]; omega)
    rw [h1, h2]
    split
    · rw [if_neg (by rw [sgs_len]; omega)]
    · rfl
theorem bent_ent {m : Ma} {ks : Mk2} {n : Nat} {r p : Int} (h0 : 0 ≤ p) (h1 : p < n) : bent m (r, p, sgs ks n) = ent m r p ks := by
  unfold bent ent
  show ((m[r.toNat]?).bind fun es => es[(((sgs ks n)[p.toNat]?).getD 0).toNat]?) = _
  rw [sgs_at (by omega), show ((p.toNat : Nat) : Int) = p by omega]
  rfl
theorem enm_keys : ∀ (ns : List Int) (k : Int), (∀ q ∈ (enm k ns).map (·.1), k ≤ q) ∧ ((enm k ns).map (·.1)).Nodup
  | [], _ => ⟨by simp [enm], by simp [enm]⟩
  | n :: ns, k => by
    obtain ⟨h1, h2⟩ := enm_keys ns (k + 1)
    rw [enm, List.map_cons]
    refine ⟨fun q hq => ?_, List.nodup_cons.2 ⟨fun hk => ?_, h2⟩⟩
    · rcases List.mem_cons.1 hq with rfl | hq
      · exact Int.le_refl _
      · have := h1 q hq; omega
    · have := h1 _ hk
      have : k + 1 ≤ k := this
      omega
theorem enm_val : ∀ (ns : List Int) (k : Int) (i : Nat), valI (enm k ns) (k + i) = ns[i]?
  | [], _, i => by simp [enm, valI]
  | n :: ns, k, 0 => by simp [enm, valI]
  | n :: ns, k, i + 1 => by
    have := enm_val ns (k + 1) i
    rw [enm, List.getElem?_cons_succ, ← this]
    unfold valI
    rw [List.find?_cons_of_neg (by show ¬ (decide (k = k + ((i + 1 : Nat) : Int))) = true; rw [decide_eq_true_iff]; omega), show k + ((i + 1 : Nat) : Int) = k + 1 + (i : Int) by omega]
theorem sgs_enm (ns : List Int) : sgs (enm 0 ns) ns.length = ns := by
  refine List.ext_getElem? fun i => ?_
  by_cases hi : i < ns.length
  · rw [sgs_at hi]
    have := enm_val ns 0 i
    rw [Int.zero_add] at this
    rw [this, List.getElem?_eq_getElem hi]
    rfl
  · rw [List.getElem?_eq_none (by rw [sgs_len]; omega), List.getElem?_eq_none (by omega)]
theorem enm_mem {ns : List Int} {k : Int} {q : Int × Int} (h : q ∈ enm k ns) : q.2 ∈ ns := by
  obtain ⟨i, hi⟩ := List.mem_iff_getElem?.1 h
  rw [enm_at] at hi
  obtain ⟨n, hn, rfl⟩ := Option.map_eq_some_iff.1 hi
  exact List.mem_of_getElem? hn
/-! what is told -/
def dTR : TRes → DD
  | .out b r side k => .tup [.str "out", .tup (b.map DD.int), .int r, .int side, .int k]
  | .fin b r p k => .tup [.str "end", .tup (b.map DD.int), .int r, .int p, .int k]
  | .stay => .tup [.str "stay"]
def TRat (H : Hp) (t : Addr) : TRes → Prop
  | .out b r side k => ∃ q, H t = some (.tup [.str "out", .ref q, .int r, .int side, .int k]) ∧ H q = some (.tup (b.map V.int))
  | .fin b r p k => ∃ q, H t = some (.tup [.str "end", .ref q, .int r, .int p, .int k]) ∧ H q = some (.tup (b.map V.int))
  | .stay => H t = some (.tup [.str "stay"])
theorem TRat.sub {H H' : Hp} {t : Addr} (S : Sub H H') : ∀ {res : TRes}, TRat H t res → TRat H' t res
  | .out .., ⟨q, h1, h2⟩ => ⟨q, S _ _ h1, S _ _ h2⟩
  | .fin .., ⟨q, h1, h2⟩ => ⟨q, S _ _ h1, S _ _ h2⟩
  | .stay, h => S _ _ h
theorem TRat.den {H : Hp} {t : Addr} : ∀ {res : TRes}, TRat H t res → Den H (.ref t) (dTR res)
  | .out b r s k, ⟨q, h1, h2⟩ => by
    rw [dTR, Den]
    refine ⟨_, _, rfl, h1, ?_⟩
    rw [Dens]
    refine ⟨_, _, rfl, by rw [Den], ?_⟩
    rw [Dens]
    refine ⟨_, _, rfl, by rw [Den]; exact ⟨_, _, rfl, h2, Dens.ints⟩, ?_⟩
    rw [Dens]
    refine ⟨_, _, rfl, by rw [Den], ?_⟩
    rw [Dens]
    refine ⟨_, _, rfl, by rw [Den], ?_⟩
    rw [Dens]
    exact ⟨_, _, rfl, by rw [Den], by rw [Dens]⟩
  | .fin b r s k, ⟨q, h1, h2⟩ => by
    rw [dTR, Den]
    refine ⟨_, _, rfl, h1, ?_⟩
    rw [Dens]
    refine ⟨_, _, rfl, by rw [Den], ?_⟩
    rw [Dens]
    refine ⟨_, _, rfl, by rw [Den]; exact ⟨_, _, rfl, h2, Dens.ints⟩, ?_⟩
    rw [Dens]
    refine ⟨_, _, rfl, by rw [Den], ?_⟩
    rw [Dens]
    refine ⟨_, _, rfl, by rw [Den], ?_⟩
    rw [Dens]
    exact ⟨_, _, rfl, by rw [Den], by rw [Dens]⟩
  | .stay, h => by
    rw [dTR, Den]
    refine ⟨_, _, rfl, h, ?_⟩
    rw [Dens]
    exact ⟨_, _, rfl, by rw [Den], by rw [Dens]⟩
theorem dep_ints (b : List Int) : dep (.tup (b.map DD.int)) ≤ 2 := by
  rw [dep]
  have : depL (b.map DD.int) ≤ 0 := depL_leK fun d hd => by
    obtain ⟨n, _, rfl⟩ := List.mem_map.1 hd
    exact Nat.le_refl 0
  omega
theorem dep_five (w : Str) (b : List Int) (x y z : Int) : dep (.tup [.str w, .tup (b.map DD.int), .int x, .int y, .int z]) ≤ 60 := by
  have h2 := dep_ints b
  rw [dep]
  have : depL [DD.str w, .tup (b.map DD.int), .int x, .int y, .int z] ≤ 2 := depL_leK fun d hd => by
    simp only [List.mem_cons, List.not_mem_nil, or_false] at hd
    rcases hd with rfl | rfl | rfl | rfl | rfl
    · exact Nat.zero_le _
    · exact h2
    · exact Nat.zero_le _
    · exact Nat.zero_le _
    · exact Nat.zero_le _
  omega
theorem dep_dTR : ∀ res : TRes, dep (dTR res) ≤ 60
  | .out b r s k => dep_five _ b r s k
  | .fin b r s k => dep_five _ b r s k
  | .stay => by
    rw [dTR, dep]
    have : depL [DD.str "stay"] ≤ 0 := depL_leK fun d hd => by
      rw [List.mem_singleton.1 hd]
      exact Nat.le_refl 0
    omega
theorem Thr.ok {m : Ma} (M : OkM m) {n : Nat} {seen : List Bs} {x : Bs} {k : Int} {res : TRes} (h : Thr m seen x k res) : OkB m n x → ∀ b r s k', res = .out b r s k' ∨ res = .fin b r s k' → b.length = n ∧ (∀ s ∈ b, 0 ≤ s ∧ s < sgn m) ∧ 0 ≤ r ∧ r < m.length := by
  induction h with
  | out h => intro hx b r s k' e; rcases e with e | e <;> cases e; exact ⟨hx.len, hx.sg, hx.r0, hx.r1⟩
  | stay h hs => intro hx b r s k' e; rcases e with e | e <;> cases e
  | fin h hs he => intro hx b r s k' e; rcases e with e | e <;> cases e; exact ⟨hx.len, hx.sg, hx.r0, hx.r1⟩
  | step h hs he _ ih =>
    intro hx
    obtain ⟨_, _, e, _, _, _, _, q5, q6, _, _⟩ := hx.at M h
    rw [he] at q5
    cases q5
    obtain ⟨s2, w2, r2, e2, a0, a1, a2, a3, a4⟩ := entryOk_three q6 (by simp)
    cases e2
    exact ih (hx.nx a0 a1 a3 a4)
end L2

end
section
set_option Elab.async false
set_option linter.all false
set_option maxRecDepth 100000
set_option maxHeartbeats 4000000
namespace L2
open PySem PySem.Spec PyProof.Rows PySem.W
/-! ### dicts that stand still from their making on -/
section
variable {X : Cx}
end
/-! ### the keys of a still dict, one by one -/
section
variable {X : Cx}
end
/-! ### list(a dict of ints) -/
section
variable {X : Cx}
end
/-! ### a < b < c < d -/
section
variable {X : Cx} {a b c d : Expr} {ta tb tc td : TE} {pos : Pos}
end
end L2

end
section
/-! comprehensions of two and three clauses -/
set_option autoImplicit false
set_option linter.all false
open PySem PySem.Spec PyProof.Rows
namespace L2
section
variable {Y : Cx} {e tg iter : Expr} {d : Nat} {ifs : List Expr} {emit : Env → Addr → Sem Unit} {wi : TI} {g : TG} {tc : TT} {tm : TM}
end
section
variable {X : Cx} {sc : Scope} {own : List Str} {fr : List Nat} {elt tg iter tg2 iter2 tg3 iter3 : Expr} {ifs ifs2 ifs3 : List Expr} {wi wi2 wi3 : TI} {g g2 g3 : TG} {tc tc2 tc3 : TT} {te : TE} {pos : Pos}
end
end L2

end
section
set_option Elab.async false
set_option linter.all false
set_option maxRecDepth 100000
set_option maxHeartbeats 4000000
namespace L2
open PySem PySem.Spec PyProof.Rows PySem.W
/-! ### sorted(a dict of ints) -/
section
variable {X : Cx}
end
/-! ### for a, b in enumerate(a tuple) -/
section
variable {prog : Program} {w : World} {A : Around} {E : Value → Shared → Prop} {s : Shared}
end
section
variable {X : Cx} {K : PySem.W.Frag}
end
/-! forms one uses: the clauses behind the first -/
section
variable {K : PySem.W.Frag} {a : Addr} {xs : List V} {g : TG} {tc : TT} {tm : TM} {σ : St} {H : Hp} {p : Addr} {Q : Hp → Prop}
end
end L2

end
section
set_option Elab.async false
set_option linter.all false
set_option maxRecDepth 100000
set_option maxHeartbeats 4000000
namespace L2
open PySem PySem.Spec PyProof.Rows PySem.W
/-! ### a dict's entries, whatever its keys are -/
section
variable {prog : Program} {w : World} {A : Around} {E : Value → Shared → Prop} {s : Shared} {es : Array DictEntry} {ep : Nat}
end
section
variable {X : Cx} {pos : Pos}
/-- k in a list of nested tuples -/
def rInNL (neg : Bool) : R2 := fun x y H Q => ∃ b p k nks xs, x = .ref b ∧ y = .ref p ∧ k.dep ≤ 7 ∧ DenN H k (.ref b) ∧ H p = some (.lst xs) ∧ DenNs H nks xs ∧ NK.depL nks ≤ 7 ∧ Q (.bl (if neg then !decide (k ∈ nks) else decide (k ∈ nks))) H
theorem denNs_len {H : Hp} : ∀ {l : List NK} {vs : List V}, DenNs H l vs → vs.length = l.length
  | [], vs, h => by rw [DenNs] at h; rw [h]; rfl
  | _ :: l, vs, h => by rw [DenNs] at h; obtain ⟨u, us, rfl, _, h2⟩ := h; rw [List.length_cons, List.length_cons, denNs_len h2]
theorem denNs_at {H : Hp} : ∀ {l : List NK} {vs : List V} {i : Nat} {v : V}, DenNs H l vs → vs[i]? = some v → ∃ k, l[i]? = some k ∧ DenN H k v
  | [], vs, i, v, h, hv => by rw [DenNs] at h; rw [h] at hv; simp at hv
  | k :: l, vs, 0, v, h, hv => by rw [DenNs] at h; obtain ⟨u, us, rfl, h1, h2⟩ := h; cases hv; exact ⟨k, rfl, h1⟩
  | k :: l, vs, i + 1, v, h, hv => by rw [DenNs] at h; obtain ⟨u, us, rfl, h1, h2⟩ := h; exact denNs_at (l := l) (i := i) h2 (by simpa using hv)
theorem inNL_ok {r : Nat} (hr : Room r X.A) {pins : List (Addr × Obj)} {σ : St} {H : Hp} {s : Shared} {b p : Addr} {k : NK} {nks : List NK} {xs : List V} (I : Inv X pins σ H s) (hk : k.dep ≤ 7) (hb : DenN H k (.ref b)) (hp : H p = some (.lst xs)) (hA : DenNs H nks xs) (hd : NK.depL nks ≤ 7) :
    ∃ (its : List Value) (f : Value → Bool), s.heap.IsList p its.toArray ∧ (∀ y, y ∈ its.toArray → SeqAt.EqAt X.A.in1 s y (.ref b) (f y)) ∧ its.toArray.any f = decide (k ∈ nks) := by
  obtain ⟨its, rv, pl, hz⟩ := I.list (.inl (.inl hp))
  have kb : IsN s.heap k (.ref b) := isN_of I 7 k _ _ hk hb rfl
  have at_ : ∀ (i : Nat) (u : Value), its[i]? = some u → ∃ n, nks[i]? = some n ∧ n.dep ≤ 7 ∧ IsN s.heap n u := fun i u hu => by
    have hil : i < xs.length := by rw [rv.length]; exact (List.getElem?_eq_some_iff.1 hu).1
    obtain ⟨u', hu', ru⟩ := rv.get (List.getElem?_eq_getElem hil)
    rw [hu] at hu'
    cases hu'
    obtain ⟨n, hn, hdn⟩ := denNs_at hA (List.getElem?_eq_getElem hil)
    have hn7 := depL_at hd hn
    exact ⟨n, hn, hn7, isN_of I 7 n _ _ hn7 hdn ru⟩
  refine ⟨its, fun u => @decide (IsN s.heap k u) (Classical.propDecidable _), pl.isList, fun y hy => ?_, ?_⟩
  · obtain ⟨i, hi⟩ := List.getElem?_of_mem (show y ∈ its by simpa using hy)
    obtain ⟨n, hn, hn7, hny⟩ := at_ i y hi
    have := eq_n (s := s) 8 n k X.A.in1 y (.ref b) (Nat.le_trans hn7 (by decide)) (by show X.A.units + 1 + 8 < cLine; have := hr.units; omega) hny kb
    have he : decide (n = k) = @decide (IsN s.heap k y) (Classical.propDecidable _) := by
      by_cases c : n = k
      · subst c
        rw [decide_eq_true rfl]
        exact (@decide_eq_true _ (Classical.propDecidable _) hny).symm
      · rw [decide_eq_false c]
        exact (@decide_eq_false _ (Classical.propDecidable _) fun z => c (isN_inj 7 n k y hn7 hny z)).symm
    show SeqAt.EqAt _ _ _ _ (@decide (IsN s.heap k y) (Classical.propDecidable _))
    rw [← he]
    exact this
  · rw [List.any_toArray]
    by_cases c : k ∈ nks
    · rw [decide_eq_true c, List.any_eq_true]
      obtain ⟨i, hi⟩ := List.getElem?_of_mem c
      have hil : i < its.length := by rw [← rv.length, denNs_len hA]; exact (List.getElem?_eq_some_iff.1 hi).1
      obtain ⟨n, hn, _, hny⟩ := at_ i _ (List.getElem?_eq_getElem hil)
      rw [hi] at hn
      cases hn
      exact ⟨_, List.getElem_mem hil, @decide_eq_true _ (Classical.propDecidable _) hny⟩
    · rw [decide_eq_false c, List.any_eq_false]
      intro u hu hz'
      have hz' := @of_decide_eq_true _ (Classical.propDecidable _) hz'
      obtain ⟨i, hi⟩ := List.getElem?_of_mem hu
      obtain ⟨n, hn, hn7, hny⟩ := at_ i u hi
      have := isN_inj 7 n k u hn7 hny hz'
      subst this
      exact c (List.mem_of_getElem? hn)
theorem op_notInNL {r : Nat} (hr : Room r X.A) : OpR X (compareOp .NotIn) (rInNL true) := by
  intro pins s σ H x y v u Q I rx ry h
  obtain ⟨b, p, k, nks, xs, rfl, rfl, hk, hb, hp, hA, hd, q⟩ := h
  cases rx
  cases ry
  obtain ⟨its, f, h1, h2, h3⟩ := inNL_ok hr I hk hb hp hA hd
  refine SeqAt.notIn_listAt f h1 h2 ⟨.bl _, H, I, rfl, ?_⟩
  rw [h3]
  exact q
/-! min and max of a dict of ints -/
end
end L2

end
section
set_option Elab.async false
set_option linter.all false
set_option maxRecDepth 100000
set_option maxHeartbeats 4000000
namespace PySem
end PySem
namespace L2
open PySem PySem.Spec PyProof.Rows PySem.W HT
section
variable {X : Cx} {K : PySem.W.Frag}
end
end L2

end
section
/-! walks by blocks: a dict of blocks, what is told -/
set_option autoImplicit true
set_option linter.all false
open PySem PySem.Spec PyProof.Rows
namespace L2
abbrev Bk := List (Int × List Int)
/-! what is told of a walk by blocks -/
def near (k : Nat) (side : Int) : Int := if side = -1 then 0 else (k : Int) - 1
section
variable {X : Cx} {pos : Pos}
end
end L2

end
section
/-! walks by blocks are walks -/
set_option autoImplicit true
set_option linter.all false
open PySem
namespace L2
/-! the strip of blocks -/
theorem near_in {k : Nat} (hk : 0 < k) (side : Int) : 0 ≤ near k side ∧ near k side < k := by unfold near; split <;> omega
/-! counts -/
/-! the strip told -/
/-! walks over a dict that keeps its zeros -/
end L2

end
section
/-! a block gone through by halves, and from the other side -/
set_option autoImplicit true
set_option linter.all false
open PySem
namespace L2
def bst (m : Ma) (x : Bs) : Option Bs := if insd x then (match bent m x with | some [s, w, r] => some (bnx x s w r) | _ => none) else none
def bit (m : Ma) : Nat → Bs → Option Bs
  | 0, x => some x
  | n + 1, x => (bst m x).bind (bit m n)
theorem bst_some {m : Ma} {x y : Bs} (h : bst m x = some y) : insd x ∧ ∃ s w r, bent m x = some [s, w, r] ∧ y = bnx x s w r := by
  unfold bst at h
  split at h
  · rename_i hi
    split at h
    · rename_i s w r he
      exact ⟨hi, s, w, r, he, (Option.some.inj h).symm⟩
    · cases h
  · cases h
theorem bst_step {m : Ma} {x : Bs} {s w r : Int} (hi : insd x) (he : bent m x = some [s, w, r]) : bst m x = some (bnx x s w r) := by
  unfold bst; rw [if_pos hi, he]
theorem bst_end {m : Ma} {x : Bs} (he : bent m x = some []) : bst m x = none := by
  unfold bst; split
  · rw [he]
  · rfl
theorem bst_out {m : Ma} {x : Bs} (h : ¬ insd x) : bst m x = none := by unfold bst; rw [if_neg h]
theorem bit_add (m : Ma) : ∀ (a b : Nat) (x y : Bs), bit m a x = some y → bit m (a + b) x = bit m b y
  | 0, b, x, y, h => by rw [bit] at h; cases h; rw [Nat.zero_add]
  | a + 1, b, x, y, h => by
    rw [bit] at h
    rw [show a + 1 + b = (a + b) + 1 by omega, bit]
    cases e : bst m x with
    | none => rw [e] at h; cases h
    | some z => rw [e] at h; exact bit_add m a b z y h
theorem bit_lt {m : Ma} : ∀ {a b : Nat} {x : Bs}, a < b → bit m b x ≠ none → ∃ y, bit m a x = some y ∧ insd y
  | a, 0, x, h, _ => by omega
  | 0, b + 1, x, h, hb => by
    rw [bit] at hb
    cases e : bst m x with
    | none => rw [e] at hb; exact (hb rfl).elim
    | some z => exact ⟨x, rfl, (bst_some e).1⟩
  | a + 1, b + 1, x, h, hb => by
    rw [bit] at hb ⊢
    cases e : bst m x with
    | none => rw [e] at hb; exact (hb rfl).elim
    | some z => rw [e] at hb; exact bit_lt (a := a) (b := b) (x := z) (by omega) hb
theorem bit_end {m : Ma} {n n' : Nat} {x y y' : Bs} (h : bit m n x = some y) (t : bst m y = none) (h' : bit m n' x = some y') (t' : bst m y' = none) : n = n' ∧ y = y' := by
  have key : ∀ {a b : Nat} {u v : Bs}, bit m a x = some u → bst m u = none → bit m b x = some v → ¬ a < b := by
    intro a b u v ha hu hb hlt
    obtain ⟨d, rfl⟩ : ∃ d, b = a + (d + 1) := ⟨b - a - 1, by omega⟩
    rw [bit_add m a (d + 1) x u ha, bit, hu] at hb
    cases hb
  have e : n = n' := by have := key h t h'; have := key h' t' h; omega
  subst e
  rw [h] at h'
  exact ⟨rfl, Option.some.inj h'⟩
theorem bit_loop {m : Ma} {x : Bs} {j : Nat} (hj : 1 ≤ j) (h : bit m j x = some x) : ∀ n, ∃ y, bit m n x = some y ∧ insd y := by
  intro n
  induction n using Nat.strongRecOn with
  | _ n ih =>
    by_cases c : n < j
    · exact bit_lt c (by rw [h]; exact Option.some_ne_none _)
    · obtain ⟨d, rfl⟩ : ∃ d, n = j + d := ⟨n - j, by omega⟩
      rw [bit_add m j d x x h]
      exact ih d (by omega)
/-- what a way through a block comes to -/
def BRes (m : Ma) (c : Int) (x : Bs) : TRes → Prop
  | .out b r s k => ∃ n y, bit m n x = some y ∧ ¬ insd y ∧ b = y.2.2 ∧ r = y.1 ∧ s = (if y.2.1 < 0 then -1 else 1) ∧ k = c + (n : Nat)
  | .fin b r p k => ∃ n y, bit m n x = some y ∧ insd y ∧ bent m y = some [] ∧ b = y.2.2 ∧ r = y.1 ∧ p = y.2.1 ∧ k = c + (n : Nat)
  | .stay => ∀ n, ∃ y, bit m n x = some y ∧ insd y
theorem BRes.back {m : Ma} {c : Int} {x : Bs} {s w r : Int} {res : TRes} (hi : insd x) (he : bent m x = some [s, w, r]) (h : BRes m (c + 1) (bnx x s w r) res) : BRes m c x res := by
  have hs : ∀ n, bit m (n + 1) x = bit m n (bnx x s w r) := fun n => by rw [bit, bst_step hi he]; rfl
  cases res with
  | out b r' s' k => obtain ⟨n, y, h1, h2, h3, h4, h5, h6⟩ := h; exact ⟨n + 1, y, by rw [hs]; exact h1, h2, h3, h4, h5, by omega⟩
  | fin b r' p k => obtain ⟨n, y, h1, h2, h3, h4, h5, h6, h7⟩ := h; exact ⟨n + 1, y, by rw [hs]; exact h1, h2, h3, h4, h5, h6, by omega⟩
  | stay => intro n; cases n with
    | zero => exact ⟨x, rfl, hi⟩
    | succ n => rw [hs]; exact h n
theorem Thr.sem {m : Ma} {seen : List Bs} {x : Bs} {c : Int} {res : TRes} (h : Thr m seen x c res) : (∀ z ∈ seen, ∃ j, 1 ≤ j ∧ bit m j z = some x) → BRes m c x res := by
  induction h with
  | out h => intro _; exact ⟨0, _, rfl, h, rfl, rfl, rfl, by omega⟩
  | stay hi hs => intro hz; obtain ⟨j, hj, hb⟩ := hz _ hs; exact bit_loop hj hb
  | fin hi _ he => intro _; exact ⟨0, _, rfl, hi, he, rfl, rfl, rfl, by omega⟩
  | step hi hn he _ ih =>
    intro hz
    refine BRes.back hi he (ih fun z hz' => ?_)
    rcases List.mem_append.1 hz' with hz' | hz'
    · obtain ⟨j, hj, hb⟩ := hz z hz'
      exact ⟨j + 1, by omega, by rw [bit_add m j 1 z _ hb, bit, bst_step hi he]; rfl⟩
    · rw [List.mem_singleton.1 hz']
      exact ⟨1, Nat.le_refl _, by rw [bit, bst_step hi he]; rfl⟩
theorem BRes.one {m : Ma} {c : Int} {x : Bs} {a b : TRes} (h : BRes m c x a) (h' : BRes m c x b) : a = b := by
  have no : ∀ {n : Nat} {y : Bs}, bit m n x = some y → bst m y = none → ¬ ∀ n, ∃ y, bit m n x = some y ∧ insd y := by
    intro n y h1 h2 h3
    obtain ⟨z, h4, _⟩ := h3 (n + 1)
    rw [bit_add m n 1 x y h1, bit, h2] at h4
    cases h4
  cases a with
  | out b1 r1 s1 k1 =>
    obtain ⟨n, y, h1, h2, h3, h4, h5, h6⟩ := h
    cases b with
    | out b2 r2 s2 k2 =>
      obtain ⟨n', y', g1, g2, g3, g4, g5, g6⟩ := h'
      obtain ⟨rfl, rfl⟩ := bit_end h1 (bst_out h2) g1 (bst_out g2)
      rw [h3, h4, h5, h6, g3, g4, g5, g6]
    | fin b2 r2 s2 k2 =>
      obtain ⟨n', y', g1, g2, g3, _⟩ := h'
      obtain ⟨rfl, rfl⟩ := bit_end h1 (bst_out h2) g1 (bst_end g3)
      exact (h2 g2).elim
    | stay => exact (no h1 (bst_out h2) h').elim
  | fin b1 r1 s1 k1 =>
    obtain ⟨n, y, h1, h2, h3, h4, h5, h6, h7⟩ := h
    cases b with
    | out b2 r2 s2 k2 =>
      obtain ⟨n', y', g1, g2, _⟩ := h'
      obtain ⟨rfl, rfl⟩ := bit_end h1 (bst_end h3) g1 (bst_out g2)
      exact (g2 h2).elim
    | fin b2 r2 s2 k2 =>
      obtain ⟨n', y', g1, g2, g3, g4, g5, g6, g7⟩ := h'
      obtain ⟨rfl, rfl⟩ := bit_end h1 (bst_end h3) g1 (bst_end g3)
      rw [h4, h5, h6, h7, g4, g5, g6, g7]
    | stay => exact (no h1 (bst_end h3) h').elim
  | stay =>
    cases b with
    | out b2 r2 s2 k2 => obtain ⟨n', y', g1, g2, _⟩ := h'; exact (no g1 (bst_out g2) h).elim
    | fin b2 r2 s2 k2 => obtain ⟨n', y', g1, g2, g3, _⟩ := h'; exact (no g1 (bst_end g3) h).elim
    | stay => rfl
/-! ### states keep to the block -/
theorem bit_leave {m : Ma} (M : OkM m) {L : Nat} : ∀ {n : Nat} {x y : Bs}, OkB m L x → insd x → bit m n x = some y → ¬ insd y → y.2.1 = -1 ∨ y.2.1 = L
  | 0, x, y, ok, hi, h, ho => by rw [bit] at h; cases h; exact (ho hi).elim
  | n + 1, x, y, ok, hi, h, ho => by
    rw [bit] at h
    cases e : bst m x with
    | none => rw [e] at h; cases h
    | some z =>
      rw [e] at h
      obtain ⟨_, s, w, r, he, rfl⟩ := bst_some e
      obtain ⟨es, sg, en, q1, q2, q3, q4, q5, q6, q7, q8⟩ := ok.at M hi
      rw [he] at q5
      cases q5
      obtain ⟨s', w', r', e', a0, a1, a2, a3, a4⟩ := entryOk_three q6 (by simp)
      cases e'
      have ok' := ok.nx (w := w) a0 a1 a3 a4
      by_cases c : insd (bnx x s w r)
      · exact bit_leave M (n := n) ok' c h ho
      · have h : bit m n (bnx x s w r) = some y := h
        cases n with
        | zero =>
          rw [bit] at h
          cases h
          have h1 := hi.1
          have h2 := hi.2
          have h3 := ok.len
          have h4 := ok'.len
          have h5 : (bnx x s w r).2.1 = x.2.1 + w := rfl
          unfold insd at c
          rw [h5] at c ⊢
          omega
        | succ n =>
          rw [bit, bst_out c] at h
          cases h
/-! ### halves -/
def wh (L : Int) (t : Int) (o : List Int) (x : Bs) : Bs := if t = 0 then (x.1, x.2.1, x.2.2 ++ o) else (x.1, L + x.2.1, o ++ x.2.2)
theorem wh_st {m : Ma} {L : Nat} {t : Int} {o : List Int} {x : Bs} (ho : o.length = L) (hx : x.2.2.length = L) (hi : insd x) : insd (wh L t o x) ∧ bent m (wh L t o x) = bent m x ∧ ∀ s w r, bnx (wh L t o x) s w r = wh L t o (bnx x s w r) := by
  have h1 := hi.1
  have h2 := hi.2
  unfold wh
  by_cases c : t = 0
  · rw [if_pos c]
    refine ⟨⟨h1, ?_⟩, ?_, fun s w r => ?_⟩
    · show x.2.1 < ((x.2.2 ++ o).length : Int)
      rw [List.length_append]; omega
    · show ((m[x.1.toNat]?).bind fun es => es[(((x.2.2 ++ o)[x.2.1.toNat]?).getD 0).toNat]?) = _
      rw [List.getElem?_append_left (by omega)]; rfl
    · rw [if_pos c]
      show (r, x.2.1 + w, (x.2.2 ++ o).set x.2.1.toNat s) = (r, x.2.1 + w, x.2.2.set x.2.1.toNat s ++ o)
      rw [List.set_append_left _ _ (by omega)]
  · rw [if_neg c]
    have hn : ((L : Int) + x.2.1).toNat = o.length + x.2.1.toNat := by omega
    refine ⟨⟨by show 0 ≤ (L : Int) + x.2.1; omega, ?_⟩, ?_, fun s w r => ?_⟩
    · show (L : Int) + x.2.1 < ((o ++ x.2.2).length : Int)
      rw [List.length_append]; omega
    · show ((m[x.1.toNat]?).bind fun es => es[(((o ++ x.2.2)[((L : Int) + x.2.1).toNat]?).getD 0).toNat]?) = _
      rw [hn, List.getElem?_append_right (by omega), Nat.add_sub_cancel_left]; rfl
    · rw [if_neg c]
      show (r, (L : Int) + x.2.1 + w, (o ++ x.2.2).set ((L : Int) + x.2.1).toNat s) = (r, (L : Int) + (x.2.1 + w), o ++ x.2.2.set x.2.1.toNat s)
      rw [hn, List.set_append_right _ _ (by omega), Nat.add_sub_cancel_left, Int.add_assoc]
theorem wh_bit {m : Ma} {L : Nat} {t : Int} {o : List Int} (ho : o.length = L) : ∀ {n : Nat} {x y : Bs}, x.2.2.length = L → bit m n x = some y → bit m n (wh L t o x) = some (wh L t o y) ∧ y.2.2.length = L
  | 0, x, y, hx, h => by rw [bit] at h; cases h; exact ⟨rfl, hx⟩
  | n + 1, x, y, hx, h => by
    rw [bit] at h
    cases e : bst m x with
    | none => rw [e] at h; cases h
    | some z =>
      rw [e] at h
      obtain ⟨hi, s, w, r, he, rfl⟩ := bst_some e
      obtain ⟨w1, w2, w3⟩ := wh_st (m := m) (t := t) ho hx hi
      have := wh_bit (m := m) (t := t) ho (n := n) (x := bnx x s w r) (y := y) (by show (x.2.2.set _ s).length = L; rw [List.length_set]; exact hx) h
      rw [bit, bst_step w1 (w2.trans he), w3]
      exact this
/-! ### from the other side -/
def mirB (x : Bs) : Bs := (x.1, (x.2.2.length : Int) - 1 - x.2.1, x.2.2.reverse)
theorem set_rev (l : List Int) (i : Nat) (s : Int) (h : i < l.length) : (l.set i s).reverse = l.reverse.set (l.length - 1 - i) s := by
  apply List.ext_getElem?
  intro j
  by_cases c : j < l.length
  · rw [List.getElem?_reverse (by rw [List.length_set]; exact c), List.getElem?_set, List.length_set, List.getElem?_set, List.length_reverse, List.getElem?_reverse c]
    by_cases d : i = l.length - 1 - j
    · rw [if_pos d, if_pos (show l.length - 1 - i = j by omega), if_pos (by omega), if_pos (by omega)]
    · rw [if_neg d, if_neg (show ¬ l.length - 1 - i = j by omega)]
  · rw [List.getElem?_eq_none (by rw [List.length_reverse, List.length_set]; omega), List.getElem?_eq_none (by rw [List.length_set, List.length_reverse]; omega)]
theorem mirB_st {m : Ma} {x : Bs} (hi : insd x) : insd (mirB x) ∧ bent (mirM m) (mirB x) = (bent m x).map mirE ∧ ∀ s w r, bnx (mirB x) s (0 - w) r = mirB (bnx x s w r) := by
  have h1 := hi.1
  have h2 := hi.2
  have hn : ((x.2.2.length : Int) - 1 - x.2.1).toNat = x.2.2.length - 1 - x.2.1.toNat := by omega
  refine ⟨⟨by show 0 ≤ (x.2.2.length : Int) - 1 - x.2.1; omega, ?_⟩, ?_, fun s w r => ?_⟩
  · show (x.2.2.length : Int) - 1 - x.2.1 < (x.2.2.reverse.length : Int)
    rw [List.length_reverse]; omega
  · show (((mirM m)[x.1.toNat]?).bind fun es => es[(((x.2.2.reverse)[((x.2.2.length : Int) - 1 - x.2.1).toNat]?).getD 0).toNat]?) = _
    rw [hn, List.getElem?_reverse (by omega), show x.2.2.length - 1 - (x.2.2.length - 1 - x.2.1.toNat) = x.2.1.toNat by omega, List.getElem?_map]
    unfold bent
    cases m[x.1.toNat]? with
    | none => rfl
    | some es => show (es.map mirE)[_]? = Option.map mirE (es[_]?); rw [List.getElem?_map]
  · show (r, (x.2.2.length : Int) - 1 - x.2.1 + (0 - w), x.2.2.reverse.set ((x.2.2.length : Int) - 1 - x.2.1).toNat s) = (r, ((x.2.2.set x.2.1.toNat s).length : Int) - 1 - (x.2.1 + w), (x.2.2.set x.2.1.toNat s).reverse)
    rw [hn, set_rev _ _ _ (by omega), List.length_set, show (x.2.2.length : Int) - 1 - x.2.1 + (0 - w) = (x.2.2.length : Int) - 1 - (x.2.1 + w) by omega]
theorem mirB_out {x : Bs} : insd (mirB x) ↔ insd x := by
  show (0 ≤ (x.2.2.length : Int) - 1 - x.2.1 ∧ (x.2.2.length : Int) - 1 - x.2.1 < (x.2.2.reverse.length : Int)) ↔ (0 ≤ x.2.1 ∧ x.2.1 < (x.2.2.length : Int))
  rw [List.length_reverse]
  constructor <;> (intro ⟨a, b⟩; constructor <;> omega)
theorem mirB_bit {m : Ma} : ∀ {n : Nat} {x y : Bs}, bit m n x = some y → bit (mirM m) n (mirB x) = some (mirB y)
  | 0, x, y, h => by rw [bit] at h; cases h; rfl
  | n + 1, x, y, h => by
    rw [bit] at h
    cases e : bst m x with
    | none => rw [e] at h; cases h
    | some z =>
      rw [e] at h
      obtain ⟨hi, s, w, r, he, rfl⟩ := bst_some e
      obtain ⟨w1, w2, w3⟩ := mirB_st (m := m) hi
      have := mirB_bit (n := n) (x := bnx x s w r) (y := y) h
      rw [bit, bst_step (s := s) (w := 0 - w) (r := r) w1 (by rw [w2, he]; rfl), w3]
      exact this
def mirT : TRes → TRes
  | .out b r s k => .out b.reverse r (0 - s) k
  | .fin b r p k => .fin b.reverse r ((b.length : Int) - 1 - p) k
  | .stay => .stay
theorem BRes.mir {m : Ma} {c : Int} {x : Bs} {res : TRes} (h : BRes m c x res) : BRes (mirM m) c (mirB x) (mirT res) := by
  cases res with
  | out b r s k =>
    obtain ⟨n, y, h1, h2, h3, h4, h5, h6⟩ := h
    refine ⟨n, mirB y, mirB_bit h1, fun z => h2 (mirB_out.1 z), by rw [h3]; rfl, h4, ?_, h6⟩
    show 0 - s = if (y.2.2.length : Int) - 1 - y.2.1 < 0 then -1 else 1
    rw [h5]
    unfold insd at h2
    by_cases c : y.2.1 < 0
    · rw [if_pos c, if_neg (by omega)]; rfl
    · rw [if_neg c, if_pos (by omega)]; rfl
  | fin b r p k =>
    obtain ⟨n, y, h1, h2, h3, h4, h5, h6, h7⟩ := h
    refine ⟨n, mirB y, mirB_bit h1, mirB_out.2 h2, ?_, by rw [h4]; rfl, h5, by rw [h4, h6]; rfl, h7⟩
    rw [(mirB_st (m := m) h2).2.1, h3]; rfl
  | stay =>
    intro n
    obtain ⟨y, h1, h2⟩ := h n
    exact ⟨mirB y, mirB_bit h1, mirB_out.2 h2⟩
end L2

end
namespace Law
open PySem PySem.Spec PyProof.Rows L2
local macro_rules | `(tactic| walk_at "w") => `(tactic| conv => whnf)
local macro_rules | `(tactic| walk_at "hp") => `(tactic| (repeat (first | assumption | exact upd_same | refine keepN ?_ (by assumption))))
local macro_rules | `(tactic| walk_at "frees") => `(tactic| (repeat ((conv => whnf); first | exact True.intro | refine ⟨Or.inl rfl, ?_⟩ | refine ⟨Or.inr rfl, ?_⟩ | refine ⟨⟨rfl, Or.inl rfl⟩, ?_⟩ | refine ⟨⟨rfl, Or.inr rfl⟩, ?_⟩)))
local macro_rules | `(tactic| walk_at "comp_ok") => `(tactic| exact ⟨rfl, by decide +kernel, by decide +kernel, by walk_at "frees", by walk_at "frees"⟩)
def top (i : Nat) : Stmt := PySem.Challenge.pw_endnever_k73_whole_blocks_within_blocks.main.body.getD i (.Pass ⟨0, 0, 0, 0⟩)
abbrev s_l_at : Stmt := top 17
abbrev s_l_mixed : Stmt := top 18
abbrev s_l_purse : Stmt := top 19
abbrev s_l_draw : Stmt := top 20
abbrev s_is_entry : Stmt := top 8
abbrev s_is_row : Stmt := top 9
abbrev s_is_machine : Stmt := top 10
abbrev s_must_machine : Stmt := top 11
abbrev s_Walk___init__ : Stmt := inClass (top 7) 0
abbrev s_Walk_look : Stmt := inClass (top 7) 1
abbrev s_Walk_entry : Stmt := inClass (top 7) 2
abbrev s_Walk_mark : Stmt := inClass (top 7) 4
abbrev s_Walk_step : Stmt := inClass (top 7) 3
abbrev s_near_place : Stmt := top 13
abbrev s_signs_in : Stmt := top 14
abbrev s_through : Stmt := top 15
abbrev s_l_entry : Stmt := top 21
abbrev s_l_machine : Stmt := top 22
abbrev s_l_turned : Stmt := top 24
abbrev s_l_mirrored : Stmt := top 25
abbrev s_l_halves : Stmt := top 26
abbrev s_l_turned_about : Stmt := top 27
abbrev s_law : Stmt := top 28
theorem us1 {P : List Value → Prop} (h : ∀ v0, P [v0]) : ∀ us : List Value, us.length = 1 → P us
  | [v0], _ => h v0
theorem us2 {P : List Value → Prop} (h : ∀ v0 v1, P [v0, v1]) : ∀ us : List Value, us.length = 2 → P us
  | [v0, v1], _ => h v0 v1
theorem us3 {P : List Value → Prop} (h : ∀ v0 v1 v2, P [v0, v1, v2]) : ∀ us : List Value, us.length = 3 → P us
  | [v0, v1, v2], _ => h v0 v1 v2
theorem us4 {P : List Value → Prop} (h : ∀ v0 v1 v2 v3, P [v0, v1, v2, v3]) : ∀ us : List Value, us.length = 4 → P us
  | [v0, v1, v2, v3], _ => h v0 v1 v2 v3
theorem us5 {P : List Value → Prop} (h : ∀ v0 v1 v2 v3 v4, P [v0, v1, v2, v3, v4]) : ∀ us : List Value, us.length = 5 → P us
  | [v0, v1, v2, v3, v4], _ => h v0 v1 v2 v3 v4
set_option genInjectivity false in
set_option genSizeOf false in
structure Ad where
  l_at : Addr
  l_at_d : FuncData
  l_mixed : Addr
  l_mixed_d : FuncData
  l_purse : Addr
  l_purse_d : FuncData
  l_draw : Addr
  l_draw_d : FuncData
  is_entry : Addr
  is_entry_d : FuncData
  is_row : Addr
  is_row_d : FuncData
  is_machine : Addr
  is_machine_d : FuncData
  must_machine : Addr
  must_machine_d : FuncData
  Walk___init__ : Addr
  Walk___init___d : FuncData
  Walk_look : Addr
  Walk_look_d : FuncData
  Walk_entry : Addr
  Walk_entry_d : FuncData
  Walk_mark : Addr
  Walk_mark_d : FuncData
  Walk_step : Addr
  Walk_step_d : FuncData
  near_place : Addr
  near_place_d : FuncData
  signs_in : Addr
  signs_in_d : FuncData
  through : Addr
  through_d : FuncData
  l_entry : Addr
  l_entry_d : FuncData
  l_machine : Addr
  l_machine_d : FuncData
  l_turned : Addr
  l_turned_d : FuncData
  l_mirrored : Addr
  l_mirrored_d : FuncData
  l_halves : Addr
  l_halves_d : FuncData
  l_turned_about : Addr
  l_turned_about_d : FuncData
  law : Addr
  law_d : FuncData
  MillError : Addr
  NoMachine : Addr
  Walk : Addr
structure Tx (K : PySem.W.Frag) (mg : Str → Option Value) (a : Ad) : Prop where
  f_l_at : Fun K "_law_at" "_law_at" s_l_at a.l_at a.l_at_d
  b_l_at : Binds K a.l_at_d ["_law_script", "_law_k"] []
  g_l_at : mg "_law_at" = some (.ref a.l_at)
  f_l_mixed : Fun K "_law_mixed" "_law_mixed" s_l_mixed a.l_mixed a.l_mixed_d
  b_l_mixed : Binds K a.l_mixed_d ["_law_cell", "_law_k"] []
  g_l_mixed : mg "_law_mixed" = some (.ref a.l_mixed)
  f_l_purse : Fun K "_law_purse" "_law_purse" s_l_purse a.l_purse a.l_purse_d
  b_l_purse : Binds K a.l_purse_d ["_law_script", "_law_at_here"] []
  g_l_purse : mg "_law_purse" = some (.ref a.l_purse)
  f_l_draw : Fun K "_law_draw" "_law_draw" s_l_draw a.l_draw a.l_draw_d
  b_l_draw : Binds K a.l_draw_d ["_law_purse_here", "_law_out_of"] []
  g_l_draw : mg "_law_draw" = some (.ref a.l_draw)
  f_is_entry : Fun K "is_entry" "is_entry" s_is_entry a.is_entry a.is_entry_d
  b_is_entry : Binds K a.is_entry_d ["entry", "rows", "signs"] []
  g_is_entry : mg "is_entry" = some (.ref a.is_entry)
  f_is_row : Fun K "is_row" "is_row" s_is_row a.is_row a.is_row_d
  b_is_row : Binds K a.is_row_d ["row", "rows", "signs"] []
  g_is_row : mg "is_row" = some (.ref a.is_row)
  f_is_machine : Fun K "is_machine" "is_machine" s_is_machine a.is_machine a.is_machine_d
  b_is_machine : Binds K a.is_machine_d ["machine"] []
  g_is_machine : mg "is_machine" = some (.ref a.is_machine)
  f_must_machine : Fun K "must_machine" "must_machine" s_must_machine a.must_machine a.must_machine_d
  b_must_machine : Binds K a.must_machine_d ["machine"] []
  g_must_machine : mg "must_machine" = some (.ref a.must_machine)
  f_Walk___init__ : Fun K "__init__" "Walk.__init__" s_Walk___init__ a.Walk___init__ a.Walk___init___d
  b_Walk___init__ : Binds K a.Walk___init___d ["self", "table", "begin"] []
  mk_Walk : Mk K a.Walk a.Walk___init__
  f_Walk_look : Fun K "look" "Walk.look" s_Walk_look a.Walk_look a.Walk_look_d
  b_Walk_look : Binds K a.Walk_look_d ["self"] []
  m_Walk_look : Meth K a.Walk "look" a.Walk_look
  f_Walk_entry : Fun K "entry" "Walk.entry" s_Walk_entry a.Walk_entry a.Walk_entry_d
  b_Walk_entry : Binds K a.Walk_entry_d ["self"] []
  m_Walk_entry : Meth K a.Walk "entry" a.Walk_entry
  f_Walk_mark : Fun K "mark" "Walk.mark" s_Walk_mark a.Walk_mark a.Walk_mark_d
  b_Walk_mark : Binds K a.Walk_mark_d ["self", "sign"] []
  m_Walk_mark : Meth K a.Walk "mark" a.Walk_mark
  f_Walk_step : Fun K "step" "Walk.step" s_Walk_step a.Walk_step a.Walk_step_d
  b_Walk_step : Binds K a.Walk_step_d ["self"] []
  m_Walk_step : Meth K a.Walk "step" a.Walk_step
  f_near_place : Fun K "near_place" "near_place" s_near_place a.near_place a.near_place_d
  b_near_place : Binds K a.near_place_d ["many", "side"] []
  g_near_place : mg "near_place" = some (.ref a.near_place)
  f_signs_in : Fun K "signs_in" "signs_in" s_signs_in a.signs_in a.signs_in_d
  b_signs_in : Binds K a.signs_in_d ["walk", "many"] []
  g_signs_in : mg "signs_in" = some (.ref a.signs_in)
  f_through : Fun K "through" "through" s_through a.through a.through_d
  b_through : Binds K a.through_d ["machine", "block", "row", "side"] []
  g_through : mg "through" = some (.ref a.through)
  f_l_entry : Fun K "_law_entry" "_law_entry" s_l_entry a.l_entry a.l_entry_d
  b_l_entry : Binds K a.l_entry_d ["_law_purse_here", "_law_rows", "_law_signs", "_law_row", "_law_few"] []
  g_l_entry : mg "_law_entry" = some (.ref a.l_entry)
  f_l_machine : Fun K "_law_machine" "_law_machine" s_l_machine a.l_machine a.l_machine_d
  b_l_machine : Binds K a.l_machine_d ["_law_purse_here"] []
  g_l_machine : mg "_law_machine" = some (.ref a.l_machine)
  f_l_turned : Fun K "_law_turned" "_law_turned" s_l_turned a.l_turned a.l_turned_d
  b_l_turned : Binds K a.l_turned_d ["_law_entry_here"] []
  g_l_turned : mg "_law_turned" = some (.ref a.l_turned)
  f_l_mirrored : Fun K "_law_mirrored" "_law_mirrored" s_l_mirrored a.l_mirrored a.l_mirrored_d
  b_l_mirrored : Binds K a.l_mirrored_d ["_law_machine_here"] []
  g_l_mirrored : mg "_law_mirrored" = some (.ref a.l_mirrored)
  f_l_halves : Fun K "_law_halves" "_law_halves" s_l_halves a.l_halves a.l_halves_d
  b_l_halves : Binds K a.l_halves_d ["_law_machine_here", "_law_block", "_law_row", "_law_side"] []
  g_l_halves : mg "_law_halves" = some (.ref a.l_halves)
  f_l_turned_about : Fun K "_law_turned_about" "_law_turned_about" s_l_turned_about a.l_turned_about a.l_turned_about_d
  b_l_turned_about : Binds K a.l_turned_about_d ["_law_found"] []
  g_l_turned_about : mg "_law_turned_about" = some (.ref a.l_turned_about)
  f_law : Fun K "law" "law" s_law a.law a.law_d
  b_law : Binds K a.law_d ["_law_script"] []
  g_law : mg "law" = some (.ref a.law)
  e_MillError : ExK K a.MillError
  t_MillError : ExC K a.MillError
  g_MillError : mg "MillError" = some (.ref a.MillError)
  m_MillError : ExM K a.MillError ([.ref a.MillError])
  e_NoMachine : ExK K a.NoMachine
  t_NoMachine : ExC K a.NoMachine
  g_NoMachine : mg "NoMachine" = some (.ref a.NoMachine)
  m_NoMachine : ExM K a.NoMachine ([.ref a.NoMachine, .ref a.MillError])
  k_Walk : Cls K a.Walk
  g_Walk : mg "Walk" = some (.ref a.Walk)
  n_Walk_table : NoAttr K a.Walk "table"
  n_Walk_row : NoAttr K a.Walk "row"
  n_Walk_place : NoAttr K a.Walk "place"
  n_Walk_marks : NoAttr K a.Walk "marks"
  c_MOST_ROWS : CV mg "MOST_ROWS" (.int 4)
  c_LEAST_SIGNS : CV mg "LEAST_SIGNS" (.int 2)
  c_MOST_SIGNS : CV mg "MOST_SIGNS" (.int 4)
  z_range : mg "range" = none
  z_len : mg "len" = none
  z_abs : mg "abs" = none
  z_list : mg "list" = none
  z_tuple : mg "tuple" = none
  z_int : mg "int" = none
  z_bool : mg "bool" = none
  z_dict : mg "dict" = none
  z_isinstance : mg "isinstance" = none
  z_max : mg "max" = none
  z_min : mg "min" = none
  z_all : mg "all" = none
  z_enumerate : mg "enumerate" = none
  ex_nd : [a.MillError, a.NoMachine].Nodup
section
variable {P : Program} {w : World} {K : PySem.W.Frag} {mg : Str → Option Value} {base : Heap} {a : Ad}
theorem sc_l_at : FnScope ["_law_script", "_law_k"] ["_law_script", "_law_k"] (defScope s_l_at) := ⟨rfl, rfl, rfl, by decide +kernel, rfl, by decide +kernel, by decide +kernel⟩
def sp_at (K : PySem.W.Frag) : Sp := fun vs H Q _ => match vs with
  | [.ref b, .int k] => ∃ ns : List Int, SqL K H b (ns.map V.int) ∧ 0 ≤ k ∧ ∀ n : Int, Q (.int n) H
  | _ => False
theorem ok_l_at (T : Tx K mg a) : FnOk P w K mg base CX0 1 a.l_at a.l_at_d ["_law_script", "_law_k"] (sp_at K) := by
  refine T.f_l_at.ok sc_l_at (fun vs H Q E h => ?_) (fun cdv A outer s H vs Q E hr h => ?_)
  · unfold sp_at at h
    split at h
    · rfl
    · exact h.elim
  · unfold sp_at at h
    split at h
    · have nd := sc_l_at.nd
      have hu := hu_of hr
      rename_i b k
      obtain ⟨ns, hS, hk, h⟩ := h
      refine ⟨_, (pss_cons (ps_c (pt_c q_lt (qv 1) (pe_callB (q_lenK (K := K) rfl) rfl T.z_len bt_len (pa_cons (qv 0) pa_nil))) (pss_one (ps_ret (pe_ix (q_ixLK (K := K) rfl) (qv 0) (qv 1) (fun _ _ => rfl)))) pss_nil)
    (pss_one (ps_ret pe_int))), ?_⟩
      refine ⟨_, .inl hS, ?_⟩
      walk_at "w"
      refine ifB.dec (fun z => ?_) (fun z => ?_)
      · have z : k < ((ns.map V.int).length : Int) := z
        rw [List.length_map] at z
        have hl : k.toNat < ns.length := by omega
        refine ⟨_, _, hS, atI_toNat hk (v := V.int ns[k.toNat]) (by rw [List.getElem?_map, List.getElem?_eq_getElem hl]; rfl), ?_⟩
        exact h _
      · exact h 0
    · exact h.elim
theorem sc_l_mixed : FnScope ["_law_cell", "_law_k", "_law_number"] ["_law_cell", "_law_k"] (defScope s_l_mixed) := ⟨rfl, rfl, rfl, by decide +kernel, rfl, by decide +kernel, by decide +kernel⟩
def sp_mixed : Sp := fun vs H Q _ => match vs with
  | [.int _, .int k] => (0 ≤ k ∧ k < 2 ^ 62) ∧ ∀ (n : Int), 0 ≤ n → n < 2147483587 → Q (.int n) H
  | _ => False
theorem ok_l_mixed (T : Tx K mg a) : FnOk P w K mg base CX0 1 a.l_mixed a.l_mixed_d ["_law_cell", "_law_k"] (sp_mixed) := by
  refine T.f_l_mixed.ok sc_l_mixed (fun vs H Q E h => ?_) (fun cdv A outer s H vs Q E hr h => ?_)
  · unfold sp_mixed at h
    split at h
    · rfl
    · exact h.elim
  · unfold sp_mixed at h
    split at h
    · have nd := sc_l_mixed.nd
      have hu := hu_of hr
      rename_i c k
      obtain ⟨⟨k0, k1⟩, h⟩ := h
      refine ⟨_, (pss_cons (ps_set (i := 0) nd rfl (by first | exact Or.inl rfl | exact Or.inr rfl) (pe_op q_mod (qv 0) pe_int))
    (pss_cons (ps_set (i := 2) nd rfl (by first | exact Or.inl rfl | exact Or.inr rfl) (pe_op q_mod (pe_op q_add (pe_op q_add (pe_op q_mul (qv 0) pe_int) (pe_op q_mul (pe_op q_mul pe_int (qv 1)) (qv 1))) (qv 1)) pe_int))
    (pss_cons (ps_set (i := 2) nd rfl (by first | exact Or.inl rfl | exact Or.inr rfl) (pe_op q_mod (pe_op q_mul (qv 2) (qv 2)) pe_int))
    (pss_one (ps_ret (pe_op q_mod (pe_op q_mul (qv 2) pe_int) pe_int)))))), ?_⟩
      refine ⟨by show (0 : Int) < _; decide, fun r _ ⟨r0, r1⟩ => ?_⟩
      refine ⟨.inr ⟨by decide, by decide⟩, fun m1 _ _ => ?_⟩
      refine ⟨.inl ⟨by decide, by decide⟩, fun m2 _ _ => ?_⟩
      refine ⟨.inr ⟨by omega, by omega⟩, fun m3 _ _ => ?_⟩
      refine ⟨by show (0 : Int) < _; decide, fun m4 _ ⟨a0, a1⟩ => ?_⟩
      refine ⟨.inl ⟨by omega, by omega⟩, fun m5 _ _ => ?_⟩
      refine ⟨by show (0 : Int) < _; decide, fun m6 _ ⟨b0, b1⟩ => ?_⟩
      refine ⟨.inl ⟨by omega, by omega⟩, fun m7 _ _ => ?_⟩
      refine ⟨by show (0 : Int) < _; decide, fun m8 _ ⟨c0, c1⟩ => ?_⟩
      exact h _ c0 c1
    · exact h.elim
theorem sc_l_purse : FnScope ["_law_script", "_law_at_here", "_law_cell"] ["_law_script", "_law_at_here"] (defScope s_l_purse) := ⟨rfl, rfl, rfl, by decide +kernel, rfl, by decide +kernel, by decide +kernel⟩
def sp_purse (K : PySem.W.Frag) : Sp := fun vs H Q _ => match vs with
  | [.ref b, .int k] => ∃ ns : List Int, SqL K H b (ns.map V.int) ∧ (0 ≤ k ∧ k ≤ 10) ∧ ∀ (p : Addr) (H' : Hp) (n c m : Int), Sub H H' → H p = none → H' p = some (.lst [.int n, .int c, .int m]) → m = 1000 * k → Q (.ref p) H'
  | _ => False
theorem ok_l_purse (T : Tx K mg a) : FnOk P w K mg base CX0 2 a.l_purse a.l_purse_d ["_law_script", "_law_at_here"] (sp_purse K) := by
  have G_l_at := ok_l_at (P := P) (w := w) (base := base) T
  refine T.f_l_purse.ok sc_l_purse (fun vs H Q E h => ?_) (fun cdv A outer s H vs Q E hr h => ?_)
  · unfold sp_purse at h
    split at h
    · rfl
    · exact h.elim
  · unfold sp_purse at h
    split at h
    · have nd := sc_l_purse.nd
      have hu := hu_of hr
      rename_i b k
      obtain ⟨ns, hS, ⟨k0, k1⟩, h⟩ := h
      refine ⟨_, (pss_cons (ps_set (i := 2) nd rfl (by first | exact Or.inl rfl | exact Or.inr rfl) (pe_call G_l_at (hr.mono (by decide)) rfl T.g_l_at T.f_l_at.kp T.b_l_at .nil pass0 (pa_cons (qv 0) (pa_cons (qv 1) pa_nil))))
    (pss_one (ps_ret (pe_lst (pa_cons (pe_callB (q_max2 rfl) rfl T.z_max bt_max (pa_cons (pe_op q_sub (qv 2) (pe_op q_pow pe_int pe_int)) (pa_cons pe_int pa_nil))) (pa_cons (qv 2) (pa_cons (pe_op q_mul pe_int (qv 1)) pa_nil))))))), ?_⟩
      refine ⟨ns, hS, k0, fun c => ?_⟩
      refine ⟨cpow (by decide), fun m0 _ _ => ?_⟩
      walk_at "w"
      intro m1 _
      refine ⟨.inl ⟨by decide, by decide⟩, fun m2 hm2 _ => ?_⟩
      refine ⟨by show 3 ≤ sizeLine; decide, ?_⟩
      intro p1 n1
      generalize hU1 : upd _ p1 _ = H1
      have S1 := (upd_sub n1 hU1).1
      have e1 := (upd_sub n1 hU1).2
      clear hU1
      exact h p1 H1 _ _ _ S1 n1 e1 hm2
    · exact h.elim
theorem sc_l_draw : FnScope ["_law_purse_here", "_law_out_of", "_law_drawn", "_law_number"] ["_law_purse_here", "_law_out_of"] (defScope s_l_draw) := ⟨rfl, rfl, rfl, by decide +kernel, rfl, by decide +kernel, by decide +kernel⟩
/-- a purse of three numbers turns -/
structure P3 (pp : Addr) (c : Int) (H H' : Hp) : Prop where
  had : ∃ n m : Int, H pp = some (.lst [.int n, .int c, .int m])
  has : ∃ n m : Int, H' pp = some (.lst [.int n, .int c, .int m])
  keep : ∀ a o, a ≠ pp → H a = some o → H' a = some o
section
variable {pp : Addr} {c : Int} {A B C : Hp}
theorem P3.refl (h : ∃ n m : Int, A pp = some (.lst [.int n, .int c, .int m])) : P3 pp c A A := ⟨h, h, fun _ _ _ e => e⟩
theorem P3.trans (h : P3 pp c A B) (h' : P3 pp c B C) : P3 pp c A C := ⟨h.had, h'.has, fun a o n e => h'.keep a o n (h.keep a o n e)⟩
theorem P3.sub (h : P3 pp c A B) (S : Sub B C) : P3 pp c A C := ⟨h.had, h.has.imp fun _ z => z.imp fun _ e => S _ _ e, fun a o n e => S _ _ (h.keep a o n e)⟩
theorem P3.draw (h : P3 pp c A B) (n m : Int) : P3 pp c A (upd B pp (.lst [.int n, .int c, .int m])) := ⟨h.had, ⟨n, m, upd_same⟩, fun a o ne e => by rw [upd_ne ne]; exact h.keep a o ne e⟩
theorem P3.set {p : Addr} {o : HO} (h : P3 pp c A B) (hp : A p = none) : P3 pp c A (upd B p o) := by
  obtain ⟨n, m, e⟩ := h.had
  have ne : pp ≠ p := by rintro rfl; rw [e] at hp; cases hp
  refine ⟨h.had, ?_, fun a u na z => ?_⟩
  · obtain ⟨n', m', e'⟩ := h.has
    exact ⟨n', m', by rw [upd_ne ne]; exact e'⟩
  · have : a ≠ p := by rintro rfl; rw [z] at hp; cases hp
    rw [upd_ne this]
    exact h.keep a u na z
theorem P3.free (h : P3 pp c A B) {p : Addr} (n : B p = none) : A p = none := by
  cases e : A p with
  | none => rfl
  | some o =>
    by_cases q : p = pp
    · obtain ⟨n', m', e'⟩ := h.has
      rw [q, e'] at n; cases n
    · rw [h.keep p o q e] at n; cases n
theorem P3.of_draw (n m : Int) {n' m' : Int} (h : A pp = some (.lst [.int n', .int c, .int m'])) : P3 pp c A (upd A pp (.lst [.int n, .int c, .int m])) := (P3.refl ⟨n', m', h⟩).draw n m
end
theorem P3.stay {pp : Addr} {c : Int} {A B : Hp} (h : P3 pp c A B) : Stay A B := by
  obtain ⟨n, m, e⟩ := h.had
  refine ⟨fun a xs q => h.keep _ _ ?_ q, fun a as q => h.keep _ _ ?_ q⟩
  · rintro rfl; rw [q] at e; cases e
  · rintro rfl
    rw [q] at e
    cases as with
    | nil => cases e
    | cons x xs => cases e
theorem P3.sa {pp : Addr} {c : Int} {A B : Hp} (h : P3 pp c A B) {p : Addr} {as : List Addr} {ks : Mk2} (hp : p ≠ pp) (h1 : A p = some (.lst (as.map V.ref))) (hA : All2 (fun b q => A b = some (tI q)) as (iv ks)) :
    B p = some (.lst (as.map V.ref)) ∧ All2 (fun b q => B b = some (tI q)) as (iv ks) :=
  ⟨h.keep _ _ hp h1, hA.mono fun b q _ z => h.keep _ _ (by rintro rfl; obtain ⟨n, m, e⟩ := h.had; rw [e] at z; cases z) z⟩
theorem lg {j : Int} (h0 : 0 < j) (h1 : j ≤ 1000) : 0 < j ∧ j.natAbs.log2 < 9000 := by
  refine ⟨h0, ?_⟩
  have : j.natAbs.log2 < 10 := (Nat.log2_lt (by omega)).2 (by show _ < 1024; omega)
  omega
/-- a number from 0 below k -/
def sp_draw : Sp := fun vs H Q _ => match vs with
  | [.ref b, .int k] => (0 < k ∧ k.natAbs.log2 < 9000) ∧ ∃ n c m, H b = some (.lst [.int n, .int c, .int m]) ∧ (0 ≤ m ∧ m < 2 ^ 60) ∧ ∀ d n' m' : Int, 0 ≤ d → d < k → m ≤ m' → m' ≤ m + 2 → Q (.int d) (upd H b (.lst [.int n', .int c, .int m']))
  | _ => False
theorem ok_l_draw (T : Tx K mg a) : FnOk P w K mg base CX0 2 a.l_draw a.l_draw_d ["_law_purse_here", "_law_out_of"] (sp_draw) := by
  have G_l_mixed := ok_l_mixed (P := P) (w := w) (base := base) T
  refine T.f_l_draw.ok sc_l_draw (fun vs H Q E h => ?_) (fun cdv A outer s H vs Q E hr h => ?_)
  · unfold sp_draw at h
    split at h
    · rfl
    · exact h.elim
  · unfold sp_draw at h
    split at h
    · have nd := sc_l_draw.nd
      have hu := hu_of hr
      rename_i b k
      obtain ⟨hk, n, c, m, hb, ⟨hm0, hm1⟩, h⟩ := h
      refine ⟨_, (pss_cons (ps_c (pt_c q_gt (pe_ix (q_ixLK (K := K) rfl) (qv 0) pe_int (fun _ _ => rfl)) pe_int) (pss_cons (ps_set (i := 2) nd rfl (by first | exact Or.inl rfl | exact Or.inr rfl) (pe_op q_mod (pe_ix (q_ixLK (K := K) rfl) (qv 0) pe_int (fun _ _ => rfl)) (qv 1)))
        (pss_cons (ps_asg (pe_op q_fdiv (pe_ix (q_ixLK (K := K) rfl) (qv 0) pe_int (fun _ _ => rfl)) (qv 1)) (pg_sub (qv 0) pe_int q_setL))
        (pss_one (ps_ret (qv 2))))) pss_nil)
    (pss_cons (ps_asg (pe_op q_add (pe_ix (q_ixLK (K := K) rfl) (qv 0) pe_int (fun _ _ => rfl)) pe_int) (pg_sub (qv 0) pe_int q_setL))
    (pss_cons (ps_set (i := 3) nd rfl (by first | exact Or.inl rfl | exact Or.inr rfl) (pe_call G_l_mixed (hr.mono (by decide)) rfl T.g_l_mixed T.f_l_mixed.kp T.b_l_mixed .nil pass0 (pa_cons (pe_ix (q_ixLK (K := K) rfl) (qv 0) pe_int (fun _ _ => rfl)) (pa_cons (pe_ix (q_ixLK (K := K) rfl) (qv 0) pe_int (fun _ _ => rfl)) pa_nil))))
    (pss_one (ps_ret (pe_op q_mod (pe_op q_fdiv (pe_op q_add (pe_op q_mul (qv 3) pe_int) (pe_call G_l_mixed (hr.mono (by decide)) rfl T.g_l_mixed T.f_l_mixed.kp T.b_l_mixed .nil pass0 (pa_cons (pe_op q_add (pe_ix (q_ixLK (K := K) rfl) (qv 0) pe_int (fun _ _ => rfl)) (qv 3)) (pa_cons (pe_op q_add (pe_ix (q_ixLK (K := K) rfl) (qv 0) pe_int (fun _ _ => rfl)) pe_int) pa_nil)))) pe_int) (qv 1))))))), ?_⟩
      refine ⟨_, _, SqL.of hb, rfl, ?_⟩
      walk_at "w"
      refine ifB.mk (fun _ => ?_) (fun _ => ?_)
      · walk_at "w"
        refine ⟨_, _, SqL.of hb, rfl, ?_⟩
        refine ⟨hk.1, fun d _ ⟨d0, d1⟩ => ?_⟩
        refine ⟨_, _, SqL.of hb, rfl, ?_⟩
        refine ⟨hk, fun q _ _ => ?_⟩
        refine ⟨_, 0, hb, rfl, ?_⟩
        exact h d q m d0 d1 (Int.le_refl _) (by omega)
      · walk_at "w"
        refine ⟨_, _, SqL.of hb, rfl, ?_⟩
        refine ⟨_, 2, hb, rfl, ?_⟩
        generalize hU : upd H b _ = H1
        have hb1 : H1 b = some (.lst [.int n, .int c, .int (m + 2)]) := by rw [← hU]; exact upd_same
        have fin : ∀ d, 0 ≤ d → d < k → Q (.int d) H1 := fun d d0 d1 => by rw [← hU]; exact h d n (m + 2) d0 d1 (by omega) (by omega)
        clear h hU
        refine ⟨_, _, SqL.of hb1, rfl, ?_⟩
        refine ⟨_, _, SqL.of hb1, rfl, ?_⟩
        refine ⟨⟨by omega, by omega⟩, fun n1 n10 n11 => ?_⟩
        refine ⟨.inr ⟨by decide, by decide⟩, fun m1 _ _ => ?_⟩
        refine ⟨_, _, SqL.of hb1, rfl, ?_⟩
        refine ⟨_, _, SqL.of hb1, rfl, ?_⟩
        refine ⟨⟨by omega, by omega⟩, fun n2 n20 n21 => ?_⟩
        refine ⟨⟨by decide, by decide⟩, fun m2 _ _ => ?_⟩
        refine ⟨hk.1, fun d _ ⟨d0, d1⟩ => ?_⟩
        exact fin d d0 d1
    · exact h.elim
theorem sc_is_entry : FnScope ["entry", "rows", "signs", "sign", "way", "row"] ["entry", "rows", "signs"] (defScope s_is_entry) := ⟨rfl, rfl, rfl, by decide +kernel, rfl, by decide +kernel, by decide +kernel⟩
def sp_is_entry : Sp := fun vs H Q _ => match vs with
  | [.ref b, .int rows, .int signs] => ∃ e : En, Ent H b e ∧ ∀ H', Sub H H' → Q (.bl (entryOk rows signs e)) H'
  | _ => False
theorem ent_at {K : PySem.W.Frag} {H : Hp} {b : Addr} {e : En} (h : Ent H b e) : SqT K H b (e.map V.int) := SqT.of h
theorem in_two {y : Int} : (decide (y = -1) || decide (y = 1)) = inV (.int y) [.int (-1), .int 1] := by
  unfold inV
  simp only [List.any_cons, List.any_nil, eqV, Bool.or_false]
  by_cases h1 : y = -1
  · subst h1; rfl
  · by_cases h2 : y = 1
    · subst h2; rfl
    · have h3 : ¬ (-1 = y) := fun e => h1 e.symm
      have h4 : ¬ (1 = y) := fun e => h2 e.symm
      simp [h1, h2, h3, h4]
theorem ok_is_entry (T : Tx K mg a) : FnOk P w K mg base CX0 1 a.is_entry a.is_entry_d ["entry", "rows", "signs"] (sp_is_entry) := by
  refine T.f_is_entry.ok sc_is_entry (fun vs H Q E h => ?_) (fun cdv A outer s H vs Q E hr h => ?_)
  · unfold sp_is_entry at h
    split at h
    · rfl
    · exact h.elim
  · unfold sp_is_entry at h
    split at h
    · have nd := sc_is_entry.nd
      have hu := hu_of hr
      rename_i b rows signs
      obtain ⟨e, hb, h⟩ := h
      refine ⟨_, (pss_cons (ps_c (pt_c q_eq (pe_callB (q_lenK (K := K) rfl) rfl T.z_len bt_len (pa_cons (qv 0) pa_nil)) pe_int) (pss_one (ps_ret pe_bl)) pss_nil)
    (pss_cons (ps_c (pt_c q_ne (pe_callB (q_lenK (K := K) rfl) rfl T.z_len bt_len (pa_cons (qv 0) pa_nil)) pe_int) (pss_one (ps_ret pe_bl)) pss_nil)
    (pss_cons (ps_asg (qv 0) (qg_tupK (K := K) (n := 3) rfl rfl (qgs_cons (pg_name (i := 3) nd rfl (by first | exact Or.inl rfl | exact Or.inr rfl)) (qgs_cons (pg_name (i := 4) nd rfl (by first | exact Or.inl rfl | exact Or.inr rfl)) (qgs_cons (pg_name (i := 5) nd rfl (by first | exact Or.inl rfl | exact Or.inr rfl)) qgs_nil)))))
    (pss_one (ps_ret (pe_andC (pe_ch q_le q_lt pe_int (qv 3) (qv 2)) (pe_andC (pe_cmpR (q_inK (K := K) rfl) (qv 4) (pe_tup (pa_cons (pe_un q_neg pe_int) (pa_cons pe_int pa_nil))) (by first | exact nomark _ | rfl)) (pe_one (pe_ch q_le q_lt pe_int (qv 5) (qv 1)))))))))), ?_⟩
      refine ⟨_, .inr (ent_at hb), ?_⟩
      walk_at "w"
      refine ifB.dec (fun h0 => ?_) (fun h0 => ?_)
      · have e0 : e = [] := by cases e with
          | nil => rfl
          | cons x r => simp at h0; omega
        subst e0
        exact h H Sub.refl
      · walk_at "w"
        refine ⟨_, .inr (ent_at hb), ?_⟩
        walk_at "w"
        refine ifB.mk (fun h3 => ?_) (fun h3 => ?_)
        · have : entryOk rows signs e = false := by
            match e, h0, h3 with
            | [], h0, _ => simp at h0
            | [_], _, _ => rfl
            | [_, _], _, _ => rfl
            | [_, _, _], _, h3 => simp at h3
            | _ :: _ :: _ :: _ :: _, _, _ => rfl
          have h := h H Sub.refl
          rw [this] at h
          exact h
        · obtain ⟨x, y, z, rfl⟩ : ∃ x y z, e = [x, y, z] := by
            match e, h3 with
            | [], h3 => simp at h3
            | [_], h3 => simp at h3
            | [_, _], h3 => simp at h3
            | [x, y, z], _ => exact ⟨x, y, z, rfl⟩
            | _ :: _ :: _ :: _ :: _, h3 => simp at h3; omega
          refine ⟨_, ent_at hb, rfl, ?_⟩
          walk_at "w"
          have fin : ∀ (c : Bool) (H' : Hp), Sub H H' → entryOk rows signs [x, y, z] = c → Q (.bl c) H' := fun c H' S e => e ▸ h H' S
          have hd : entryOk rows signs [x, y, z] = ((decide (0 ≤ x) && decide (x < signs)) && (decide (y = -1) || decide (y = 1)) && (decide (0 ≤ z) && decide (z < rows))) := rfl
          refine ifB.dec (fun h1 => ?_) (fun h1 => ?_)
          · walk_at "w"
            refine ifB.dec (fun h2 => ?_) (fun h2 => ?_)
            · walk_at "w"
              refine ⟨by show 2 ≤ sizeLine; decide, ?_⟩
              intro p1 n1
              generalize hU1 : upd _ p1 _ = H1
              have S1 := (upd_sub n1 hU1).1
              have e1 := (upd_sub n1 hU1).2
              clear hU1
              refine ⟨_, .inr (SqT.of e1), rfl, rfl, ?_⟩
              walk_at "w"
              refine ifB.mk (fun h3 => ?_) (fun h3 => ?_)
              · have h3 : (decide (y = -1) || decide (y = 1)) = true := by rw [← h3]; exact in_two
                walk_at "w"
                refine ifB.dec (fun h4 => ?_) (fun h4 => ?_)
                · exact fin _ _ S1 (by rw [hd, h3]; simp [h1, h2, h4])
                · exact fin _ _ S1 (by rw [hd, h3]; simp [h1, h2, h4])
              · have h3 : (decide (y = -1) || decide (y = 1)) = false := by rw [← h3]; exact in_two
                exact fin _ _ S1 (by rw [hd, h3]; simp)
            · exact fin _ _ Sub.refl (by rw [hd]; simp [h2])
          · walk_at "w"
            refine ifB.no rfl ?_
            exact fin false _ Sub.refl (by rw [hd]; simp [h1])
    · exact h.elim
theorem sc_is_row : FnScope ["row", "rows", "signs"] ["row", "rows", "signs"] (defScope s_is_row) := ⟨rfl, rfl, rfl, by decide +kernel, rfl, by decide +kernel, by decide +kernel⟩
def sp_is_row : Sp := fun vs H Q _ => match vs with
  | [.ref b, .int rows, .int signs] => ∃ es : List En, Row H b es ∧ es.length ≤ 100 ∧ ∀ H', Sub H H' → Q (.bl (rowOk rows signs es)) H'
  | _ => False
theorem all_id (f : α → Bool) (l : List α) : (l.map f).all id = l.all f := by rw [List.all_map]; rfl
theorem ok_is_row (T : Tx K mg a) : FnOk P w K mg base CX0 2 a.is_row a.is_row_d ["row", "rows", "signs"] (sp_is_row) := by
  have G_is_entry := ok_is_entry (P := P) (w := w) (base := base) T
  refine T.f_is_row.ok sc_is_row (fun vs H Q E h => ?_) (fun cdv A outer s H vs Q E hr h => ?_)
  · unfold sp_is_row at h
    split at h
    · rfl
    · exact h.elim
  · unfold sp_is_row at h
    split at h
    · have nd := sc_is_row.nd
      have hu := hu_of hr
      rename_i b rows signs
      obtain ⟨es, ⟨as, hb, ha⟩, hlen, h⟩ := h
      refine ⟨_, (pss_one (ps_ret (pe_andC (pe_cmpR q_eq (pe_callB (q_lenK (K := K) rfl) rfl T.z_len bt_len (pa_cons (qv 0) pa_nil)) (qv 2) (by first | exact nomark _ | rfl)) (pe_one (pe_callB (q_allK (K := K) rfl rfl) rfl T.z_all bt_all (pa_cons (pe_lc (own := ["entry"]) (fr := [1, 2]) rfl (by walk_at "comp_ok") (qi_listK (K := K) rfl (qv 0)) (fun _ _ _ _ => (pg_name (i := 0) (show List.Nodup (α := Str) ["entry", "rows", "signs"] from by decide +kernel) rfl (by first | exact Or.inl rfl | exact Or.inr rfl))) (fun _ _ _ _ => pts_nil) (fun _ _ _ _ => (pe_call G_is_entry (hr.mono (by decide)) rfl T.g_is_entry T.f_is_entry.kp T.b_is_entry .nil pass0 (pa_cons (qv 0) (pa_cons (qv 1) (pa_cons (qv 2) pa_nil)))))) pa_nil)))))), ?_⟩
      refine ⟨_, .inl (SqL.of hb), ?_⟩
      walk_at "w"
      have el : ((as.map V.ref).length : Int) = es.length := by rw [List.length_map, ha.1]
      rw [el]
      refine ifB.dec (fun h1 => ?_) (fun h1 => ?_)
      · walk_at "w"
        refine ⟨⟨_, SqL.of hb⟩, ?_⟩
        intro p1 n1
        refine comp_list (K := K) (a := b) (xs := as.map V.ref) (fun i σ H4 => ∃ v : Option V, σ = [v, some (.int rows), some (.int signs)] ∧ Sub H H4 ∧ H4 p1 = some (.lst (((es.take i).map (entryOk rows signs)).map V.bl))) ?_ ?_ ?_ ?_
        · exact ⟨none, rfl, Sub.new n1, by rw [upd_same]; rfl⟩
        · rintro i σ H4 _ ⟨v, rfl, S4, _⟩
          exact SqL.of (S4 _ _ hb)
        · rintro i x σ H4 hi ⟨v, rfl, S4, g4⟩
          rw [List.getElem?_map] at hi
          obtain ⟨c, hc, rfl⟩ := Option.map_eq_some_iff.1 hi
          obtain ⟨e, he, hE⟩ := ha.at hc
          refine ⟨e, S4 _ _ hE, fun H5 S5 => ?_⟩
          refine ⟨_, S5 _ _ g4, ?_, _, rfl, (S4.trans S5).upd n1, ?_⟩
          · rw [List.length_map, List.length_map, List.length_take]; exact Nat.lt_of_le_of_lt (Nat.min_le_right _ _) (Nat.lt_of_le_of_lt hlen (by decide))
          · rw [upd_same, List.take_add_one, he, List.map_append, List.map_append]; rfl
        · rintro σ H4 ⟨v, rfl, S4, g4⟩
          rw [List.length_map, ha.1, List.take_length] at g4
          refine ⟨_, SqL.of g4, ?_⟩
          rw [all_id]
          have h := h H4 S4
          unfold rowOk at h
          rw [decide_eq_true h1, Bool.true_and] at h
          exact h
      · have h := h H Sub.refl
        unfold rowOk at h
        rw [decide_eq_false h1, Bool.false_and] at h
        exact h
    · exact h.elim
theorem sc_is_machine : FnScope ["machine", "rows", "signs"] ["machine"] (defScope s_is_machine) := ⟨rfl, rfl, rfl, by decide +kernel, rfl, by decide +kernel, by decide +kernel⟩
def Bd (k : Nat) (m : Ma) : Prop := m.length ≤ k ∧ ∀ r ∈ m, r.length ≤ k
def sp_is_machine : Sp := fun vs H Q _ => match vs with
  | [.ref b] => ∃ m : Ma, Mach H b m ∧ Bd 100 m ∧ ∀ H', Sub H H' → Q (.bl (isM m)) H'
  | _ => False
theorem isM_long {m : Ma} (h : ¬ m.length ≤ 4) : isM m = false := by
  unfold isM
  cases m with
  | nil => rfl
  | cons r m => simp only; rw [decide_eq_false h]; rfl
theorem ok_is_machine (T : Tx K mg a) : FnOk P w K mg base CX0 3 a.is_machine a.is_machine_d ["machine"] (sp_is_machine) := by
  have G_is_row := ok_is_row (P := P) (w := w) (base := base) T
  refine T.f_is_machine.ok sc_is_machine (fun vs H Q E h => ?_) (fun cdv A outer s H vs Q E hr h => ?_)
  · unfold sp_is_machine at h
    split at h
    · rfl
    · exact h.elim
  · unfold sp_is_machine at h
    split at h
    · have nd := sc_is_machine.nd
      have hu := hu_of hr
      rename_i b
      obtain ⟨m, ⟨rs, hb, hnd, hrw⟩, ⟨hl1, hl2⟩, h⟩ := h
      refine ⟨_, (pss_cons (ps_set (i := 1) nd rfl (by first | exact Or.inl rfl | exact Or.inr rfl) (pe_callB (q_lenK (K := K) rfl) rfl T.z_len bt_len (pa_cons (qv 0) pa_nil)))
    (pss_cons (ps_c (pt_not (pt_ch q_le q_le pe_int (qv 1) (pe_cv rfl T.c_MOST_ROWS))) (pss_one (ps_ret pe_bl)) pss_nil)
    (pss_cons (ps_set (i := 2) nd rfl (by first | exact Or.inl rfl | exact Or.inr rfl) (pe_callB (q_lenK (K := K) rfl) rfl T.z_len bt_len (pa_cons (pe_ix (q_ixLK (K := K) rfl) (qv 0) pe_int (fun _ _ => rfl)) pa_nil)))
    (pss_cons (ps_c (pt_not (pt_ch q_le q_le (pe_cv rfl T.c_LEAST_SIGNS) (qv 2) (pe_cv rfl T.c_MOST_SIGNS))) (pss_one (ps_ret pe_bl)) pss_nil)
    (pss_one (ps_ret (pe_callB (q_allK (K := K) rfl rfl) rfl T.z_all bt_all (pa_cons (pe_lc (own := ["row"]) (fr := [1, 2]) rfl (by walk_at "comp_ok") (qi_listK (K := K) rfl (qv 0)) (fun _ _ _ _ => (pg_name (i := 0) (show List.Nodup (α := Str) ["row", "rows", "signs"] from by decide +kernel) rfl (by first | exact Or.inl rfl | exact Or.inr rfl))) (fun _ _ _ _ => pts_nil) (fun _ _ _ _ => (pe_call G_is_row (hr.mono (by decide)) rfl T.g_is_row T.f_is_row.kp T.b_is_row .nil pass0 (pa_cons (qv 0) (pa_cons (qv 1) (pa_cons (qv 2) pa_nil)))))) pa_nil)))))))), ?_⟩
      refine ⟨_, .inl (SqL.of hb), ?_⟩
      walk_at "w"
      have el : ((rs.map V.ref).length : Int) = m.length := by rw [List.length_map, hrw.1]
      rw [el]
      have fin : ∀ (c : Bool) (H' : Hp), Sub H H' → isM m = c → Q (.bl c) H' := fun c H' S e => e ▸ h H' S
      refine ifB.dec (fun h1 => ?_) (fun h1 => ?_)
      · walk_at "w"
        refine ifB.ndec (fun h2 => ?_) (fun h2 => ?_)
        · obtain ⟨r0, m', rfl⟩ : ∃ r0 m', m = r0 :: m' := by
            cases m with
            | nil => simp at h1
            | cons r m => exact ⟨r, m, rfl⟩
          obtain ⟨q0, rs', rfl⟩ : ∃ q0 rs', rs = q0 :: rs' := by
            cases rs with
            | nil => have := hrw.1; simp at this
            | cons r rs => exact ⟨r, rs, rfl⟩
          obtain ⟨as0, hq0, ha0⟩ := hrw.2 0 q0 r0 rfl rfl
          refine ⟨_, _, SqL.of hb, atI_nat (j := 0) rfl, ?_⟩
          refine ⟨_, .inl (SqL.of hq0), ?_⟩
          walk_at "w"
          have el0 : ((as0.map V.ref).length : Int) = r0.length := by rw [List.length_map, ha0.1]
          rw [el0]
          have hd : isM (r0 :: m') = (decide ((r0 :: m').length ≤ 4) && decide (2 ≤ r0.length) && decide (r0.length ≤ 4) && (r0 :: m').all (rowOk (r0 :: m').length r0.length)) := rfl
          refine ifB.dec (fun h3 => ?_) (fun h3 => ?_)
          · walk_at "w"
            refine ifB.ndec (fun h4 => ?_) (fun h4 => ?_)
            · walk_at "w"
              refine ⟨⟨_, SqL.of hb⟩, ?_⟩
              intro p1 n1
              refine comp_list (K := K) (a := b) (xs := (q0 :: rs').map V.ref) (fun i σ H4 => ∃ v : Option V, σ = [v, some (.int (r0 :: m').length), some (.int r0.length)] ∧ Sub H H4 ∧ H4 p1 = some (.lst ((((r0 :: m').take i).map (rowOk (r0 :: m').length r0.length)).map V.bl))) ?_ ?_ ?_ ?_
              · exact ⟨none, rfl, Sub.new n1, by rw [upd_same]; rfl⟩
              · rintro i σ H4 _ ⟨v, rfl, S4, _⟩
                exact SqL.of (S4 _ _ hb)
              · rintro i x σ H4 hi ⟨v, rfl, S4, g4⟩
                rw [List.getElem?_map] at hi
                obtain ⟨c, hc, rfl⟩ := Option.map_eq_some_iff.1 hi
                obtain ⟨e, he, hE⟩ := hrw.at hc
                refine ⟨e, hE.stay (.sub S4), hl2 e (List.mem_of_getElem? he), fun H5 S5 => ?_⟩
                refine ⟨_, S5 _ _ g4, ?_, _, rfl, (S4.trans S5).upd n1, ?_⟩
                · rw [List.length_map, List.length_map, List.length_take]; exact Nat.lt_of_le_of_lt (Nat.min_le_right _ _) (Nat.lt_of_le_of_lt hl1 (by decide))
                · rw [upd_same, List.take_add_one, he, List.map_append, List.map_append]; rfl
              · rintro σ H4 ⟨v, rfl, S4, g4⟩
                rw [List.length_map, hrw.1, List.take_length] at g4
                refine ⟨_, SqL.of g4, ?_⟩
                rw [all_id]
                refine fin _ _ S4 ?_
                rw [hd, decide_eq_true (show (r0 :: m').length ≤ 4 by omega), decide_eq_true (show 2 ≤ r0.length by omega), decide_eq_true (show r0.length ≤ 4 by omega)]
                rfl
            · exact fin false _ Sub.refl (by rw [hd, decide_eq_false (show ¬ r0.length ≤ 4 by omega)]; simp)
          · walk_at "w"
            refine ifB.yes rfl ?_
            exact fin false _ Sub.refl (by rw [hd, decide_eq_false (show ¬ 2 ≤ r0.length by omega)]; simp)
        · exact fin false _ Sub.refl (isM_long (by omega))
      · walk_at "w"
        refine ifB.yes rfl ?_
        exact fin false _ Sub.refl (by cases m with
          | nil => rfl
          | cons r m => simp at h1; omega)
    · exact h.elim
theorem sc_must_machine : FnScope ["machine"] ["machine"] (defScope s_must_machine) := ⟨rfl, rfl, rfl, by decide +kernel, rfl, by decide +kernel, by decide +kernel⟩
def sp_must_machine (a : Ad) : Sp := fun vs H Q E => match vs with
  | [.ref b] => ∃ m : Ma, Mach H b m ∧ Bd 100 m ∧ (isM m = true → ∀ H', Sub H H' → Q .non H') ∧ (isM m = false → ∀ H', Sub H H' → E (.ref a.NoMachine) none H')
  | _ => False
theorem ok_must_machine (T : Tx K mg a) : FnOk P w K mg base (CXE P w) 4 a.must_machine a.must_machine_d ["machine"] (sp_must_machine a) := by
  have G_is_machine := ok_is_machine (P := P) (w := w) (base := base) T
  refine T.f_must_machine.okE sc_must_machine (fun vs H Q E h => ?_) (fun cdv A outer s H vs Q E hr h => ?_)
  · unfold sp_must_machine at h
    split at h
    · rfl
    · exact h.elim
  · unfold sp_must_machine at h
    split at h
    · have nd := sc_must_machine.nd
      have hu := hu_of hr
      rename_i b
      obtain ⟨m, hm, hb, h1, h2⟩ := h
      refine ⟨_, (pss_one (ps_c (pt_not (pt_e (pe_call G_is_machine (hr.mono (by decide)) rfl T.g_is_machine T.f_is_machine.kp T.b_is_machine .nil pass0 (pa_cons (qv 0) pa_nil)))) (pss_one (ps_raise rfl T.e_NoMachine rfl T.g_NoMachine wants_fn (pa_cons pe_str pa_nil))) pss_nil)), ?_⟩
      refine ⟨m, hm, hb, fun H1 S1 => ?_⟩
      walk_at "w"
      refine ifB.mk (fun e => ?_) (fun e => ?_)
      · have e : isM m = false := by simpa using e
        walk_at "w"
        exact ⟨by show 1 ≤ sizeLine; decide, h2 e H1 S1⟩
      · have e : isM m = true := by simpa using e
        exact h1 e H1 S1
    · exact h.elim
theorem sc_Walk___init__ : FnScope ["self", "table", "begin", "row", "place", "strip"] ["self", "table", "begin"] (defScope s_Walk___init__) := ⟨rfl, rfl, rfl, by decide +kernel, rfl, by decide +kernel, by decide +kernel⟩
def sp_init (a : Ad) : Sp := fun vs H Q _ => match vs with
  | [.ref o, .ref t, .ref b] => ∃ (dx : Addr) (r p : Int) (ks : Mk2), H o = some (.ins a.Walk dx []) ∧ SU H b r p ks ∧ (ks.map (·.1)).Nodup ∧ ks.length ≤ 10000 ∧ ∀ (d : Addr) (H' : Hp), H d = none → WK a.Walk H' o t d r p ks → (∀ c u, H c = some u → c ≠ o → H' c = some u) → Q .non H'
  | _ => False
theorem ok_Walk___init__ (T : Tx K mg a) : FnOk P w K mg base CX0 1 a.Walk___init__ a.Walk___init___d ["self", "table", "begin"] (sp_init a) := by
  refine T.f_Walk___init__.ok sc_Walk___init__ (fun vs H Q E h => ?_) (fun cdv A outer s H vs Q E hr h => ?_)
  · unfold sp_init at h
    split at h
    · rfl
    · exact h.elim
  · unfold sp_init at h
    split at h
    · have nd := sc_Walk___init__.nd
      have hu := hu_of hr
      rename_i o t b
      obtain ⟨dx, r, p, ks, ho, ⟨l, hb, as, hl, hA⟩, hnd, hlen, h⟩ := h
      refine ⟨_, (pss_cons (ps_asg (qv 2) (qg_tupK (K := K) (n := 3) rfl rfl (qgs_cons (pg_name (i := 3) nd rfl (by first | exact Or.inl rfl | exact Or.inr rfl)) (qgs_cons (pg_name (i := 4) nd rfl (by first | exact Or.inl rfl | exact Or.inr rfl)) (qgs_cons (pg_name (i := 5) nd rfl (by first | exact Or.inl rfl | exact Or.inr rfl)) qgs_nil)))))
    (pss_cons (ps_fld (qv 0) (qv 1) rfl)
    (pss_cons (ps_fld (qv 0) (qv 3) rfl)
    (pss_cons (ps_fld (qv 0) (qv 4) rfl)
    (pss_one (ps_fld (qv 0) (pe_dc (own := ["where", "sign"]) (fr := []) rfl (by walk_at "comp_ok") (qi_listK (K := K) rfl (qv 5)) (fun _ _ _ _ => (qg_tupK (K := K) (n := 2) rfl rfl (qgs_cons (pg_name (i := 0) (show List.Nodup (α := Str) ["where", "sign"] from by decide +kernel) rfl (by first | exact Or.inl rfl | exact Or.inr rfl)) (qgs_cons (pg_name (i := 1) (show List.Nodup (α := Str) ["where", "sign"] from by decide +kernel) rfl (by first | exact Or.inl rfl | exact Or.inr rfl)) qgs_nil)))) (fun _ _ _ _ => pts_nil) (fun _ _ _ _ => (qv 0)) (fun _ _ _ _ => (qv 1))) rfl)))))), ?_⟩
      refine ⟨_, SqT.of hb, rfl, ?_⟩
      refine ⟨_, _, _, _, rfl, ho, T.k_Walk, T.n_Walk_table, by show 0 < 1000; decide, ?_⟩
      generalize hU1 : upd _ o _ = H1
      have f1 : ∀ c u, H c = some u → c ≠ o → H1 c = some u := fun c u e ne => by rw [← hU1, upd_ne ne]; exact e
      have ho1 : H1 o = some (.ins a.Walk dx (putF "table" (.ref t) [])) := by rw [← hU1]; exact upd_same
      clear hU1
      refine ⟨_, _, _, _, rfl, ho1, T.k_Walk, T.n_Walk_row, by show 1 < 1000; decide, ?_⟩
      generalize hU2 : upd _ o _ = H2
      have f2 : ∀ c u, H c = some u → c ≠ o → H2 c = some u := fun c u e ne => by rw [← hU2, upd_ne ne]; exact f1 c u e ne
      have ho2 : H2 o = some (.ins a.Walk dx (putF "row" (.int r) (putF "table" (.ref t) []))) := by rw [← hU2]; exact upd_same
      clear hU2
      refine ⟨_, _, _, _, rfl, ho2, T.k_Walk, T.n_Walk_place, by show 2 < 1000; decide, ?_⟩
      generalize hU3 : upd _ o _ = H3
      have f3 : ∀ c u, H c = some u → c ≠ o → H3 c = some u := fun c u e ne => by rw [← hU3, upd_ne ne]; exact f2 c u e ne
      have ho3 : H3 o = some (.ins a.Walk dx (putF "place" (.int p) (putF "row" (.int r) (putF "table" (.ref t) [])))) := by rw [← hU3]; exact upd_same
      clear hU3
      walk_at "w"
      have nl : l ≠ o := fun z => by rw [z, ho] at hl; cases hl
      refine ⟨⟨_, SqL.of (f3 _ _ hl nl)⟩, ?_⟩
      intro d nd
      have nH : H d = none := by
        cases e : H d with
        | none => rfl
        | some u =>
          by_cases z : d = o
          · rw [z, ho3] at nd; cases nd
          · rw [f3 _ _ e z] at nd; cases nd
      refine comp_list (K := K) (a := l) (xs := as.map V.ref) (fun i σ H4 => ∃ v w : Option V, σ = [v, w] ∧ Sub H3 H4 ∧ H4 d = some (.dK (dcI (iv (ks.take i))))) ?_ ?_ ?_ ?_
      · exact ⟨none, none, rfl, Sub.new nd, upd_same⟩
      · rintro i σ H4 _ ⟨v, w, rfl, S4, _⟩
        exact SqL.of (S4 _ _ (f3 _ _ hl nl))
      · rintro i x σ H4 hi ⟨v, w, rfl, S4, g4⟩
        rw [List.getElem?_map] at hi
        obtain ⟨c, hc, rfl⟩ := Option.map_eq_some_iff.1 hi
        obtain ⟨q', hq, hE⟩ := hA.at hc
        rw [List.getElem?_map] at hq
        obtain ⟨q, hq1, rfl⟩ := Option.map_eq_some_iff.1 hq
        have nc : c ≠ o := fun z => by rw [z, ho] at hE; cases hE
        refine ⟨_, SqT.of (S4 _ _ (f3 _ _ hE nc)), rfl, ?_⟩
        refine ⟨_, .inl q.1, g4, rfl, ?_, _, _, rfl, S4.upd nd, ?_⟩
        · rw [List.length_map, List.length_map, List.length_take]; exact Nat.lt_of_le_of_lt (Nat.min_le_right _ _) (Nat.lt_of_le_of_lt hlen (by decide))
        · rw [upd_same, D_put, take_put hnd hq1]
      · rintro σ H4 ⟨v, w, rfl, S4, g4⟩
        rw [List.length_map, hA.1, List.length_map, List.take_length] at g4
        refine ⟨_, _, _, _, rfl, S4 _ _ ho3, T.k_Walk, T.n_Walk_marks, by show 3 < 1000; decide, ?_⟩
        rw [wf_mk]
        have ndo : d ≠ o := fun z => by rw [z, ho3] at nd; cases nd
        exact h d _ nH ⟨⟨dx, upd_same⟩, by rw [upd_ne ndo]; exact g4⟩ fun c u e ne => by rw [upd_ne ne]; exact S4 _ _ (f3 c u e ne)
    · exact h.elim
theorem sc_Walk_look : FnScope ["self"] ["self"] (defScope s_Walk_look) := ⟨rfl, rfl, rfl, by decide +kernel, rfl, by decide +kernel, by decide +kernel⟩
def sp_look (a : Ad) : Sp := fun vs H Q _ => match vs with
  | [.ref o] => ∃ (t d : Addr) (r p : Int) (ks : Mk2), WK a.Walk H o t d r p ks ∧ ∀ (q : Addr) (H' : Hp), Sub H H' → H' q = some (.tup [.int r, .int p, .int ((valI ks p).getD 0)]) → H q = none → Q (.ref q) H'
  | _ => False
theorem ok_Walk_look (T : Tx K mg a) : FnOk P w K mg base CX0 1 a.Walk_look a.Walk_look_d ["self"] (sp_look a) := by
  refine T.f_Walk_look.ok sc_Walk_look (fun vs H Q E h => ?_) (fun cdv A outer s H vs Q E hr h => ?_)
  · unfold sp_look at h
    split at h
    · rfl
    · exact h.elim
  · unfold sp_look at h
    split at h
    · have nd := sc_Walk_look.nd
      have hu := hu_of hr
      rename_i o
      obtain ⟨t, d, r, p, ks, ⟨⟨dx, ho⟩, hd⟩, h⟩ := h
      refine ⟨_, (pss_one (ps_ret (pe_tup (pa_cons (pe_fld (qv 0) rfl) (pa_cons (pe_fld (qv 0) rfl) (pa_cons (pe_dget2 hu (pe_fld (qv 0) rfl) (pe_fld (qv 0) rfl) pe_int ⟨rfl, rfl, rfl, rfl⟩) pa_nil)))))), ?_⟩
      refine ⟨_, _, _, _, _, rfl, ho, T.k_Walk, T.n_Walk_row, wf_lr _ _ _ _, ?_⟩
      refine ⟨_, _, _, _, _, rfl, ho, T.k_Walk, T.n_Walk_place, wf_lp _ _ _ _, ?_⟩
      refine ⟨_, _, _, _, _, rfl, ho, T.k_Walk, T.n_Walk_marks, wf_lm _ _ _ _, ?_⟩
      refine ⟨_, rfl, .inl ⟨_, .inl hd⟩, ?_⟩
      refine ⟨_, _, _, _, _, rfl, ho, T.k_Walk, T.n_Walk_place, wf_lp _ _ _ _, ?_⟩
      refine ⟨_, DGet.k (k := .inl p) hd, ?_⟩
      rw [D_val, show ((valI ks p).map V.int).getD (V.int 0) = V.int ((valI ks p).getD 0) by cases valI ks p <;> rfl]
      refine ⟨by show 3 ≤ sizeLine; decide, ?_⟩
      intro p1 n1
      generalize hU1 : upd _ p1 _ = H1
      have S1 := (upd_sub n1 hU1).1
      have e1 := (upd_sub n1 hU1).2
      clear hU1
      exact h p1 H1 S1 e1 n1
    · exact h.elim
theorem sc_Walk_entry : FnScope ["self", "row", "place", "sign"] ["self"] (defScope s_Walk_entry) := ⟨rfl, rfl, rfl, by decide +kernel, rfl, by decide +kernel, by decide +kernel⟩
def sp_entry (a : Ad) : Sp := fun vs H Q _ => match vs with
  | [.ref o] => ∃ (t d : Addr) (r p : Int) (ks : Mk2) (m : Ma), WK a.Walk H o t d r p ks ∧ Mach H t m ∧ OkM m ∧ OkS m r ks ∧ ∀ (b : Addr) (e : En) (H' : Hp), Sub H H' → ent m r p ks = some e → entryOk m.length (sgn m) e = true → Ent H' b e → Q (.ref b) H'
  | _ => False
theorem ok_Walk_entry (T : Tx K mg a) : FnOk P w K mg base CX0 2 a.Walk_entry a.Walk_entry_d ["self"] (sp_entry a) := by
  have G_Walk_look := ok_Walk_look (P := P) (w := w) (base := base) T
  refine T.f_Walk_entry.ok sc_Walk_entry (fun vs H Q E h => ?_) (fun cdv A outer s H vs Q E hr h => ?_)
  · unfold sp_entry at h
    split at h
    · rfl
    · exact h.elim
  · unfold sp_entry at h
    split at h
    · have nd := sc_Walk_entry.nd
      have hu := hu_of hr
      rename_i o
      obtain ⟨t, d, r, p, ks, m, W, hm, M, S, h⟩ := h
      refine ⟨_, (pss_cons (ps_asg (pe_meth0 (qv 0) T.k_Walk T.m_Walk_look G_Walk_look (hr.mono (by decide)) T.b_Walk_look .nil pass0) (qg_tupK (K := K) (n := 3) rfl rfl (qgs_cons (pg_name (i := 1) nd rfl (by first | exact Or.inl rfl | exact Or.inr rfl)) (qgs_cons (pg_name (i := 2) nd rfl (by first | exact Or.inl rfl | exact Or.inr rfl)) (qgs_cons (pg_name (i := 3) nd rfl (by first | exact Or.inl rfl | exact Or.inr rfl)) qgs_nil)))))
    (pss_one (ps_ret (pe_ix (q_ixLK (K := K) rfl) (pe_ix (q_ixLK (K := K) rfl) (pe_fld (qv 0) rfl) (qv 1) (fun _ _ => rfl)) (qv 3) (fun _ _ => rfl))))), ?_⟩
      obtain ⟨⟨dx, ho⟩, hd⟩ := id W
      refine ⟨_, _, _, rfl, ho, rfl, ?_⟩
      refine ⟨t, d, r, p, ks, W, fun q H1 S1 hq nq => ?_⟩
      have hm1 := hm.stay (.sub S1)
      obtain ⟨rs, hm1, hnd, hrw⟩ := hm1
      obtain ⟨es, e, h1, h2, h3, h4, h5⟩ := S.at M p
      have hv := S.val M p
      refine ⟨_, SqT.of hq, rfl, ?_⟩
      refine ⟨_, _, _, _, _, rfl, S1 _ _ ho, T.k_Walk, T.n_Walk_table, wf_lt _ _ _ _, ?_⟩
      walk_at "w"
      have hlt : r.toNat < rs.length := by rw [hrw.1]; have := S.r0; have := S.r1; omega
      have hrd : rs[r.toNat]? = some rs[r.toNat] := List.getElem?_eq_getElem hlt
      obtain ⟨es', he', as, hra⟩ := hrw.at hrd
      rw [h1] at he'
      cases he'
      refine ⟨_, _, SqL.of hm1, atI_toNat (v := V.ref rs[r.toNat]) S.r0 (by rw [List.getElem?_map, hrd]; rfl), ?_⟩
      walk_at "w"
      have hlt2 : ((valI ks p).getD 0).toNat < as.length := by rw [hra.2.1, h5]; omega
      have had : as[((valI ks p).getD 0).toNat]? = some as[((valI ks p).getD 0).toNat] := List.getElem?_eq_getElem hlt2
      obtain ⟨e', hee, heb⟩ := hra.2.at had
      rw [h2] at hee
      cases hee
      refine ⟨_, _, SqL.of hra.1, atI_toNat (v := V.ref as[((valI ks p).getD 0).toNat]) hv.1 (by rw [List.getElem?_map, had]; rfl), ?_⟩
      exact h _ e H1 S1 h3 h4 heb
    · exact h.elim
theorem sc_Walk_mark : FnScope ["self", "sign"] ["self", "sign"] (defScope s_Walk_mark) := ⟨rfl, rfl, rfl, by decide +kernel, rfl, by decide +kernel, by decide +kernel⟩
def sp_mark (a : Ad) : Sp := fun vs H Q _ => match vs with
  | [.ref o, .int s] => ∃ (t d : Addr) (r p : Int) (ks : Mk2), WK a.Walk H o t d r p ks ∧ ks.length ≤ 10000 ∧ ∀ H' : Hp, H' d = some (.dK (dcI (iv (nxt ks p s)))) → (∀ c u, H c = some u → c ≠ d → H' c = some u) → Q .non H'
  | _ => False
theorem ok_Walk_mark (T : Tx K mg a) : FnOk P w K mg base CX0 1 a.Walk_mark a.Walk_mark_d ["self", "sign"] (sp_mark a) := by
  refine T.f_Walk_mark.ok sc_Walk_mark (fun vs H Q E h => ?_) (fun cdv A outer s H vs Q E hr h => ?_)
  · unfold sp_mark at h
    split at h
    · rfl
    · exact h.elim
  · unfold sp_mark at h
    split at h
    · have nd := sc_Walk_mark.nd
      have hu := hu_of hr
      rename_i o s'
      obtain ⟨t, d, r, p, ks, ⟨⟨dx, ho⟩, hd⟩, hlen, h⟩ := h
      refine ⟨_, (pss_one (ps_c (pt_c q_eq (qv 1) pe_int) (pss_one (ps_expr (pe_dpop2 (pe_fld (qv 0) rfl) (pe_fld (qv 0) rfl) pe_int ⟨rfl, rfl, rfl, rfl⟩))) (pss_one (ps_dput hu (pe_fld (qv 0) rfl) (pe_fld (qv 0) rfl) (qv 1) rfl)))), ?_⟩
      walk_at "w"
      refine ifB.mk (fun hs => ?_) (fun hs => ?_)
      · walk_at "w"
        refine ⟨_, _, _, _, _, rfl, ho, T.k_Walk, T.n_Walk_marks, wf_lm _ _ _ _, ?_⟩
        refine ⟨_, rfl, .inl ⟨_, .inl hd⟩, ?_⟩
        refine ⟨_, _, _, _, _, rfl, ho, T.k_Walk, T.n_Walk_place, wf_lp _ _ _ _, ?_⟩
        have hs : s' = 0 := of_decide_eq_true hs
        refine ⟨_, .inl p, hd, rfl, fun v _ => ?_, fun hn => ?_⟩
        · rw [D_drop]
          exact h _ (by rw [upd_same]; unfold nxt; rw [if_pos hs]) fun c u e ne => by rw [upd_ne ne]; exact e
        · rw [D_val] at hn
          have hn : valI ks p = none := by
            cases e : valI ks p with
            | none => rfl
            | some z => rw [e] at hn; cases hn
          exact h H (by unfold nxt; rw [if_pos hs, drop_none hn]; exact hd) fun c u e ne => e
      · walk_at "w"
        refine ⟨_, _, _, _, _, rfl, ho, T.k_Walk, T.n_Walk_marks, wf_lm _ _ _ _, ?_⟩
        refine ⟨_, _, _, _, _, rfl, ho, T.k_Walk, T.n_Walk_place, wf_lp _ _ _ _, ?_⟩
        have hs : ¬ s' = 0 := of_decide_eq_false hs
        refine ⟨_, _, rfl, DPut.k (k := .inl p) hd ?_, ?_⟩
        · rw [List.length_map, List.length_map]; exact Nat.lt_of_le_of_lt hlen (by decide)
        · rw [D_put]
          exact h _ (by rw [upd_same]; unfold nxt; rw [if_neg hs]) fun c u e ne => by rw [upd_ne ne]; exact e
    · exact h.elim
theorem sc_Walk_step : FnScope ["self", "entry", "sign", "way", "row"] ["self"] (defScope s_Walk_step) := ⟨rfl, rfl, rfl, by decide +kernel, rfl, by decide +kernel, by decide +kernel⟩
/-- one step: none where the entry is empty -/
def sp_step (a : Ad) : Sp := fun vs H Q _ => match vs with
  | [.ref o] => ∃ (t d : Addr) (r p : Int) (ks : Mk2) (m : Ma), WK a.Walk H o t d r p ks ∧ Mach H t m ∧ OkM m ∧ OkS m r ks ∧ ks.length ≤ 10000 ∧
      (ent m r p ks = some [] → ∀ H', Sub H H' → Q (.bl false) H') ∧
      ∀ (s w r' : Int) (H' : Hp), ent m r p ks = some [s, w, r'] → entryOk m.length (sgn m) [s, w, r'] = true → WK a.Walk H' o t d r' (p + w) (nxt ks p s) → (∀ c u, H c = some u → c ≠ o → c ≠ d → H' c = some u) → Q (.bl true) H'
  | _ => False
theorem ok_Walk_step (T : Tx K mg a) : FnOk P w K mg base CX0 3 a.Walk_step a.Walk_step_d ["self"] (sp_step a) := by
  have G_Walk_entry := ok_Walk_entry (P := P) (w := w) (base := base) T
  have G_Walk_mark := ok_Walk_mark (P := P) (w := w) (base := base) T
  refine T.f_Walk_step.ok sc_Walk_step (fun vs H Q E h => ?_) (fun cdv A outer s H vs Q E hr h => ?_)
  · unfold sp_step at h
    split at h
    · rfl
    · exact h.elim
  · unfold sp_step at h
    split at h
    · have nd := sc_Walk_step.nd
      have hu := hu_of hr
      rename_i o
      obtain ⟨t, d, r, p, ks, m, W, hm, M, S, hlen, h0, h1⟩ := h
      refine ⟨_, (pss_cons (ps_set (i := 1) nd rfl (by first | exact Or.inl rfl | exact Or.inr rfl) (pe_meth0 (qv 0) T.k_Walk T.m_Walk_entry G_Walk_entry (hr.mono (by decide)) T.b_Walk_entry .nil pass0))
    (pss_cons (ps_c (pt_c (op_eqD hr) (qv 1) (pe_tup pa_nil)) (pss_one (ps_ret pe_bl)) pss_nil)
    (pss_cons (ps_asg (qv 1) (qg_tupK (K := K) (n := 3) rfl rfl (qgs_cons (pg_name (i := 2) nd rfl (by first | exact Or.inl rfl | exact Or.inr rfl)) (qgs_cons (pg_name (i := 3) nd rfl (by first | exact Or.inl rfl | exact Or.inr rfl)) (qgs_cons (pg_name (i := 4) nd rfl (by first | exact Or.inl rfl | exact Or.inr rfl)) qgs_nil)))))
    (pss_cons (ps_expr (pe_meth (qv 0) T.k_Walk T.m_Walk_mark G_Walk_mark (hr.mono (by decide)) T.b_Walk_mark .nil pass0 (pa_cons (qv 2) pa_nil)))
    (pss_cons (ps_fldaug (qv 0) (qv 3) in_add)
    (pss_cons (ps_fld (qv 0) (qv 4) rfl)
    (pss_one (ps_ret pe_bl)))))))), ?_⟩
      obtain ⟨⟨dx, ho⟩, hd⟩ := id W
      refine ⟨_, _, _, rfl, ho, rfl, ?_⟩
      refine ⟨t, d, r, p, ks, m, W, hm, M, S, fun b e H0 S0 he hok hE => ?_⟩
      refine ⟨by show 0 ≤ sizeLine; decide, ?_⟩
      intro p1 n1
      generalize hU1 : upd _ p1 _ = H1
      have S1 := (upd_sub n1 hU1).1
      have e1 := (upd_sub n1 hU1).2
      clear hU1
      have W1 := (W.sub S0).sub S1
      obtain ⟨⟨dx1, ho1⟩, hd1⟩ := id W1
      refine ⟨_, _, (Ent.den (e := e) (S1 _ _ hE)), (Ent.den (e := []) e1), dep_dE1 _, ?_⟩
      rw [eqD_dE]
      walk_at "w"
      refine ifB.dec (fun z => ?_) (fun z => ?_)
      · subst z
        exact h0 he H1 (S0.trans S1)
      · obtain ⟨s', w', r', rfl, a0, a1, a2, a3, a4⟩ := entryOk_three hok z
        refine ⟨_, SqT.of (S1 _ _ hE), rfl, ?_⟩
        refine ⟨_, _, _, rfl, ho1, rfl, ?_⟩
        refine ⟨t, d, r, p, ks, W1, hlen, fun H2 g2 k2 => ?_⟩
        have nod : o ≠ d := fun q => by rw [q, hd1] at ho1; cases ho1
        have ho2 := k2 _ _ ho1 nod
        refine ⟨_, _, _, _, _, rfl, ho2, T.k_Walk, T.n_Walk_place, wf_lp _ _ _ _, ?_⟩
        refine ⟨_, _, rfl, rfl, ?_⟩
        refine ⟨_, _, ho2, wf_len _ _ _ _, ?_⟩
        rw [wf_place]
        refine ⟨_, _, _, _, rfl, upd_same, T.k_Walk, T.n_Walk_row, wf_len _ _ _ _, ?_⟩
        rw [wf_row]
        walk_at "w"
        refine h1 s' w' r' _ he hok ⟨⟨_, upd_same⟩, by rw [upd_ne nod.symm, upd_ne nod.symm]; exact g2⟩ fun c u e hc1 hc2 => by rw [upd_ne hc1, upd_ne hc1]; exact k2 _ _ ((S0.trans S1) _ _ e) hc2
    · exact h.elim
theorem sc_near_place : FnScope ["many", "side"] ["many", "side"] (defScope s_near_place) := ⟨rfl, rfl, rfl, by decide +kernel, rfl, by decide +kernel, by decide +kernel⟩
def sp_near : Sp := fun vs H Q _ => match vs with
  | [.int n, .int side] => Q (.int (if side = -1 then 0 else n - 1)) H
  | _ => False
theorem ok_near_place (T : Tx K mg a) : FnOk P w K mg base CX0 1 a.near_place a.near_place_d ["many", "side"] (sp_near) := by
  refine T.f_near_place.ok sc_near_place (fun vs H Q E h => ?_) (fun cdv A outer s H vs Q E hr h => ?_)
  · unfold sp_near at h
    split at h
    · rfl
    · exact h.elim
  · unfold sp_near at h
    split at h
    · have nd := sc_near_place.nd
      have hu := hu_of hr
      rename_i n side
      refine ⟨_, (pss_one (ps_ret (pe_ifE (pt_c q_eq (qv 1) (pe_un q_neg pe_int)) pe_int (pe_op q_sub (qv 0) pe_int)))), ?_⟩
      walk_at "w"
      refine ifB.dec (fun z => ?_) (fun z => ?_)
      · rw [if_pos z] at h; exact h
      · rw [if_neg z] at h; exact h
    · exact h.elim
theorem sc_signs_in : FnScope ["walk", "many"] ["walk", "many"] (defScope s_signs_in) := ⟨rfl, rfl, rfl, by decide +kernel, rfl, by decide +kernel, by decide +kernel⟩
def sp_signs (a : Ad) : Sp := fun vs H Q _ => match vs with
  | [.ref o, .int n] => ∃ (t d : Addr) (r p : Int) (ks : Mk2), WK a.Walk H o t d r p ks ∧ 0 ≤ n ∧ n ≤ 1000 ∧ ∀ (q : Addr) (H' : Hp), Sub H H' → H q = none → H' q = some (.tup ((sgs ks n.toNat).map V.int)) → Q (.ref q) H'
  | _ => False
theorem ok_signs_in (T : Tx K mg a) : FnOk P w K mg base CX0 1 a.signs_in a.signs_in_d ["walk", "many"] (sp_signs a) := by
  refine T.f_signs_in.ok sc_signs_in (fun vs H Q E h => ?_) (fun cdv A outer s H vs Q E hr h => ?_)
  · unfold sp_signs at h
    split at h
    · rfl
    · exact h.elim
  · unfold sp_signs at h
    split at h
    · have nd := sc_signs_in.nd
      have hu := hu_of hr
      rename_i o n
      obtain ⟨t, d, r, p, ks, W, n0, n1, h⟩ := h
      refine ⟨_, (pss_one (ps_ret (pe_callTy (q_tupOK (K := K) rfl) rfl T.z_tuple bt_tuple (pa_cons (pe_lc (own := ["place"]) (fr := [0]) rfl (by walk_at "comp_ok") (qi_range1 rfl T.z_range (pa_cons (qv 1) pa_nil)) (fun _ _ _ _ => (pg_name (i := 0) (show List.Nodup (α := Str) ["place", "walk"] from by decide +kernel) rfl (by first | exact Or.inl rfl | exact Or.inr rfl))) (fun _ _ _ _ => pts_nil) (fun _ _ _ _ => (pe_dget2 hu (pe_fldK (K := K) rfl (qv 1) rfl) (qv 0) pe_int ⟨rfl, rfl, rfl, rfl⟩))) pa_nil)))), ?_⟩
      obtain ⟨⟨dx, ho⟩, hd⟩ := id W
      refine ⟨⟨by omega, by omega⟩, ?_⟩
      intro pt npt
      refine comp_range (lo := 0) (n := n.toNat) (fun i σ H1 => ∃ v : Option V, σ = [v, some (.ref o)] ∧ Sub H H1 ∧ H1 pt = some (.lst ((sgs ks i).map V.int))) ?_ ?_ ?_
      · exact ⟨none, rfl, Sub.new npt, upd_same⟩
      · rintro i σ H1 hi ⟨v, rfl, S1, g1⟩
        refine ⟨_, _, _, _, _, rfl, S1 _ _ ho, T.k_Walk, T.n_Walk_marks, wf_lm _ _ _ _, ?_⟩
        refine ⟨_, rfl, .inl ⟨_, .inl (S1 _ _ hd)⟩, ?_⟩
        refine ⟨_, DGet.k (k := .inl (0 + (i : Int))) (S1 _ _ hd), ?_⟩
        rw [D_val, show ((valI ks (0 + (i : Int))).map V.int).getD (V.int 0) = V.int ((valI ks (0 + (i : Int))).getD 0) by cases valI ks (0 + (i : Int)) <;> rfl, Int.zero_add]
        refine ⟨_, g1, ?_, _, rfl, S1.upd npt, ?_⟩
        · rw [List.length_map, sgs_len]; exact Nat.lt_of_le_of_lt (show i ≤ 1000 by omega) (by decide)
        · rw [upd_same]
          unfold sgs
          rw [List.range_succ, List.map_append, List.map_append]
          rfl
      · rintro σ H1 ⟨v, rfl, S1, g1⟩
        refine ⟨_, .inl (.inl g1), ?_⟩
        intro p2 n2
        generalize hU2 : upd _ p2 _ = H2
        have S2 := (upd_sub n2 hU2).1
        have e2 := (upd_sub n2 hU2).2
        clear hU2
        exact h p2 H2 (S1.trans S2) (S1.free n2) e2
    · exact h.elim
theorem sc_through : FnScope ["machine", "block", "row", "side", "many", "walk", "seen", "steps", "key"] ["machine", "block", "row", "side"] (defScope s_through) := ⟨rfl, rfl, rfl, by decide +kernel, rfl, by decide +kernel, by decide +kernel⟩
def sp_through (a : Ad) : Sp := fun vs H Q _ => match vs with
  | [.ref t, .ref b, .int r, .int side] => ∃ (m : Ma) (ns : List Int), Mach H t m ∧ isM m = true ∧ H b = some (.tup (ns.map V.int)) ∧ OkB m ns.length (r, (if side = -1 then 0 else (ns.length : Int) - 1), ns) ∧ 1 ≤ ns.length ∧ ns.length ≤ 4 ∧
      ∀ (res : TRes) (q : Addr) (H' : Hp), Sub H H' → Thr m [] (r, (if side = -1 then 0 else (ns.length : Int) - 1), ns) 0 res → TRat H' q res → H q = none → Q (.ref q) H'
  | _ => False
theorem bd_of {m : Ma} (h : isM m = true) : Bd 100 m := by
  have M := OkM.of h
  exact ⟨Nat.le_trans M.n4 (by decide), fun r hr => by have := M.len r hr; have := M.s4; omega⟩
theorem ok_through (T : Tx K mg a) : FnOk P w K mg base CX0 5 a.through a.through_d ["machine", "block", "row", "side"] (sp_through a) := by
  have G_Walk___init__ := ok_Walk___init__ (P := P) (w := w) (base := base) T
  have G_near_place := ok_near_place (P := P) (w := w) (base := base) T
  have G_signs_in := ok_signs_in (P := P) (w := w) (base := base) T
  have G_Walk_step := ok_Walk_step (P := P) (w := w) (base := base) T
  have G_must_machine := (ok_must_machine (P := P) (w := w) (base := base) T).noE
  refine T.f_through.ok sc_through (fun vs H Q E h => ?_) (fun cdv A outer s H vs Q E hr h => ?_)
  · unfold sp_through at h
    split at h
    · rfl
    · exact h.elim
  · unfold sp_through at h
    split at h
    · have nd := sc_through.nd
      have hu := hu_of hr
      rename_i t b r side
      obtain ⟨m, ns, hm, hM, hb, hok, hl1, hl4, h⟩ := h
      have M := OkM.of hM
      refine ⟨_, (pss_cons (ps_expr (pe_call G_must_machine (hr.mono (by decide)) rfl T.g_must_machine T.f_must_machine.kp T.b_must_machine .nil pass0 (pa_cons (qv 0) pa_nil)))
    (pss_cons (ps_set (i := 4) nd rfl (by first | exact Or.inl rfl | exact Or.inr rfl) (pe_callB (q_lenK (K := K) rfl) rfl T.z_len bt_len (pa_cons (qv 1) pa_nil)))
    (pss_cons (ps_set (i := 5) nd rfl (by first | exact Or.inl rfl | exact Or.inr rfl) (pe_make T.mk_Walk G_Walk___init__ (hr.mono (by decide)) rfl T.g_Walk T.b_Walk___init__ .nil pass0 (pa_cons (qv 0) (pa_cons (pe_tup (pa_cons (qv 2) (pa_cons (pe_call G_near_place (hr.mono (by decide)) rfl T.g_near_place T.f_near_place.kp T.b_near_place .nil pass0 (pa_cons (qv 4) (pa_cons (qv 3) pa_nil))) (pa_cons (pe_lenum (K := K) rfl rfl rfl T.z_list rfl T.z_enumerate (pa_cons (qv 1) pa_nil)) pa_nil)))) pa_nil))))
    (pss_cons (ps_set (i := 6) nd rfl (by first | exact Or.inl rfl | exact Or.inr rfl) pe_dnewN)
    (pss_cons (ps_set (i := 7) nd rfl (by first | exact Or.inl rfl | exact Or.inr rfl) pe_int)
    (pss_cons (ps_while PassesOwn.never (pt_ch q_le q_lt pe_int (pe_fld (qv 5) rfl) (qv 4)) (pss_cons (ps_set (i := 8) nd rfl (by first | exact Or.inl rfl | exact Or.inr rfl) (pe_tup (pa_cons (pe_fld (qv 5) rfl) (pa_cons (pe_fld (qv 5) rfl) (pa_cons (pe_call G_signs_in (hr.mono (by decide)) rfl T.g_signs_in T.f_signs_in.kp T.b_signs_in .nil pass0 (pa_cons (qv 5) (pa_cons (qv 4) pa_nil))) pa_nil)))))
        (pss_cons (ps_c (pt_c (op_inN hr) (qv 8) (qv 6)) (pss_one (ps_ret (pe_tup (pa_cons pe_str pa_nil)))) pss_nil)
        (pss_cons (ps_dputN hr (qv 6) (qv 8) pe_bl rfl)
        (pss_cons (ps_c (pt_not (pt_e (pe_meth0 (qv 5) T.k_Walk T.m_Walk_step G_Walk_step (hr.mono (by decide)) T.b_Walk_step .nil pass0))) (pss_one (ps_ret (pe_tup (pa_cons pe_str (pa_cons (pe_call G_signs_in (hr.mono (by decide)) rfl T.g_signs_in T.f_signs_in.kp T.b_signs_in .nil pass0 (pa_cons (qv 5) (pa_cons (qv 4) pa_nil))) (pa_cons (pe_fld (qv 5) rfl) (pa_cons (pe_fld (qv 5) rfl) (pa_cons (qv 7) pa_nil)))))))) pss_nil)
        (pss_one (ps_aug (i := 7) nd rfl (by first | exact Or.inl rfl | exact Or.inr rfl) pe_int ip_add)))))))
    (pss_one (ps_ret (pe_tup (pa_cons pe_str (pa_cons (pe_call G_signs_in (hr.mono (by decide)) rfl T.g_signs_in T.f_signs_in.kp T.b_signs_in .nil pass0 (pa_cons (qv 5) (pa_cons (qv 4) pa_nil))) (pa_cons (pe_fld (qv 5) rfl) (pa_cons (pe_ifE (pt_c q_lt (pe_fld (qv 5) rfl) pe_int) (pe_un q_neg pe_int) pe_int) (pa_cons (qv 7) pa_nil)))))))))))))), ?_⟩
      refine ⟨m, hm, bd_of hM, fun _ H1 S1 => ?_, fun z => by rw [hM] at z; cases z⟩
      refine ⟨_, .inr (SqT.of (S1 _ _ hb)), ?_⟩
      rw [List.length_map]
      refine ⟨ns, SqT.of (S1 _ _ hb), fun l H2 S2 n2 hS => ?_⟩
      refine ⟨by show 3 ≤ sizeLine; decide, ?_⟩
      intro p3 n3
      generalize hU3 : upd _ p3 _ = H3
      have S3 := (upd_sub n3 hU3).1
      have e3 := (upd_sub n3 hU3).2
      clear hU3
      walk_at "w"
      intro o dx no ndx ne
      have T4 : Sub H3 (upd (upd H3 dx (.own o)) o (.ins a.Walk dx [])) := (Sub.new ndx).upd no
      refine ⟨dx, r, _, enm 0 ns, upd_same, ⟨l, T4 _ _ e3, (hS.sub S3).sub T4⟩, (enm_keys ns 0).2, by rw [enm_len]; omega, fun d H5 nd5 W5 k5 => ⟨rfl, ?_⟩⟩
      have S35 : Sub H3 H5 := fun c u e => k5 c u (T4 _ _ e) (ne_of_none e no)
      have S05 : Sub H H5 := ((S1.trans S2).trans S3).trans S35
      have no0 : H o = none := (S1.trans (S2.trans S3)).free no
      have nd0 : H d = none := (S1.trans (S2.trans S3)).free (T4.free nd5)
      walk_at "w"
      intro sd H6 nsd hH6 D6
      have S6 : Sub H5 H6 := by rw [hH6]; exact Sub.new nsd
      clear hH6
      have nsd0 : H sd = none := S05.free nsd
      walk_at "w"
      generalize hp0 : (if side = -1 then (0 : Int) else (ns.length : Int) - 1) = pl at *
      refine ⟨fun k σ H7 => ∃ (x : Bs) (ks : Mk2) (seen : List Bs) (kvs : List (NK × Addr × V)) (v8 : Option V), k = 4097 - seen.length ∧ σ = [some (.ref t), some (.ref b), some (.int r), some (.int side), some (.int ns.length), some (.ref o), some (.ref sd), some (.int seen.length), v8] ∧ Sub H H7 ∧ WK a.Walk H7 o t d x.1 x.2.1 ks ∧ x.2.2 = sgs ks ns.length ∧ OkS m x.1 ks ∧ ks.length ≤ 4 + seen.length ∧ DNx H7 sd kvs ∧ kvs.map (·.1) = seen.map keyB ∧ seen.Nodup ∧ (∀ y ∈ seen, OkB m ns.length y ∧ insd y) ∧ OkB m ns.length x ∧ (∀ res, Thr m seen x seen.length res → Thr m [] (r, pl, ns) 0 res),
        ⟨_, (r, pl, ns), enm 0 ns, [], [], none, rfl, rfl, S05.trans S6, W5.sub S6, (sgs_enm ns).symm, ⟨hok.r0, hok.r1, fun q hq => hok.sg _ (enm_mem hq), (enm_keys ns 0).2⟩, by rw [enm_len]; show ns.length ≤ 4 + 0; omega, D6, rfl, by simp, by simp, hok, fun res z => z⟩, ?_⟩
      rintro k σ H7 ⟨x, ks, seen, kvs, v8, rfl, rfl, S7, W7, hx, hS7, hkl, D7, hkv, hnd, hse, hok7, hthr⟩
      have hsl := seen_le M hl4 hnd hse
      obtain ⟨⟨dx7, ho7⟩, hd7⟩ := id W7
      have nod : o ≠ d := fun q => by rw [q, hd7] at ho7; cases ho7
      obtain ⟨xs7, hsd7, _⟩ := D7.ex
      have nso : sd ≠ o := fun q => by rw [q, ho7] at hsd7; cases hsd7
      have nsdd : sd ≠ d := fun q => by rw [q, hd7] at hsd7; cases hsd7
      have hins : insd x ↔ (0 ≤ x.2.1 ∧ x.2.1 < (ns.length : Int)) := by unfold insd; rw [hok7.len]
      refine ⟨_, _, _, _, _, rfl, ho7, T.k_Walk, T.n_Walk_place, wf_lp _ _ _ _, ?_⟩
      walk_at "w"
      have outs : ¬ insd x → ∀ (Hx : Hp), Sub H Hx → WK a.Walk Hx o t d x.1 x.2.1 ks → ∀ (q : Addr) (Hy : Hp), Sub Hx Hy → Hx q = none → Hy q = some (.tup ((sgs ks ns.length).map V.int)) →
          ∀ (p : Addr) (Hz : Hp), Sub Hy Hz → Hz p = some (.tup [.str "out", .ref q, .int x.1, .int (if x.2.1 < 0 then -1 else 1), .int seen.length]) → Hy p = none → Q (.ref p) Hz := fun ni Hx Sx Wx q Hy Sy nq hq p Hz Sz hp np =>
        h _ p Hz (Sx.trans (Sy.trans Sz)) (hthr _ (.out ni)) ⟨q, hp, by rw [hx]; exact Sz _ _ hq⟩ ((Sx.trans Sy).free np)
      refine ifB.dec (fun z0 => ?_) (fun z0 => ?_)
      · walk_at "w"
        by_cases z1 : x.2.1 < (ns.length : Int)
        · refine ite_yes (c := x.2.1 < (ns.length : Int)) z1 ?_
          have hi : insd x := hins.2 ⟨z0, z1⟩
          refine ⟨_, fun σ' H' z => z, ?_⟩
          refine ⟨_, _, _, _, _, rfl, ho7, T.k_Walk, T.n_Walk_row, wf_lr _ _ _ _, ?_⟩
          refine ⟨_, _, _, _, _, rfl, ho7, T.k_Walk, T.n_Walk_place, wf_lp _ _ _ _, ?_⟩
          refine ⟨t, d, x.1, x.2.1, ks, W7, by omega, by omega, fun q H8 S8 nq hq => ?_⟩
          rw [show ((ns.length : Int)).toNat = ns.length from rfl, ← hx] at hq
          refine ⟨by show 3 ≤ sizeLine; decide, ?_⟩
          intro p9 n9
          generalize hU9 : upd _ p9 _ = H9
          have S9 := (upd_sub n9 hU9).1
          have e9 := (upd_sub n9 hU9).2
          clear hU9
          have S79 := S8.trans S9
          have hkey : DenN H9 (keyB x) (.ref p9) := denN_key e9 (S9 _ _ hq)
          have D9 := D7.sub S79
          have W9 := W7.sub S79
          obtain ⟨⟨dx9, ho9⟩, hd9⟩ := id W9
          refine ⟨p9, sd, keyB x, kvs, rfl, rfl, keyB_dep _, hkey, D9, ?_⟩
          rw [hkv]
          walk_at "w"
          refine ifB.dec (fun hin => ?_) (fun hin => ?_)
          · obtain ⟨y, hy, hyk⟩ := List.mem_map.1 hin
            have hys : x ∈ seen := by rw [← keyB_inj hyk]; exact hy
            refine ⟨by show 1 ≤ sizeLine; decide, ?_⟩
            intro p10 n10
            generalize hU10 : upd _ p10 _ = H10
            have S10 := (upd_sub n10 hU10).1
            have e10 := (upd_sub n10 hU10).2
            clear hU10
            exact h .stay p10 H10 ((S7.trans S79).trans S10) (hthr _ (.stay hi hys)) e10 ((S7.trans S79).free n10)
          · have hns : x ∉ seen := fun z => hin (List.mem_map.2 ⟨x, z, rfl⟩)
            have hkvl : kvs.length = seen.length := by have := congrArg List.length hkv; simpa using this
            refine ⟨sd, p9, keyB x, kvs, rfl, rfl, keyB_dep _, hkey, D9, by rw [hkv]; exact hin, by rw [hkvl]; exact Nat.lt_of_le_of_lt hsl (by decide), fun H10 k10 f10 D10 => ?_⟩
            have S010 : Sub H H10 := fun c u e => k10 c u ((S7.trans S79) _ _ e) (ne_of_none e nsd0)
            have W10 : WK a.Walk H10 o t d x.1 x.2.1 ks := ⟨⟨dx9, k10 _ _ ho9 nso.symm⟩, k10 _ _ hd9 nsdd.symm⟩
            obtain ⟨⟨dx10, ho10⟩, hd10⟩ := id W10
            refine ⟨_, _, _, rfl, ho10, rfl, ?_⟩
            refine ⟨t, d, x.1, x.2.1, ks, m, W10, hm.stay (.sub S010), M, hS7, by omega, fun he H11 S11 => ?_, fun s' w' r' H11 he hE W11 k11 => ?_⟩
            · have hbe : bent m x = some [] := by
                have := bent_ent (m := m) (ks := ks) (r := x.1) z0 z1
                rw [← hx] at this
                exact this.trans he
              have W11 := W10.sub S11
              obtain ⟨⟨dx11, ho11⟩, hd11⟩ := id W11
              walk_at "w"
              refine ifB.yes rfl ?_
              refine ⟨t, d, x.1, x.2.1, ks, W11, by omega, by omega, fun q H12 S12 nq12 hq12 => ?_⟩
              rw [show ((ns.length : Int)).toNat = ns.length from rfl, ← hx] at hq12
              refine ⟨_, _, _, _, _, rfl, S12 _ _ ho11, T.k_Walk, T.n_Walk_row, wf_lr _ _ _ _, ?_⟩
              refine ⟨_, _, _, _, _, rfl, S12 _ _ ho11, T.k_Walk, T.n_Walk_place, wf_lp _ _ _ _, ?_⟩
              refine ⟨by show 5 ≤ sizeLine; decide, ?_⟩
              intro p13 n13
              generalize hU13 : upd _ p13 _ = H13
              have S13 := (upd_sub n13 hU13).1
              have e13 := (upd_sub n13 hU13).2
              clear hU13
              have S013 := (S010.trans S11).trans (S12.trans S13)
              exact h _ p13 H13 S013 (hthr _ (.fin hi hns hbe)) ⟨q, e13, S13 _ _ hq12⟩ ((S010.trans (S11.trans S12)).free n13)
            · have hbe : bent m x = some [s', w', r'] := by
                have := bent_ent (m := m) (ks := ks) (r := x.1) z0 z1
                rw [← hx] at this
                exact this.trans he
              obtain ⟨s2, w2, r2, e2, a0, a1, a2, a3, a4⟩ := entryOk_three hE (by simp)
              cases e2
              walk_at "w"
              refine ifB.no rfl ?_
              refine ⟨_, rfl, ?_⟩
              refine ⟨_, _, rfl, rfl, ?_⟩
              have S011 : Sub H H11 := fun c u e => k11 c u (S010 _ _ e) (ne_of_none e no0) (ne_of_none e nd0)
              have hnl := nxt_len ks x.2.1 s'
              have hslen : ((seen ++ [x]).length : Int) = (seen.length : Int) + 1 := by rw [List.length_append]; rfl
              refine ⟨4097 - (seen ++ [x]).length, ?_, bnx x s' w' r', nxt ks x.2.1 s', seen ++ [x], kvs ++ [(keyB x, p9, V.bl true)], some (.ref p9), rfl, ?_, S011, W11, ?_, hS7.nxt a0 a1 a3 a4, ?_, ?_, ?_, ?_, ?_, hok7.nx a0 a1 a3 a4, ?_⟩
              · rw [List.length_append, List.length_singleton]; omega
              · rw [hslen]; rfl
              · show x.2.2.set x.2.1.toNat s' = _
                rw [hx, sgs_nxt z0]
              · rw [List.length_append, List.length_singleton]; omega
              · exact D10.keep (fun u e => k11 _ _ e nso nsdd) fun c xs e => k11 _ _ e (by rintro rfl; rw [ho10] at e; cases e) (by rintro rfl; rw [hd10] at e; cases e)
              · rw [List.map_append, List.map_append, hkv]; rfl
              · exact List.nodup_append.2 ⟨hnd, by simp, fun u hu v hv => by rw [List.mem_singleton.1 hv]; rintro rfl; exact hns hu⟩
              · intro y hy
                rcases List.mem_append.1 hy with hy | hy
                · exact hse y hy
                · rw [List.mem_singleton.1 hy]; exact ⟨hok7, hi⟩
              · intro res z
                rw [hslen] at z
                exact hthr _ (.step hi hns hbe z)
        · refine ite_not (c := x.2.1 < (ns.length : Int)) z1 ?_
          have ni : ¬ insd x := fun q => z1 (hins.1 q).2
          refine ⟨t, d, x.1, x.2.1, ks, W7, by omega, by omega, fun q H12 S12 nq12 hq12 => ?_⟩
          rw [show ((ns.length : Int)).toNat = ns.length from rfl] at hq12
          refine ⟨_, _, _, _, _, rfl, S12 _ _ ho7, T.k_Walk, T.n_Walk_row, wf_lr _ _ _ _, ?_⟩
          refine ⟨_, _, _, _, _, rfl, S12 _ _ ho7, T.k_Walk, T.n_Walk_place, wf_lp _ _ _ _, ?_⟩
          walk_at "w"
          refine ifB.no (by first | exact decide_eq_true (by omega) | exact decide_eq_false (by omega)) ?_
          refine ⟨by show 5 ≤ sizeLine; decide, ?_⟩
          intro p13 n13
          generalize hU13 : upd _ p13 _ = H13
          have S13 := (upd_sub n13 hU13).1
          have e13 := (upd_sub n13 hU13).2
          clear hU13
          refine outs ni H7 S7 W7 q H12 S12 nq12 hq12 p13 H13 S13 ?_ n13
          rw [if_neg (by omega)]
          exact e13
      · have ni : ¬ insd x := fun q => z0 (hins.1 q).1
        refine ⟨t, d, x.1, x.2.1, ks, W7, by omega, by omega, fun q H12 S12 nq12 hq12 => ?_⟩
        rw [show ((ns.length : Int)).toNat = ns.length from rfl] at hq12
        refine ⟨_, _, _, _, _, rfl, S12 _ _ ho7, T.k_Walk, T.n_Walk_row, wf_lr _ _ _ _, ?_⟩
        refine ⟨_, _, _, _, _, rfl, S12 _ _ ho7, T.k_Walk, T.n_Walk_place, wf_lp _ _ _ _, ?_⟩
        walk_at "w"
        refine ifB.yes (by first | exact decide_eq_true (by omega) | exact decide_eq_false (by omega)) ?_
        refine ⟨by show 5 ≤ sizeLine; decide, ?_⟩
        intro p13 n13
        generalize hU13 : upd _ p13 _ = H13
        have S13 := (upd_sub n13 hU13).1
        have e13 := (upd_sub n13 hU13).2
        clear hU13
        refine outs ni H7 S7 W7 q H12 S12 nq12 hq12 p13 H13 S13 ?_ n13
        rw [if_pos (by omega)]
        exact e13
    · exact h.elim
theorem sc_l_entry : FnScope ["_law_purse_here", "_law_rows", "_law_signs", "_law_row", "_law_few", "_law_put", "_law_way", "_law_to"] ["_law_purse_here", "_law_rows", "_law_signs", "_law_row", "_law_few"] (defScope s_l_entry) := ⟨rfl, rfl, rfl, by decide +kernel, rfl, by decide +kernel, by decide +kernel⟩
def sp_lentry : Sp := fun vs H Q _ => match vs with
  | [.ref pp, .int rows, .int signs, .int row, .int few] => ∃ n c m : Int, H pp = some (.lst [.int n, .int c, .int m]) ∧ (0 ≤ m ∧ m ≤ 1000000) ∧ (1 ≤ rows ∧ rows ≤ 4) ∧ (1 ≤ signs ∧ signs ≤ 4) ∧ (0 ≤ row ∧ row < rows) ∧ (1 ≤ few ∧ few ≤ 60) ∧
      ∀ (b : Addr) (e : En) (H' : Hp) (n' m' : Int), P3 pp c H H' → H' pp = some (.lst [.int n', .int c, .int m']) → m ≤ m' → m' ≤ m + 10 → Ent H' b e → entryOk rows signs e = true → Q (.ref b) H'
  | _ => False
/-- one of two -/
theorem pick2 {u v : V} (b : Bool) : atI [u, v] (if b = true then 1 else 0) = some (if b = true then v else u) := by cases b <;> rfl
theorem ok_l_entry (T : Tx K mg a) : FnOk P w K mg base CX0 3 a.l_entry a.l_entry_d ["_law_purse_here", "_law_rows", "_law_signs", "_law_row", "_law_few"] (sp_lentry) := by
  have G_l_draw := ok_l_draw (P := P) (w := w) (base := base) T
  refine T.f_l_entry.ok sc_l_entry (fun vs H Q E h => ?_) (fun cdv A outer s H vs Q E hr h => ?_)
  · unfold sp_lentry at h
    split at h
    · rfl
    · exact h.elim
  · unfold sp_lentry at h
    split at h
    · have nd := sc_l_entry.nd
      have hu := hu_of hr
      rename_i pp rows signs row few
      obtain ⟨n0, c, m0, hp, ⟨hm0, hm1⟩, ⟨ra, rb⟩, ⟨sa, sb⟩, ⟨wa, wb⟩, ⟨fa, fb⟩, h⟩ := h
      have P0 : P3 pp c H H := P3.refl ⟨n0, m0, hp⟩
      have e0 := hp
      refine ⟨_, (pss_cons (ps_set (i := 5) nd rfl (by first | exact Or.inl rfl | exact Or.inr rfl) (pe_call G_l_draw (hr.mono (by decide)) rfl T.g_l_draw T.f_l_draw.kp T.b_l_draw .nil pass0 (pa_cons (qv 0) (pa_cons (qv 2) pa_nil))))
    (pss_cons (ps_set (i := 6) nd rfl (by first | exact Or.inl rfl | exact Or.inr rfl) (pe_op q_sub (pe_op q_mul pe_int (pe_call G_l_draw (hr.mono (by decide)) rfl T.g_l_draw T.f_l_draw.kp T.b_l_draw .nil pass0 (pa_cons (qv 0) (pa_cons pe_int pa_nil)))) pe_int))
    (pss_cons (ps_set (i := 7) nd rfl (by first | exact Or.inl rfl | exact Or.inr rfl) (pe_ix (q_ixLK (K := K) rfl) (pe_lst (pa_cons (pe_call G_l_draw (hr.mono (by decide)) rfl T.g_l_draw T.f_l_draw.kp T.b_l_draw .nil pass0 (pa_cons (qv 0) (pa_cons (qv 1) pa_nil))) (pa_cons (qv 3) pa_nil))) (pe_callTy q_int1 rfl T.z_int bt_int (pa_cons (pe_cmpR q_eq (pe_call G_l_draw (hr.mono (by decide)) rfl T.g_l_draw T.f_l_draw.kp T.b_l_draw .nil pass0 (pa_cons (qv 0) (pa_cons pe_int pa_nil))) pe_int (by first | exact nomark _ | rfl)) pa_nil)) (fun _ _ => rfl)))
    (pss_one (ps_ret (pe_ix (q_ixLK (K := K) rfl) (pe_lst (pa_cons (pe_tup (pa_cons (qv 5) (pa_cons (qv 6) (pa_cons (qv 7) pa_nil)))) (pa_cons (pe_tup pa_nil) pa_nil))) (pe_callTy q_int1 rfl T.z_int bt_int (pa_cons (pe_cmpR q_eq (pe_call G_l_draw (hr.mono (by decide)) rfl T.g_l_draw T.f_l_draw.kp T.b_l_draw .nil pass0 (pa_cons (qv 0) (pa_cons (qv 4) pa_nil))) pe_int (by first | exact nomark _ | rfl)) pa_nil)) (fun _ _ => rfl))))))), ?_⟩
      walk_at "w"
      refine ⟨lg (by omega) (by omega), _, _, _, e0, ⟨by omega, by omega⟩, fun d1 n1 m1 d10 d11 u10 u11 => ?_⟩
      have P1 := P0.draw n1 m1
      have Q1 := P3.of_draw n1 m1 e0
      generalize hg1 : upd _ pp _ = H1 at P1 Q1 ⊢
      have e1 : H1 pp = some (.lst [.int n1, .int c, .int m1]) := by rw [← hg1]; exact upd_same
      clear hg1
      walk_at "w"
      refine ⟨by decide, _, _, _, e1, ⟨by omega, by omega⟩, fun d2 n2 m2 d20 d21 u20 u21 => ?_⟩
      have P2 := P1.draw n2 m2
      have Q2 := P3.of_draw n2 m2 e1
      generalize hg2 : upd _ pp _ = H2 at P2 Q2 ⊢
      have e2 : H2 pp = some (.lst [.int n2, .int c, .int m2]) := by rw [← hg2]; exact upd_same
      clear hg2
      walk_at "w"
      refine ⟨.inl ⟨by decide, by decide⟩, fun mw hmw _ => ?_⟩
      have hmw : mw = 2 * d2 := hmw
      walk_at "w"
      refine ⟨lg (by omega) (by omega), _, _, _, e2, ⟨by omega, by omega⟩, fun d4 n4 m4 d40 d41 u40 u41 => ?_⟩
      have P4 := P2.draw n4 m4
      have Q4 := P3.of_draw n4 m4 e2
      generalize hg4 : upd _ pp _ = H4 at P4 Q4 ⊢
      have e4 : H4 pp = some (.lst [.int n4, .int c, .int m4]) := by rw [← hg4]; exact upd_same
      clear hg4
      walk_at "w"
      refine ⟨by show 2 ≤ sizeLine; decide, ?_⟩
      intro p5 n5
      generalize hU5 : upd _ p5 _ = H5
      have S5 := (upd_sub n5 hU5).1
      have e5 := (upd_sub n5 hU5).2
      clear hU5
      have P5 := P4.sub S5
      have L5 := e5
      have e5 := S5 _ _ e4
      have np5 : p5 ≠ pp := by rintro rfl; rw [e4] at n5; cases n5
      walk_at "w"
      refine ⟨by decide, _, _, _, e5, ⟨by omega, by omega⟩, fun d6 n6 m6 d60 d61 u60 u61 => ?_⟩
      have P6 := P5.draw n6 m6
      have Q6 := P3.of_draw n6 m6 e5
      generalize hg6 : upd _ pp _ = H6 at P6 Q6 ⊢
      have e6 : H6 pp = some (.lst [.int n6, .int c, .int m6]) := by rw [← hg6]; exact upd_same
      clear hg6
      walk_at "w"
      refine ⟨_, _, SqL.of (Q6.keep _ _ np5 L5), pick2 _, ?_⟩
      obtain ⟨to, hto, t0, t1⟩ : ∃ to : Int, (if (if false = true then !decide (d6 = 1) else decide (d6 = 1)) = true then V.int row else V.int d4) = .int to ∧ 0 ≤ to ∧ to < rows := by
        by_cases q : d6 = 1
        · exact ⟨row, by simp [q], wa, wb⟩
        · exact ⟨d4, by simp [q], d40, d41⟩
      rw [hto]
      refine ⟨by show 3 ≤ sizeLine; decide, ?_⟩
      intro p7 n7
      generalize hU7 : upd _ p7 _ = H7
      have S7 := (upd_sub n7 hU7).1
      have e7 := (upd_sub n7 hU7).2
      clear hU7
      have P7 := P6.sub S7
      have E7 : Ent H7 p7 [d1, mw - 1, to] := e7
      have e7 := S7 _ _ e6
      refine ⟨by show 0 ≤ sizeLine; decide, ?_⟩
      intro p8 n8
      generalize hU8 : upd _ p8 _ = H8
      have S8 := (upd_sub n8 hU8).1
      have e8 := (upd_sub n8 hU8).2
      clear hU8
      have P8 := P7.sub S8
      have E8 : Ent H8 p8 [] := e8
      have e8 := S8 _ _ e7
      refine ⟨by show 2 ≤ sizeLine; decide, ?_⟩
      intro p9 n9
      generalize hU9 : upd _ p9 _ = H9
      have S9 := (upd_sub n9 hU9).1
      have e9 := (upd_sub n9 hU9).2
      clear hU9
      have P9 := P8.sub S9
      have L9 := e9
      have e9 := S9 _ _ e8
      have np9 : p9 ≠ pp := by rintro rfl; rw [e8] at n9; cases n9
      have ne7 : p7 ≠ pp := by rintro rfl; rw [e6] at n7; cases n7
      have ne8 : p8 ≠ pp := by rintro rfl; rw [e7] at n8; cases n8
      walk_at "w"
      refine ⟨lg (by omega) (by omega), _, _, _, e9, ⟨by omega, by omega⟩, fun d20 n20 m20 d200 d201 u200 u201 => ?_⟩
      have P20 := P9.draw n20 m20
      have Q20 := P3.of_draw n20 m20 e9
      generalize hg20 : upd _ pp _ = H20 at P20 Q20 ⊢
      have e20 : H20 pp = some (.lst [.int n20, .int c, .int m20]) := by rw [← hg20]; exact upd_same
      clear hg20
      walk_at "w"
      refine ⟨_, _, SqL.of (Q20.keep _ _ np9 L9), pick2 _, ?_⟩
      have ok7 : entryOk rows signs [d1, mw - 1, to] = true := by
        show ((decide (0 ≤ d1) && decide (d1 < signs)) && (decide (mw - 1 = -1) || decide (mw - 1 = 1)) && (decide (0 ≤ to) && decide (to < rows))) = true
        have : mw - 1 = -1 ∨ mw - 1 = 1 := by omega
        simp [d10, d11, t0, t1, this]
      have E7' : Ent H20 p7 [d1, mw - 1, to] := Q20.keep _ _ ne7 (S9 _ _ (S8 _ _ E7))
      have E8' : Ent H20 p8 [] := Q20.keep _ _ ne8 (S9 _ _ E8)
      by_cases q : d20 = 1
      · rw [if_pos (by simp [q])]
        exact h p8 [] H20 n20 m20 P20 e20 (by omega) (by omega) E8' rfl
      · rw [if_neg (by simp [q])]
        exact h p7 _ H20 n20 m20 P20 e20 (by omega) (by omega) E7' ok7
    · exact h.elim
theorem sc_l_machine : FnScope ["_law_purse_here", "_law_rows", "_law_signs", "_law_few"] ["_law_purse_here"] (defScope s_l_machine) := ⟨rfl, rfl, rfl, by decide +kernel, rfl, by decide +kernel, by decide +kernel⟩
def sp_machine : Sp := fun vs H Q _ => match vs with
  | [.ref pp] => ∃ n c m : Int, H pp = some (.lst [.int n, .int c, .int m]) ∧ (0 ≤ m ∧ m ≤ 500000) ∧
      ∀ (t : Addr) (mm : Ma) (H' : Hp) (n' m' : Int), P3 pp c H H' → H' pp = some (.lst [.int n', .int c, .int m']) → m ≤ m' → m' ≤ m + 300 → Mach H' t mm → isM mm = true → H t = none → Q (.ref t) H'
  | _ => False
theorem isM_of {m : Ma} {rows signs : Int} (h1 : (m.length : Int) = rows) (h2 : 1 ≤ rows) (h3 : rows ≤ 4) (h4 : 2 ≤ signs) (h5 : signs ≤ 4)
    (h : ∀ r ∈ m, (r.length : Int) = signs ∧ ∀ e ∈ r, entryOk rows signs e = true) : isM m = true := by
  cases m with
  | nil => simp at h1; omega
  | cons r0 m' =>
    have h0 := (h r0 (by simp)).1
    refine isM_mk (by omega) (by omega) (by omega) fun r hr => ⟨by have := (h r hr).1; omega, ?_⟩
    unfold okAll
    rw [h1, h0]
    exact List.all_eq_true.2 (h r hr).2
theorem ok_l_machine (T : Tx K mg a) : FnOk P w K mg base CX0 4 a.l_machine a.l_machine_d ["_law_purse_here"] (sp_machine) := by
  have G_l_draw := ok_l_draw (P := P) (w := w) (base := base) T
  have G_l_entry := ok_l_entry (P := P) (w := w) (base := base) T
  refine T.f_l_machine.ok sc_l_machine (fun vs H Q E h => ?_) (fun cdv A outer s H vs Q E hr h => ?_)
  · unfold sp_machine at h
    split at h
    · rfl
    · exact h.elim
  · unfold sp_machine at h
    split at h
    · have nd := sc_l_machine.nd
      have hu := hu_of hr
      rename_i pp
      obtain ⟨n0, c, m0, hp, ⟨hm0, hm1⟩, h⟩ := h
      have P0 : P3 pp c H H := P3.refl ⟨n0, m0, hp⟩
      have e0 := hp
      refine ⟨_, (pss_cons (ps_set (i := 1) nd rfl (by first | exact Or.inl rfl | exact Or.inr rfl) (pe_op q_add pe_int (pe_call G_l_draw (hr.mono (by decide)) rfl T.g_l_draw T.f_l_draw.kp T.b_l_draw .nil pass0 (pa_cons (qv 0) (pa_cons pe_int pa_nil)))))
    (pss_cons (ps_set (i := 2) nd rfl (by first | exact Or.inl rfl | exact Or.inr rfl) (pe_op q_add pe_int (pe_call G_l_draw (hr.mono (by decide)) rfl T.g_l_draw T.f_l_draw.kp T.b_l_draw .nil pass0 (pa_cons (qv 0) (pa_cons pe_int pa_nil)))))
    (pss_cons (ps_set (i := 3) nd rfl (by first | exact Or.inl rfl | exact Or.inr rfl) (pe_ix (q_ixLK (K := K) rfl) (pe_lst (pa_cons pe_int (pa_cons pe_int (pa_cons pe_int (pa_cons pe_int pa_nil))))) (pe_call G_l_draw (hr.mono (by decide)) rfl T.g_l_draw T.f_l_draw.kp T.b_l_draw .nil pass0 (pa_cons (qv 0) (pa_cons pe_int pa_nil))) (fun _ _ => rfl)))
    (pss_one (ps_ret (pe_lcC (own := ["_law_row"]) (fr := [2, 0, 1, 3]) (y := "_law_row") rfl (by exact ⟨rfl, by decide +kernel, by decide +kernel, by rfl, by walk_at "frees", by walk_at "frees"⟩) (qi_range1 rfl T.z_range (pa_cons (qv 1) pa_nil)) (fun _ _ _ _ => (pg_name (i := 0) (show List.Nodup (α := Str) ["_law_row", "_law_signs", "_law_purse_here", "_law_rows", "_law_few"] from by decide +kernel) rfl (by first | exact Or.inl rfl | exact Or.inr rfl) (hf := Or.inl fn_y))) (fun _ _ _ _ => pts_nil) (fun _ _ _ _ => (pe_lc (own := ["_law_sign"]) (fr := [2, 3, 1, 0, 4]) rfl (by walk_at "comp_ok") (qi_range1 rfl T.z_range (pa_cons (qv 1) pa_nil)) (fun _ _ _ _ => (pg_name (i := 0) (show List.Nodup (α := Str) ["_law_sign", "_law_purse_here", "_law_rows", "_law_signs", "_law_row", "_law_few"] from by decide +kernel) rfl (by first | exact Or.inl rfl | exact Or.inr rfl))) (fun _ _ _ _ => pts_nil) (fun _ _ _ _ => (pe_call G_l_entry (hr.mono (by decide)) rfl T.g_l_entry T.f_l_entry.kp T.b_l_entry .nil pass0 (pa_cons (qv 1) (pa_cons (qv 2) (pa_cons (qv 3) (pa_cons (qv 4) (pa_cons (qv 5) pa_nil))))))))))))))), ?_⟩
      walk_at "w"
      refine ⟨by decide, _, _, _, e0, ⟨by omega, by omega⟩, fun d1 n1 m1 d10 d11 u10 u11 => ?_⟩
      have P1 := P0.draw n1 m1
      have Q1 := P3.of_draw n1 m1 e0
      generalize hg1 : upd _ pp _ = H1 at P1 Q1 ⊢
      have e1 : H1 pp = some (.lst [.int n1, .int c, .int m1]) := by rw [← hg1]; exact upd_same
      clear hg1
      walk_at "w"
      refine ⟨by decide, _, _, _, e1, ⟨by omega, by omega⟩, fun d2 n2 m2 d20 d21 u20 u21 => ?_⟩
      have P2 := P1.draw n2 m2
      have Q2 := P3.of_draw n2 m2 e1
      generalize hg2 : upd _ pp _ = H2 at P2 Q2 ⊢
      have e2 : H2 pp = some (.lst [.int n2, .int c, .int m2]) := by rw [← hg2]; exact upd_same
      clear hg2
      walk_at "w"
      refine ⟨by show 4 ≤ sizeLine; decide, ?_⟩
      intro p4 n4
      generalize hU4 : upd _ p4 _ = H4
      have S4 := (upd_sub n4 hU4).1
      have e4 := (upd_sub n4 hU4).2
      clear hU4
      have P4 := P2.sub S4
      have L4 : H4 p4 = some (.lst (([4, 9, 20, 60] : List Int).map V.int)) := e4
      have e4 := S4 _ _ e2
      have np4 : p4 ≠ pp := by rintro rfl; rw [e2] at n4; cases n4
      walk_at "w"
      refine ⟨by decide, _, _, _, e4, ⟨by omega, by omega⟩, fun d5 n5 m5 d50 d51 u50 u51 => ?_⟩
      have P5 := P4.draw n5 m5
      have Q5 := P3.of_draw n5 m5 e4
      generalize hg5 : upd _ pp _ = H5 at P5 Q5 ⊢
      have e5 : H5 pp = some (.lst [.int n5, .int c, .int m5]) := by rw [← hg5]; exact upd_same
      clear hg5
      walk_at "w"
      obtain ⟨few, hfew, f0, f1⟩ : ∃ y : Int, atI (([4, 9, 20, 60] : List Int).map V.int) d5 = some (.int y) ∧ 1 ≤ y ∧ y ≤ 60 := by
        have : d5 = 0 ∨ d5 = 1 ∨ d5 = 2 ∨ d5 = 3 := by omega
        rcases this with rfl | rfl | rfl | rfl
        · exact ⟨4, rfl, by decide, by decide⟩
        · exact ⟨9, rfl, by decide, by decide⟩
        · exact ⟨20, rfl, by decide, by decide⟩
        · exact ⟨60, rfl, by decide, by decide⟩
      refine ⟨_, _, SqL.of (Q5.keep _ _ np4 L4), hfew, ?_⟩
      refine ⟨⟨by omega, by omega⟩, ?_⟩
      intro pt npt
      have nt : H pt = none := P5.free npt
      refine comp_range (lo := 0) (n := (1 + d1).toNat) (fun i σ H6 => ∃ (v : Option V) (rs : List Addr) (mm : Ma) (n6 m6 : Int), σ = [v, some (.int (2 + d2)), some (.ref pp), some (.int (1 + d1)), some (.int few)] ∧ P3 pp c H H6 ∧ H6 pp = some (.lst [.int n6, .int c, .int m6]) ∧ m0 ≤ m6 ∧ m6 ≤ m0 + 10 + 60 * i ∧ MaR H6 pt rs mm ∧ mm.length = i ∧ ∀ r ∈ mm, (r.length : Int) = 2 + d2 ∧ ∀ e ∈ r, entryOk (1 + d1) (2 + d2) e = true) ?_ ?_ ?_
      · exact ⟨none, [], [], n5, m5, rfl, P5.set nt, by rw [upd_ne (by rintro rfl; rw [e5] at npt; cases npt)]; exact e5, by omega, by omega, ⟨upd_same, by simp, .nil⟩, rfl, by simp⟩
      · rintro i σ H6 hi ⟨v, rs, mm, n6, m6, rfl, P6, e6, b0, b1, hm6, l6, ok6⟩
        refine ⟨⟨by omega, by omega⟩, ?_⟩
        intro pr npr
        have nr : H pr = none := P6.free npr
        have nrs := hm6.out npr
        have nrp := hm6.outp npr
        refine comp_range (lo := 0) (n := (2 + d2).toNat) (fun j σ H7 => ∃ (v : Option V) (as : List Addr) (es : List En) (n7 m7 : Int), σ = [v, some (.ref pp), some (.int (1 + d1)), some (.int (2 + d2)), some (.int (0 + i)), some (.int few)] ∧ P3 pp c H H7 ∧ H7 pp = some (.lst [.int n7, .int c, .int m7]) ∧ m0 ≤ m7 ∧ m7 ≤ m0 + 10 + 60 * i + 10 * j ∧ MaR H7 pt rs mm ∧ RowA H7 pr as es ∧ es.length = j ∧ ∀ e ∈ es, entryOk (1 + d1) (2 + d2) e = true) ?_ ?_ ?_
        · exact ⟨none, [], [], n6, m6, rfl, P6.set nr, by rw [upd_ne (by rintro rfl; rw [e6] at npr; cases npr)]; exact e6, by omega, by omega, hm6.stay (.sub (Sub.new npr)), ⟨upd_same, .nil⟩, rfl, by simp⟩
        · rintro j σ H7 hj ⟨v, as, es, n7, m7, rfl, P7, e7, c0, c1, hm7, hr7, l7, ok7⟩
          refine ⟨n7, c, m7, e7, ⟨by omega, by omega⟩, ⟨by omega, by omega⟩, ⟨by omega, by omega⟩, ⟨by omega, by omega⟩, ⟨f0, f1⟩, fun b e H8 n8 m8 P8 e8 u0 u1 hb hbok => ?_⟩
          have hm8 := hm7.stay P8.stay
          have hr8 := hr7.stay P8.stay
          refine ⟨_, hr8.1, ?_, _, as ++ [b], es ++ [e], n8, m8, rfl, (P7.trans P8).set nr, by rw [upd_ne (by rintro rfl; rw [hp] at nr; cases nr)]; exact e8, by omega, by omega, hm8.other hr8.1 nrp nrs, hr8.app' hb, by simp [l7], ?_⟩
          · rw [List.length_map, hr8.2.1, l7]; exact Nat.lt_trans hj (Nat.lt_of_le_of_lt (show (2 + d2).toNat ≤ 4 by omega) (by decide))
          · intro y hy
            rcases List.mem_append.1 hy with hy | hy
            · exact ok7 y hy
            · simp at hy; subst hy; exact hbok
        rintro σ H7 ⟨v, as, es, n7, m7, rfl, P7, e7, c0, c1, hm7, hr7, l7, ok7⟩
        refine ⟨_, hm7.1, ?_, _, rs ++ [pr], mm ++ [es], n7, m7, rfl, P7.set nt, by rw [upd_ne (by rintro rfl; rw [hp] at nt; cases nt)]; exact e7, by omega, by omega, hm7.app' ⟨as, hr7⟩ nrs nrp, by simp [l6], ?_⟩
        · rw [List.length_map, hm7.2.2.1, l6]; exact Nat.lt_trans hi (Nat.lt_of_le_of_lt (show (1 + d1).toNat ≤ 4 by omega) (by decide))
        · intro r hr
          rcases List.mem_append.1 hr with hr | hr
          · exact ok6 r hr
          · simp at hr; subst hr; exact ⟨by omega, ok7⟩
      rintro σ H6 ⟨v, rs, mm, n6, m6, rfl, P6, e6, b0, b1, hm6, l6, ok6⟩
      exact h pt mm H6 n6 m6 P6 e6 b0 (by omega) ⟨rs, hm6⟩ (isM_of (rows := 1 + d1) (signs := 2 + d2) (by omega) (by omega) (by omega) (by omega) (by omega) ok6) nt
    · exact h.elim
theorem sc_l_turned : FnScope ["_law_entry_here"] ["_law_entry_here"] (defScope s_l_turned) := ⟨rfl, rfl, rfl, by decide +kernel, rfl, by decide +kernel, by decide +kernel⟩
def sp_lturned : Sp := fun vs H Q _ => match vs with
  | [.ref e] => ∃ (en : En) (rows signs : Int), Ent H e en ∧ entryOk rows signs en = true ∧ ∀ (q : Addr) (H' : Hp), Sub H H' → Ent H' q (mirE en) → Q (.ref q) H'
  | _ => False
theorem ok_l_turned (T : Tx K mg a) : FnOk P w K mg base CX0 1 a.l_turned a.l_turned_d ["_law_entry_here"] (sp_lturned) := by
  refine T.f_l_turned.ok sc_l_turned (fun vs H Q E h => ?_) (fun cdv A outer s H vs Q E hr h => ?_)
  · unfold sp_lturned at h
    split at h
    · rfl
    · exact h.elim
  · unfold sp_lturned at h
    split at h
    · have nd := sc_l_turned.nd
      have hu := hu_of hr
      rename_i e
      obtain ⟨en, rows, signs, he, hok, h⟩ := h
      refine ⟨_, (pss_cons (ps_c (pt_c (op_eqD hr) (qv 0) (pe_tup pa_nil)) (pss_one (ps_ret (pe_tup pa_nil))) pss_nil)
    (pss_one (ps_ret (pe_tup (pa_cons (pe_ix (q_ixTK (K := K) rfl) (qv 0) pe_int (fun _ _ => rfl)) (pa_cons (pe_op q_sub pe_int (pe_ix (q_ixTK (K := K) rfl) (qv 0) pe_int (fun _ _ => rfl))) (pa_cons (pe_ix (q_ixTK (K := K) rfl) (qv 0) pe_int (fun _ _ => rfl)) pa_nil))))))), ?_⟩
      refine ⟨by show 0 ≤ sizeLine; decide, ?_⟩
      intro p1 n1
      generalize hU1 : upd _ p1 _ = H1
      have S1 := (upd_sub n1 hU1).1
      have e1 := (upd_sub n1 hU1).2
      clear hU1
      refine ⟨_, _, (Ent.den (e := en) (S1 _ _ he)), (Ent.den (e := []) e1), dep_dE1 _, ?_⟩
      rw [eqD_dE]
      walk_at "w"
      refine ifB.dec (fun z => ?_) (fun z => ?_)
      · subst z
        refine ⟨by show 0 ≤ sizeLine; decide, ?_⟩
        intro p2 n2
        generalize hU2 : upd _ p2 _ = H2
        have S2 := (upd_sub n2 hU2).1
        have e2 := (upd_sub n2 hU2).2
        clear hU2
        exact h p2 H2 (S1.trans S2) e2
      · obtain ⟨s', w', r', rfl, a0, a1, a2, a3, a4⟩ := entryOk_three hok z
        have hE1 : H1 e = some (.tup [.int s', .int w', .int r']) := S1 _ _ he
        refine ⟨_, _, SqT.of hE1, atI_nat (j := 0) rfl, ?_⟩
        refine ⟨_, _, SqT.of hE1, atI_nat (j := 1) rfl, ?_⟩
        refine ⟨_, _, SqT.of hE1, atI_nat (j := 2) rfl, ?_⟩
        refine ⟨by show 3 ≤ sizeLine; decide, ?_⟩
        intro p2 n2
        generalize hU2 : upd _ p2 _ = H2
        have S2 := (upd_sub n2 hU2).1
        have e2 := (upd_sub n2 hU2).2
        clear hU2
        exact h p2 H2 (S1.trans S2) e2
    · exact h.elim
theorem sc_l_mirrored : FnScope ["_law_machine_here"] ["_law_machine_here"] (defScope s_l_mirrored) := ⟨rfl, rfl, rfl, by decide +kernel, rfl, by decide +kernel, by decide +kernel⟩
def sp_lmirrored : Sp := fun vs H Q _ => match vs with
  | [.ref t] => ∃ m : Ma, Mach H t m ∧ isM m = true ∧ ∀ (q : Addr) (H' : Hp), Sub H H' → Mach H' q (mirM m) → Q (.ref q) H'
  | _ => False
theorem ok_l_mirrored (T : Tx K mg a) : FnOk P w K mg base CX0 2 a.l_mirrored a.l_mirrored_d ["_law_machine_here"] (sp_lmirrored) := by
  have G_l_turned := ok_l_turned (P := P) (w := w) (base := base) T
  refine T.f_l_mirrored.ok sc_l_mirrored (fun vs H Q E h => ?_) (fun cdv A outer s H vs Q E hr h => ?_)
  · unfold sp_lmirrored at h
    split at h
    · rfl
    · exact h.elim
  · unfold sp_lmirrored at h
    split at h
    · have nd := sc_l_mirrored.nd
      have hu := hu_of hr
      rename_i t
      obtain ⟨m, ⟨rs, hm, hnd, hrw⟩, hM, h⟩ := h
      have M := OkM.of hM
      refine ⟨_, (pss_one (ps_ret (pe_lc (own := ["_law_row"]) (fr := []) rfl (by walk_at "comp_ok") (qi_listK (K := K) rfl (qv 0)) (fun _ _ _ _ => (pg_name (i := 0) (show List.Nodup (α := Str) ["_law_row"] from by decide +kernel) rfl (by first | exact Or.inl rfl | exact Or.inr rfl))) (fun _ _ _ _ => pts_nil) (fun _ _ _ _ => (pe_lc (own := ["_law_entry_here"]) (fr := []) rfl (by walk_at "comp_ok") (qi_listK (K := K) rfl (qv 0)) (fun _ _ _ _ => (pg_name (i := 0) (show List.Nodup (α := Str) ["_law_entry_here"] from by decide +kernel) rfl (by first | exact Or.inl rfl | exact Or.inr rfl))) (fun _ _ _ _ => pts_nil) (fun _ _ _ _ => (pe_call G_l_turned (hr.mono (by decide)) rfl T.g_l_turned T.f_l_turned.kp T.b_l_turned .nil pass0 (pa_cons (qv 0) pa_nil)))))))), ?_⟩
      refine ⟨⟨_, SqL.of hm⟩, ?_⟩
      intro pt npt
      refine comp_list (K := K) (a := t) (xs := rs.map V.ref) (fun i σ H1 => ∃ (v : Option V) (qs : List Addr), σ = [v] ∧ Sub H H1 ∧ MaR H1 pt qs ((mirM m).take i)) ?_ ?_ ?_ ?_
      · exact ⟨none, [], rfl, Sub.new npt, upd_same, by simp, .nil⟩
      · rintro i σ H1 _ ⟨v, qs, rfl, S1, _⟩
        exact SqL.of (S1 _ _ hm)
      · rintro i x σ H1 hi ⟨v, qs, rfl, S1, M1⟩
        rw [List.getElem?_map] at hi
        obtain ⟨r, hr, rfl⟩ := Option.map_eq_some_iff.1 hi
        obtain ⟨es, hes, as, hra, haa⟩ := hrw.at hr
        have hil : i < m.length := (List.getElem?_eq_some_iff.1 hes).1
        have hem := List.mem_of_getElem? hes
        refine ⟨⟨_, SqL.of (S1 _ _ hra)⟩, ?_⟩
        intro pq npq
        refine comp_list (K := K) (a := r) (xs := as.map V.ref) (fun j σ H2 => ∃ (v2 : Option V) (bs : List Addr), σ = [v2] ∧ Sub H1 H2 ∧ H2 pq = some (.lst (bs.map V.ref)) ∧ All2 (Ent H2) bs ((mirR es).take j)) ?_ ?_ ?_ ?_
        · exact ⟨none, [], rfl, Sub.new npq, upd_same, .nil⟩
        · rintro j σ H2 _ ⟨v2, bs, rfl, S2, _⟩
          exact SqL.of (S2 _ _ (S1 _ _ hra))
        · rintro j x σ H2 hj ⟨v2, bs, rfl, S2, g2, A2⟩
          rw [List.getElem?_map] at hj
          obtain ⟨e, he, rfl⟩ := Option.map_eq_some_iff.1 hj
          obtain ⟨en, hen, hE⟩ := haa.at he
          have hjl : j < es.length := (List.getElem?_eq_some_iff.1 hen).1
          have S12 := S1.trans S2
          refine ⟨en, _, _, Ent.stay (.sub S12) hE, M.ent es hem en (List.mem_of_getElem? hen), fun q H3 S3 hq => ?_⟩
          have hbl : bs.length = j := by rw [A2.1, List.length_take, List.length_map]; omega
          refine ⟨_, S3 _ _ g2, ?_, _, bs ++ [q], rfl, (S2.trans S3).upd npq, by rw [upd_same, List.map_append]; rfl, ?_⟩
          · rw [List.length_map, hbl]; exact Nat.lt_of_le_of_lt (show j ≤ 4 by have := M.len es hem; have := M.s4; omega) (by decide)
          · have kt : ∀ c e, Ent H3 c e → Ent (upd H3 pq (.lst (bs.map V.ref ++ [V.ref q]))) c e := fun c e z => by
              show (upd H3 pq _) c = _
              have hz : H3 c = some (.tup (e.map V.int)) := z
              rw [upd_ne (fun zz => by rw [zz, S3 _ _ g2] at hz; cases hz)]
              exact z
            rw [List.take_add_one, List.getElem?_map, hen]
            exact (A2.mono fun _ _ _ z => kt _ _ (Ent.stay (.sub S3) z)).app (kt _ _ hq)
        rintro σ H2 ⟨v2, bs, rfl, S2, g2, A2⟩
        rw [List.length_map, haa.1, List.take_of_length_le (by rw [List.length_map]; exact Nat.le_refl _)] at A2
        have M2 := M1.stay (.sub S2)
        refine ⟨_, M2.1, ?_, _, qs ++ [pq], rfl, (S1.trans S2).upd npt, ?_⟩
        · rw [List.length_map, M2.2.2.1, List.length_take]; exact Nat.lt_of_le_of_lt (Nat.min_le_left _ _) (Nat.lt_of_le_of_lt (show i ≤ 4 by have := M.n4; omega) (by decide))
        · rw [List.take_add_one, List.getElem?_map, hes]
          exact M2.app' ⟨bs, g2, A2⟩ (M1.out npq) (M1.outp npq)
      rintro σ H1 ⟨v, qs, rfl, S1, M1⟩
      rw [List.length_map, hrw.1, List.take_of_length_le (by rw [List.length_map]; exact Nat.le_refl _)] at M1
      exact h pt H1 S1 ⟨qs, M1⟩
    · exact h.elim
theorem sc_l_halves : FnScope ["_law_machine_here", "_law_block", "_law_row", "_law_side", "_law_long", "_law_halves_here", "_law_at_here", "_law_steps", "_law_seen", "_law_found"] ["_law_machine_here", "_law_block", "_law_row", "_law_side"] (defScope s_l_halves) := ⟨rfl, rfl, rfl, by decide +kernel, rfl, by decide +kernel, by decide +kernel⟩
/-- where a way by halves stands: the half, the row, the side, the halves -/
abbrev HS := Int × Int × Int × List Int × List Int
def keyH (x : HS) : NK := .tup [.int x.1, .int x.2.1, .int x.2.2.1, .tup (x.2.2.2.1.map NK.int), .tup (x.2.2.2.2.map NK.int)]
theorem ints_inj : ∀ {a b : List Int}, a.map NK.int = b.map NK.int → a = b
  | [], [], _ => rfl
  | [], _ :: _, h => by cases h
  | _ :: _, [], h => by cases h
  | x :: a, y :: b, h => by
    rw [List.map_cons, List.map_cons] at h
    injection h with h1 h2
    injection h1 with h1
    rw [h1, ints_inj h2]
theorem keyH_inj {x y : HS} (h : keyH x = keyH y) : x = y := by
  unfold keyH at h
  injection h with h
  injection h with h1 h
  injection h with h2 h
  injection h with h3 h
  injection h with h4 h
  injection h with h5 _
  injection h1 with h1
  injection h2 with h2
  injection h3 with h3
  injection h4 with h4
  injection h5 with h5
  exact Prod.ext h1 (Prod.ext h2 (Prod.ext h3 (Prod.ext (ints_inj h4) (ints_inj h5))))
theorem keyH_dep (x : HS) : (keyH x).dep ≤ 7 := by
  have h1 := depL_ints x.2.2.2.1
  have h2 := depL_ints x.2.2.2.2
  unfold keyH
  simp only [NK.dep, NK.depL]
  omega
theorem keyHs_dep : ∀ l : List HS, NK.depL (l.map keyH) ≤ 7
  | [] => by rw [List.map_nil, NK.depL]; omega
  | x :: l => by
    rw [List.map_cons, NK.depL]
    have := keyHs_dep l
    have := keyH_dep x
    omega
theorem denN_keyH {H : Hp} {p a0 a1 : Addr} {x : HS} (h : H p = some (.tup [.int x.1, .int x.2.1, .int x.2.2.1, .ref a0, .ref a1])) (h0 : H a0 = some (.tup (x.2.2.2.1.map V.int))) (h1 : H a1 = some (.tup (x.2.2.2.2.map V.int))) : DenN H (keyH x) (.ref p) := by
  have k : ∀ {a : Addr} {ns : List Int}, H a = some (.tup (ns.map V.int)) → DenN H (.tup (ns.map NK.int)) (.ref a) := fun h => by
    rw [DenN]; exact ⟨_, _, rfl, h, denN_ints⟩
  unfold keyH
  rw [DenN]
  refine ⟨p, _, rfl, h, ?_⟩
  rw [DenNs]
  refine ⟨_, _, rfl, by rw [DenN], ?_⟩
  rw [DenNs]
  refine ⟨_, _, rfl, by rw [DenN], ?_⟩
  rw [DenNs]
  refine ⟨_, _, rfl, by rw [DenN], ?_⟩
  rw [DenNs]
  refine ⟨_, _, rfl, k h0, ?_⟩
  rw [DenNs]
  refine ⟨_, _, rfl, k h1, ?_⟩
  rw [DenNs]
/-- the half at which it stands, the other half, the state of the whole block -/
def hThis (x : HS) : List Int := if x.1 = 0 then x.2.2.2.1 else x.2.2.2.2
def hOth (x : HS) : List Int := if x.1 = 0 then x.2.2.2.2 else x.2.2.2.1
def hLoc (L : Nat) (x : HS) : Bs := (x.2.1, near L x.2.2.1, hThis x)
def hSt (L : Nat) (x : HS) : Bs := wh L x.1 (hOth x) (hLoc L x)
structure HOk (m : Ma) (L : Nat) (x : HS) : Prop where
  at_ : x.1 = 0 ∨ x.1 = 1
  sd : x.2.2.1 = -1 ∨ x.2.2.1 = 1
  r0 : 0 ≤ x.2.1
  r1 : x.2.1 < m.length
  l0 : x.2.2.2.1.length = L
  l1 : x.2.2.2.2.length = L
  g0 : ∀ s ∈ x.2.2.2.1, 0 ≤ s ∧ s < sgn m
  g1 : ∀ s ∈ x.2.2.2.2, 0 ≤ s ∧ s < sgn m
theorem HOk.loc {m : Ma} {L : Nat} {x : HS} (h : HOk m L x) : OkB m L (hLoc L x) := by
  refine ⟨h.r0, h.r1, ?_, ?_⟩
  · show (hThis x).length = L; unfold hThis; split; exact h.l0; exact h.l1
  · show ∀ s ∈ hThis x, _; unfold hThis; split; exact h.g0; exact h.g1
theorem HOk.oth {m : Ma} {L : Nat} {x : HS} (h : HOk m L x) : (hOth x).length = L := by unfold hOth; split; exact h.l1; exact h.l0
def codH (x : HS) : Nat := x.1.toNat + 2 * (x.2.1.toNat + 4 * ((if x.2.2.1 = -1 then 0 else 1) + 2 * (cod x.2.2.2.1 + 16 * cod x.2.2.2.2)))
theorem hs_le {m : Ma} (M : OkM m) {L : Nat} (hL : L ≤ 2) {l : List HS} (nd : l.Nodup) (ok : ∀ x ∈ l, HOk m L x) : l.length ≤ 4096 := by
  have hb : ∀ x ∈ l, codH x < 4096 ∧ cod x.2.2.2.1 < 16 ∧ cod x.2.2.2.2 < 16 := fun x hx => by
    have h := ok x hx
    have hp : (4 : Nat) ^ L ≤ 16 := by
      rcases (show L = 0 ∨ L = 1 ∨ L = 2 by omega) with rfl | rfl | rfl <;> decide
    have c0 := cod_lt (l := x.2.2.2.1) fun s hs => ⟨(h.g0 s hs).1, by have := (h.g0 s hs).2; have := M.s4; omega⟩
    have c1 := cod_lt (l := x.2.2.2.2) fun s hs => ⟨(h.g1 s hs).1, by have := (h.g1 s hs).2; have := M.s4; omega⟩
    rw [h.l0] at c0
    rw [h.l1] at c1
    have := h.at_; have := h.r1; have := M.n4
    unfold codH
    refine ⟨?_, by omega, by omega⟩
    split <;> omega
  have := pig 4096 (l.map codH) (by
    rw [List.nodup_iff_pairwise_ne, List.pairwise_map]
    refine List.Pairwise.imp_of_mem ?_ nd
    intro x y hx hy ne e
    have h1 := ok x hx
    have h2 := ok y hy
    obtain ⟨_, b1, b2⟩ := hb x hx
    obtain ⟨_, b3, b4⟩ := hb y hy
    have a1 := h1.at_; have a2 := h2.at_; have a3 := h1.sd; have a4 := h2.sd
    have a5 := h1.r0; have a6 := h2.r0; have a7 := h1.r1; have a8 := h2.r1; have a9 := M.n4
    unfold codH at e
    have i1 : (if x.2.2.1 = -1 then (0 : Nat) else 1) ≤ 1 := by split <;> omega
    have i2 : (if y.2.2.1 = -1 then (0 : Nat) else 1) ≤ 1 := by split <;> omega
    have e1 : x.1 = y.1 := by omega
    have e2 : x.2.1 = y.2.1 := by omega
    have e3 : (if x.2.2.1 = -1 then 0 else 1) = (if y.2.2.1 = -1 then (0 : Nat) else 1) := by omega
    have e4 : x.2.2.1 = y.2.2.1 := by
      rcases a3 with z | z <;> rcases a4 with z' | z' <;> rw [z, z'] at e3 ⊢ <;> first | rfl | (exfalso; revert e3; decide)
    have e5 : cod x.2.2.2.1 = cod y.2.2.2.1 := by omega
    have e6 : cod x.2.2.2.2 = cod y.2.2.2.2 := by omega
    have f : ∀ {l : List Int}, (∀ s ∈ l, 0 ≤ s ∧ s < (sgn m : Int)) → ∀ s ∈ l, 0 ≤ s ∧ s < 4 := fun h s hs => ⟨(h s hs).1, by have := (h s hs).2; have := M.s4; omega⟩
    exact ne (Prod.ext e1 (Prod.ext e2 (Prod.ext e4 (Prod.ext (cod_inj (f h1.g0) (f h2.g0) (h1.l0.trans h2.l0.symm) e5) (cod_inj (f h1.g1) (f h2.g1) (h1.l1.trans h2.l1.symm) e6)))))) (fun n hn => by
    obtain ⟨x, hx, rfl⟩ := List.mem_map.1 hn
    exact (hb x hx).1)
  rwa [List.length_map] at this
theorem dens_of {H : Hp} : ∀ {as : List Addr} {sn : List HS}, All2 (fun a s => DenN H (keyH s) (.ref a)) as sn → DenNs H (sn.map keyH) (as.map V.ref)
  | [], [], _ => by rw [List.map_nil, List.map_nil, DenNs]
  | [], _ :: _, h => by have := h.1; simp at this
  | _ :: _, [], h => by have := h.1; simp at this
  | a :: as, s :: sn, h => by
    rw [List.map_cons, List.map_cons, DenNs]
    exact ⟨_, _, rfl, h.2 0 a s rfl rfl, dens_of (as := as) (sn := sn) ⟨by have := h.1; simpa using this, fun i b x hb hx => h.2 (i + 1) b x hb hx⟩⟩
theorem cut_drop {xs : List V} {j : Nat} (h : j ≤ xs.length) : cutV xs (some (j : Int)) none = xs.drop j := by
  unfold cutV
  rw [HT.sIx_nat, show HT.sIx xs.length xs.length none = xs.length from rfl, Nat.min_eq_left h]
  exact List.take_of_length_le (by rw [List.length_drop]; exact Nat.le_refl _)
/-- where the loop stands -/
structure HInv (m : Ma) (L : Nat) (H : Hp) (y0 : Bs) (ph ps : Addr) (k : Nat) (x : HS) (sn : List HS) (as : List Addr) (a0 a1 : Addr) (A : Hp) : Prop where
  sub : Sub H A
  hh : A ph = some (.lst [.ref a0, .ref a1])
  b0 : A a0 = some (.tup (x.2.2.2.1.map V.int))
  b1 : A a1 = some (.tup (x.2.2.2.2.map V.int))
  hs : A ps = some (.lst (as.map V.ref))
  all : All2 (fun a s => DenN A (keyH s) (.ref a)) as sn
  ok : HOk m L x
  oks : ∀ s ∈ sn, HOk m L s
  nd : sn.Nodup
  bt : bit m k y0 = some (hSt L x)
  rd : ∀ s ∈ sn, ∃ j, 1 ≤ j ∧ bit m j (hSt L s) = some (hSt L x)
theorem h_all {m : Ma} {y0 y : Bs} {k : Nat} (bt : bit m k y0 = some y) (hl : ∀ n, ∃ z, bit m n y = some z ∧ insd z) : BRes m 0 y0 .stay := fun n => by
  by_cases c : n < k
  · exact bit_lt c (by rw [bt]; exact Option.some_ne_none _)
  · obtain ⟨d, rfl⟩ : ∃ d, n = k + d := ⟨n - k, by omega⟩
    rw [bit_add m k d _ _ bt]
    exact hl d
theorem h_stay {m : Ma} {L : Nat} {x : HS} {y0 : Bs} {k : Nat} (ok : HOk m L x) (bt : bit m k y0 = some (hSt L x)) (hl : ∀ n, ∃ y, bit m n (hLoc L x) = some y ∧ insd y) : BRes m 0 y0 .stay := h_all bt fun n => by
  obtain ⟨y, h1, h2⟩ := hl n
  obtain ⟨w1, w2⟩ := wh_bit (m := m) (t := x.1) ok.oth ok.loc.len h1
  exact ⟨_, w1, (wh_st (m := m) ok.oth w2 h2).1⟩
/-- the halves with a new one at its place -/
def hPut (x : HS) (b : List Int) : List Int × List Int := if x.1 = 0 then (b, x.2.2.2.2) else (x.2.2.2.1, b)
theorem h_cat {L : Nat} {x : HS} {y : Bs} : (wh L x.1 (hOth x) y).2.2 = (hPut x y.2.2).1 ++ (hPut x y.2.2).2 := by
  unfold wh hOth hPut
  by_cases c : x.1 = 0
  · rw [if_pos c, if_pos c, if_pos c]
  · rw [if_neg c, if_neg c, if_neg c]
theorem wh_1 {L : Nat} {t : Int} {o : List Int} {y : Bs} : (wh L t o y).1 = y.1 := by unfold wh; split <;> rfl
theorem wh_2 {L : Nat} {t : Int} {o : List Int} {y : Bs} (ht : t = 0 ∨ t = 1) : (wh L t o y).2.1 = t * L + y.2.1 := by
  unfold wh
  rcases ht with rfl | rfl
  · show y.2.1 = 0 * (L : Int) + y.2.1; omega
  · show (L : Int) + y.2.1 = 1 * (L : Int) + y.2.1; omega
theorem wh_3 {L : Nat} {t : Int} {o : List Int} {y : Bs} : (wh L t o y).2.2.length = o.length + y.2.2.length := by
  unfold wh; split
  · show (y.2.2 ++ o).length = _; rw [List.length_append, Nat.add_comm]
  · show (o ++ y.2.2).length = _; rw [List.length_append]
theorem h_fin {m : Ma} {L : Nat} {x : HS} {y0 y : Bs} {k n : Nat} (ok : HOk m L x) (bt : bit m k y0 = some (hSt L x)) (h1 : bit m n (hLoc L x) = some y) (h2 : insd y) (h3 : bent m y = some []) : BRes m 0 y0 (.fin ((hPut x y.2.2).1 ++ (hPut x y.2.2).2) y.1 (x.1 * L + y.2.1) ((k : Int) + n)) := by
  obtain ⟨w1, w2⟩ := wh_bit (m := m) (t := x.1) ok.oth ok.loc.len h1
  obtain ⟨v1, v2, _⟩ := wh_st (m := m) (t := x.1) ok.oth w2 h2
  exact ⟨k + n, _, by rw [bit_add m k n _ _ bt]; exact w1, v1, by rw [v2]; exact h3, h_cat.symm, wh_1.symm, (wh_2 ok.at_).symm, by omega⟩
theorem h_out {m : Ma} {L : Nat} {x : HS} {y0 y : Bs} {k n : Nat} {s : Int} (ok : HOk m L x) (bt : bit m k y0 = some (hSt L x)) (h1 : bit m n (hLoc L x) = some y) (hy : (y.2.1 = -1 ∧ s = -1) ∨ (y.2.1 = L ∧ s = 1)) (hs : ¬ (x.1 + s = 0 ∨ x.1 + s = 1)) : BRes m 0 y0 (.out ((hPut x y.2.2).1 ++ (hPut x y.2.2).2) y.1 s ((k : Int) + n)) := by
  obtain ⟨w1, w2⟩ := wh_bit (m := m) (t := x.1) ok.oth ok.loc.len h1
  have ho := ok.oth
  have ha := ok.at_
  have hp : x.1 * (L : Int) + y.2.1 < 0 ∧ s = -1 ∨ (L : Int) + L ≤ x.1 * (L : Int) + y.2.1 ∧ s = 1 := by
    rcases ha with c | c
    · rw [c]; omega
    · rw [c]; omega
  refine ⟨k + n, _, by rw [bit_add m k n _ _ bt]; exact w1, ?_, h_cat.symm, wh_1.symm, ?_, by omega⟩
  · unfold insd
    rw [wh_2 ha, wh_3, ho, w2]
    intro z
    omega
  · rw [wh_2 ha]
    by_cases c : x.1 * (L : Int) + y.2.1 < 0
    · rw [if_pos c]; omega
    · rw [if_neg c]; omega
/-- on to the other half -/
theorem h_on {L : Nat} {x : HS} {y : Bs} {s : Int} (ok : x.1 = 0 ∨ x.1 = 1) (hy : (y.2.1 = -1 ∧ s = -1) ∨ (y.2.1 = L ∧ s = 1)) (hs : x.1 + s = 0 ∨ x.1 + s = 1) : wh L x.1 (hOth x) y = hSt L (x.1 + s, y.1, 0 - s, hPut x y.2.2) := by
  unfold hSt hLoc hThis hOth hPut wh near
  rcases ok with c | c
  · have es : s = 1 := by omega
    subst es
    have : y.2.1 = L := by omega
    rw [if_pos c, if_pos c, c]
    show (y.1, y.2.1, y.2.2 ++ x.2.2.2.2) = (y.1, (L : Int) + 0, y.2.2 ++ x.2.2.2.2)
    rw [this, Int.add_zero]
  · have es : s = -1 := by omega
    subst es
    have : y.2.1 = -1 := by omega
    rw [if_neg (by omega), if_neg (by omega), c]
    show (y.1, (L : Int) + y.2.1, x.2.2.2.1 ++ y.2.2) = (y.1, (L : Int) - 1, x.2.2.2.1 ++ y.2.2)
    rw [this]; rfl
theorem in01 {z : Int} : inV (V.int z) [V.int 0, V.int 1] = decide (z = 0 ∨ z = 1) := by
  unfold inV
  rw [List.any_cons, List.any_cons, List.any_nil, Bool.or_false]
  by_cases c0 : z = 0
  · subst c0; rfl
  · by_cases c1 : z = 1
    · subst c1; rfl
    · rw [decide_eq_false (by omega)]
      show (decide _ || decide _) = false
      rw [decide_eq_false (by omega), decide_eq_false (by omega)]
      rfl
def sp_halves : Sp := fun vs H Q _ => match vs with
  | [.ref t, .ref b, .int r, .int side] => ∃ (m : Ma) (L : Nat) (h0 h1 : List Int), Mach H t m ∧ isM m = true ∧ H b = some (.tup ((h0 ++ h1).map V.int)) ∧ (L = 1 ∨ L = 2) ∧ HOk m L ((if side = 1 then 1 else 0), r, side, h0, h1) ∧
      ∀ (res : TRes) (q : Addr) (H' : Hp), Sub H H' → BRes m 0 (hSt L ((if side = 1 then 1 else 0), r, side, h0, h1)) res → TRat H' q res → Q (.ref q) H'
  | _ => False
theorem ok_l_halves (T : Tx K mg a) : FnOk P w K mg base CX0 6 a.l_halves a.l_halves_d ["_law_machine_here", "_law_block", "_law_row", "_law_side"] (sp_halves) := by
  have G_through := ok_through (P := P) (w := w) (base := base) T
  refine T.f_l_halves.ok sc_l_halves (fun vs H Q E h => ?_) (fun cdv A outer s H vs Q E hr h => ?_)
  · unfold sp_halves at h
    split at h
    · rfl
    · exact h.elim
  · unfold sp_halves at h
    split at h
    · have nd := sc_l_halves.nd
      have hu := hu_of hr
      rename_i t b r side
      obtain ⟨m, L, h0, h1, hm, hM, hb, hL, ok0, h⟩ := h
      have M := OkM.of hM
      have l0 : h0.length = L := ok0.l0
      have l1 : h1.length = L := ok0.l1
      have hlen : ((h0 ++ h1).map V.int).length = 2 * L := by rw [List.length_map, List.length_append, l0, l1]; omega
      refine ⟨_, (pss_cons (ps_set (i := 4) nd rfl (by first | exact Or.inl rfl | exact Or.inr rfl) (pe_op q_fdiv (pe_callB (q_lenK (K := K) rfl) rfl T.z_len bt_len (pa_cons (qv 1) pa_nil)) pe_int))
    (pss_cons (ps_set (i := 5) nd rfl (by first | exact Or.inl rfl | exact Or.inr rfl) (pe_lst (pa_cons (pe_slice (q_slTK (K := K) rfl) (qv 1) po_none (qo_some (qv 4))) (pa_cons (pe_slice (q_slTK (K := K) rfl) (qv 1) (qo_some (qv 4)) po_none) pa_nil))))
    (pss_cons (ps_set (i := 6) nd rfl (by first | exact Or.inl rfl | exact Or.inr rfl) (pe_callTy q_int1 rfl T.z_int bt_int (pa_cons (pe_cmpR q_eq (qv 3) pe_int (by first | exact nomark _ | rfl)) pa_nil)))
    (pss_cons (ps_set (i := 7) nd rfl (by first | exact Or.inl rfl | exact Or.inr rfl) pe_int)
    (pss_cons (ps_set (i := 8) nd rfl (by first | exact Or.inl rfl | exact Or.inr rfl) (pe_lst pa_nil))
    (pss_cons (ps_while PassesOwn.never (pt_c (op_notInNL hr) (pe_tup (pa_cons (qv 6) (pa_cons (qv 2) (pa_cons (qv 3) (pa_cons (pe_ix (q_ixLK (K := K) rfl) (qv 5) pe_int (fun _ _ => rfl)) (pa_cons (pe_ix (q_ixLK (K := K) rfl) (qv 5) pe_int (fun _ _ => rfl)) pa_nil)))))) (qv 8)) (pss_cons (ps_expr (pe_bm PySem.F.plainAttrs_list PySem.F.slot_list_append PySem.F.type_list_append q_app (qv 8) (pa_cons (pe_tup (pa_cons (qv 6) (pa_cons (qv 2) (pa_cons (qv 3) (pa_cons (pe_ix (q_ixLK (K := K) rfl) (qv 5) pe_int (fun _ _ => rfl)) (pa_cons (pe_ix (q_ixLK (K := K) rfl) (qv 5) pe_int (fun _ _ => rfl)) pa_nil)))))) pa_nil)))
        (pss_cons (ps_set (i := 9) nd rfl (by first | exact Or.inl rfl | exact Or.inr rfl) (pe_call G_through (hr.mono (by decide)) rfl T.g_through T.f_through.kp T.b_through .nil pass0 (pa_cons (qv 0) (pa_cons (pe_ix (q_ixLK (K := K) rfl) (qv 5) (qv 6) (fun _ _ => rfl)) (pa_cons (qv 2) (pa_cons (qv 3) pa_nil))))))
        (pss_cons (ps_c (pt_c q_eq (pe_ix (q_ixTK (K := K) rfl) (qv 9) pe_int (fun _ _ => rfl)) pe_str) (pss_one (ps_ret (qv 9))) pss_nil)
        (pss_cons (ps_asg (pe_ix (q_ixTK (K := K) rfl) (qv 9) pe_int (fun _ _ => rfl)) (pg_sub (qv 5) (qv 6) q_setL))
        (pss_cons (ps_set (i := 7) nd rfl (by first | exact Or.inl rfl | exact Or.inr rfl) (pe_op q_add (qv 7) (pe_ix (q_ixTK (K := K) rfl) (qv 9) pe_int (fun _ _ => rfl))))
        (pss_cons (ps_set (i := 2) nd rfl (by first | exact Or.inl rfl | exact Or.inr rfl) (pe_ix (q_ixTK (K := K) rfl) (qv 9) pe_int (fun _ _ => rfl)))
        (pss_cons (ps_c (pt_c q_eq (pe_ix (q_ixTK (K := K) rfl) (qv 9) pe_int (fun _ _ => rfl)) pe_str) (pss_one (ps_ret (pe_tup (pa_cons pe_str (pa_cons (pe_op (q_catUK (K := K) rfl) (pe_ix (q_ixLK (K := K) rfl) (qv 5) pe_int (fun _ _ => rfl)) (pe_ix (q_ixLK (K := K) rfl) (qv 5) pe_int (fun _ _ => rfl))) (pa_cons (qv 2) (pa_cons (pe_op q_add (pe_op q_mul (qv 6) (qv 4)) (pe_ix (q_ixTK (K := K) rfl) (qv 9) pe_int (fun _ _ => rfl))) (pa_cons (qv 7) pa_nil)))))))) pss_nil)
        (pss_cons (ps_c (pt_c (q_notInK (K := K) rfl) (pe_op q_add (qv 6) (pe_ix (q_ixTK (K := K) rfl) (qv 9) pe_int (fun _ _ => rfl))) (pe_tup (pa_cons pe_int (pa_cons pe_int pa_nil)))) (pss_one (ps_ret (pe_tup (pa_cons pe_str (pa_cons (pe_op (q_catUK (K := K) rfl) (pe_ix (q_ixLK (K := K) rfl) (qv 5) pe_int (fun _ _ => rfl)) (pe_ix (q_ixLK (K := K) rfl) (qv 5) pe_int (fun _ _ => rfl))) (pa_cons (qv 2) (pa_cons (pe_ix (q_ixTK (K := K) rfl) (qv 9) pe_int (fun _ _ => rfl)) (pa_cons (qv 7) pa_nil)))))))) pss_nil)
        (pss_cons (ps_set (i := 6) nd rfl (by first | exact Or.inl rfl | exact Or.inr rfl) (pe_op q_add (qv 6) (pe_ix (q_ixTK (K := K) rfl) (qv 9) pe_int (fun _ _ => rfl))))
        (pss_one (ps_set (i := 3) nd rfl (by first | exact Or.inl rfl | exact Or.inr rfl) (pe_op q_sub pe_int (pe_ix (q_ixTK (K := K) rfl) (qv 9) pe_int (fun _ _ => rfl)))))))))))))))
    (pss_one (ps_ret (pe_tup (pa_cons pe_str pa_nil)))))))))), ?_⟩
      refine ⟨_, .inr (SqT.of hb), ?_⟩
      rw [hlen]
      refine ⟨lg (by decide) (by decide), fun lo hlo _ => ?_⟩
      have hlo : lo = L := by have : lo = ((2 * L : Nat) : Int) / 2 := hlo; omega
      subst hlo
      refine ⟨_, SqT.of hb, ?_, ?_⟩
      · show ¬ (HT.sIx ((h0 ++ h1).map V.int).length 0 none = 0 ∧ HT.sIx ((h0 ++ h1).map V.int).length ((h0 ++ h1).map V.int).length (some (L : Int)) = ((h0 ++ h1).map V.int).length)
        rw [hlen]
        rcases hL with rfl | rfl <;> decide
      intro p1 n1
      generalize hU1 : upd _ p1 _ = H1
      have S1 := (upd_sub n1 hU1).1
      have e1 := (upd_sub n1 hU1).2
      clear hU1
      rw [cut_take (by omega), ← List.map_take, List.take_append_of_le_length (by omega), List.take_of_length_le (by omega)] at e1
      refine ⟨_, SqT.of (S1 _ _ hb), ?_, ?_⟩
      · show ¬ (HT.sIx ((h0 ++ h1).map V.int).length 0 (some (L : Int)) = 0 ∧ HT.sIx ((h0 ++ h1).map V.int).length ((h0 ++ h1).map V.int).length none = ((h0 ++ h1).map V.int).length)
        rw [hlen]
        rcases hL with rfl | rfl <;> decide
      intro p2 n2
      generalize hU2 : upd _ p2 _ = H2
      have S2 := (upd_sub n2 hU2).1
      have e2 := (upd_sub n2 hU2).2
      clear hU2
      rw [cut_drop (by omega), ← List.map_drop, List.drop_append_of_le_length (by omega), List.drop_of_length_le (by omega), List.nil_append] at e2
      refine ⟨by show 2 ≤ sizeLine; decide, ?_⟩
      intro p3 n3
      generalize hU3 : upd _ p3 _ = H3
      have S3 := (upd_sub n3 hU3).1
      have e3 := (upd_sub n3 hU3).2
      clear hU3
      refine ⟨by show 0 ≤ sizeLine; decide, ?_⟩
      intro p4 n4
      generalize hU4 : upd _ p4 _ = H4
      have S4 := (upd_sub n4 hU4).1
      have e4 := (upd_sub n4 hU4).2
      clear hU4
      have S02 := S1.trans S2
      have S04 := (S02.trans S3).trans S4
      obtain ⟨tg, htg⟩ : ∃ tg : Int, tg = (if decide (side = 1) = true then 1 else 0) := ⟨_, rfl⟩
      have htg' : tg = (if side = 1 then 1 else 0) := by rw [htg]; by_cases c : side = 1 <;> simp [c]
      rw [← htg'] at h ok0
      have npp : p3 ≠ p4 := by rintro rfl; rw [e3] at n4; cases n4
      have nh : H p3 = none := S02.free n3
      have nps : H p4 = none := S02.free (S3.free n4)
      have I0 : HInv m L H (hSt L (tg, r, side, h0, h1)) p3 p4 0 (tg, r, side, h0, h1) [] [] p1 p2 H4 := ⟨S04, S4 _ _ e3, (S4 _ _ (S3 _ _ (S2 _ _ e1))), S4 _ _ (S3 _ _ e2), e4, .nil, ok0, (by simp), (by simp), rfl, (by simp)⟩
      generalize hSt L (tg, r, side, h0, h1) = y0 at h I0
      refine ⟨fun w σ A => ∃ (x : HS) (k : Nat) (sn : List HS) (as : List Addr) (a0 a1 : Addr) (v9 : Option V), w = 5000 - sn.length ∧ σ = [some (.ref t), some (.ref b), some (.int x.2.1), some (.int x.2.2.1), some (.int L), some (.ref p3), some (.int x.1), some (.int k), some (.ref p4), v9] ∧ HInv m L H y0 p3 p4 k x sn as a0 a1 A, ?_, ?_⟩
      · exact ⟨_, (tg, r, side, h0, h1), 0, [], [], p1, p2, none, rfl, by rw [htg]; rfl, I0⟩
      · rintro w σ A ⟨x, k, sn, as, a0, a1, v9, rfl, rfl, I⟩
        refine ⟨_, _, SqL.of I.hh, atI_nat (j := 0) rfl, ?_⟩
        refine ⟨_, _, SqL.of I.hh, atI_nat (j := 1) rfl, ?_⟩
        refine ⟨by show 5 ≤ sizeLine; decide, ?_⟩
        intro p5 n5
        generalize hU5 : upd _ p5 _ = H5
        have S5 := (upd_sub n5 hU5).1
        have e5 := (upd_sub n5 hU5).2
        clear hU5
        have hkey : DenN H5 (keyH x) (.ref p5) := denN_keyH e5 (S5 _ _ I.b0) (S5 _ _ I.b1)
        have hall : All2 (fun a s => DenN H5 (keyH s) (.ref a)) as sn := I.all.mono fun _ _ _ z => DenN.mono (fun _ _ e => S5 _ _ e) 7 _ _ (keyH_dep _) z
        have hmem : keyH x ∈ sn.map keyH ↔ x ∈ sn := ⟨fun z => by obtain ⟨y, hy, e⟩ := List.mem_map.1 z; rw [← keyH_inj e]; exact hy, fun z => List.mem_map.2 ⟨x, z, rfl⟩⟩
        refine ⟨p5, p4, keyH x, sn.map keyH, as.map V.ref, rfl, rfl, keyH_dep x, hkey, S5 _ _ I.hs, dens_of hall, keyHs_dep sn, ?_⟩
        by_cases cs : x ∈ sn
        · refine ite_nno (c := keyH x ∈ sn.map keyH) (hmem.2 cs) ?_
          refine ⟨by show 1 ≤ sizeLine; decide, ?_⟩
          intro p6 n6
          generalize hU6 : upd _ p6 _ = H6
          have S6 := (upd_sub n6 hU6).1
          have e6 := (upd_sub n6 hU6).2
          clear hU6
          obtain ⟨j, hj, hb'⟩ := I.rd x cs
          exact h .stay p6 H6 ((I.sub.trans S5).trans S6) (h_all I.bt (bit_loop hj hb')) e6
        · refine ite_nyes (c := keyH x ∈ sn.map keyH) (fun z => cs (hmem.1 z)) ?_
          refine ⟨_, fun σ' H' z => z, ?_⟩
          have hsl := hs_le M (show L ≤ 2 by omega) I.nd I.oks
          have hal : as.length = sn.length := I.all.1
          have hh5 := S5 _ _ I.hh
          have hs5 := S5 _ _ I.hs
          refine ⟨.inl ⟨rfl, _, SqL.of hs5⟩, ?_⟩
          refine ⟨_, _, SqL.of hh5, atI_nat (j := 0) rfl, ?_⟩
          refine ⟨_, _, SqL.of hh5, atI_nat (j := 1) rfl, ?_⟩
          refine ⟨by show 5 ≤ sizeLine; decide, ?_⟩
          intro p6 n6
          generalize hU6 : upd _ p6 _ = H6
          have S6 := (upd_sub n6 hU6).1
          have e6 := (upd_sub n6 hU6).2
          clear hU6
          have S6' := S5.trans S6
          refine ⟨_, S6 _ _ hs5, ?_, ?_⟩
          · rw [List.length_map, hal]; exact Nat.lt_of_le_of_lt hsl (by decide)
          have S07 : Sub H (upd H6 p4 (.lst (as.map V.ref ++ [V.ref p6]))) := (I.sub.trans S6').upd nps
          have k7 : ∀ c u, H6 c = some u → c ≠ p4 → (upd H6 p4 (.lst (as.map V.ref ++ [V.ref p6]))) c = some u := fun c u e ne => by rw [upd_ne ne]; exact e
          have g7 : (upd H6 p4 (.lst (as.map V.ref ++ [V.ref p6]))) p4 = some (.lst ((as ++ [p6]).map V.ref)) := by rw [upd_same, List.map_append]; rfl
          have t7 : ∀ c us, H6 c = some (.tup us) → (upd H6 p4 (.lst (as.map V.ref ++ [V.ref p6]))) c = some (.tup us) := fun c us e => k7 c _ e (by rintro rfl; rw [S6 _ _ hs5] at e; cases e)
          generalize upd H6 p4 (.lst (as.map V.ref ++ [V.ref p6])) = H7 at S07 k7 g7 t7 ⊢
          have hh7 := k7 _ _ (S6 _ _ hh5) npp
          have b07 := t7 _ _ (S6' _ _ I.b0)
          have b17 := t7 _ _ (S6' _ _ I.b1)
          have A7 : All2 (fun a s => DenN H7 (keyH s) (.ref a)) (as ++ [p6]) (sn ++ [x]) := (I.all.mono fun _ _ _ z => DenN.mono (fun _ _ e => t7 _ _ (S6' _ _ e)) 7 _ _ (keyH_dep _) z).app (denN_keyH (t7 _ _ e6) b07 b17)
          obtain ⟨ah, hix, hth⟩ : ∃ ah : Addr, atI [V.ref a0, V.ref a1] x.1 = some (.ref ah) ∧ H7 ah = some (.tup ((hThis x).map V.int)) := by
            unfold hThis
            rcases I.ok.at_ with c | c
            · rw [c, if_pos rfl]; exact ⟨a0, rfl, b07⟩
            · rw [c, if_neg (by decide)]; exact ⟨a1, rfl, b17⟩
          have hl := I.ok.loc.len
          have hl : (hThis x).length = L := hl
          refine ⟨_, _, SqL.of hh7, hix, ?_⟩
          refine ⟨m, hThis x, hm.stay (.sub S07), hM, hth, by rw [hl]; exact I.ok.loc, by omega, by omega, fun res q H8 S8 hthr hq nq => ?_⟩
          rw [hl] at hthr
          have hsem : BRes m 0 (hLoc L x) res := hthr.sem (by simp)
          have S08 := S07.trans S8
          have hh8 := S8 _ _ hh7
          have cs2 : res = .stay ∨ ∃ (wd : Str) (qb : Addr) (b' : List Int) (r' p' c' : Int), H8 q = some (.tup [.str wd, .ref qb, .int r', .int p', .int c']) ∧ H8 qb = some (.tup (b'.map V.int)) ∧ ((wd = "out" ∧ res = .out b' r' p' c') ∨ (wd = "end" ∧ res = .fin b' r' p' c')) := by
            cases res with
            | stay => exact .inl rfl
            | out b' r' p' c' => obtain ⟨qb, q1, q2⟩ := hq; exact .inr ⟨_, qb, b', r', p', c', q1, q2, .inl ⟨rfl, rfl⟩⟩
            | fin b' r' p' c' => obtain ⟨qb, q1, q2⟩ := hq; exact .inr ⟨_, qb, b', r', p', c', q1, q2, .inr ⟨rfl, rfl⟩⟩
          rcases cs2 with rfl | ⟨wd, qb, b', r', p', c', hq1, hq2, hres⟩
          · have hq : H8 q = some (.tup [.str "stay"]) := hq
            have hq0 := hq
            obtain ⟨wd, hwd⟩ : ∃ wd : Str, wd = "stay" := ⟨_, rfl⟩
            rw [← hwd] at hq
            refine ⟨_, _, SqT.of hq, atI_nat (j := 0) rfl, ?_⟩
            walk_at "w"
            refine ifB.yes (by rw [hwd]; decide +kernel) ?_
            exact h .stay q H8 S08 (h_stay I.ok I.bt hsem) hq0
          · walk_at "w"
            refine ⟨_, _, SqT.of hq1, atI_nat (j := 0) rfl, ?_⟩
            walk_at "w"
            refine ifB.no (by rcases hres with ⟨e, _⟩ | ⟨e, _⟩ <;> rw [e] <;> decide +kernel) ?_
            refine ⟨_, _, SqT.of hq1, atI_nat (j := 1) rfl, ?_⟩
            walk_at "w"
            obtain ⟨j, a0', a1', hj, hset, c0, c1⟩ : ∃ (j : Nat) (a0' a1' : Addr), ixN [V.ref a0, V.ref a1].length x.1 = some j ∧ [V.ref a0, V.ref a1].set j (V.ref qb) = [V.ref a0', V.ref a1'] ∧ H8 a0' = some (.tup ((hPut x b').1.map V.int)) ∧ H8 a1' = some (.tup ((hPut x b').2.map V.int)) := by
              unfold hPut
              rcases I.ok.at_ with c | c
              · rw [c, if_pos rfl]; exact ⟨0, qb, a1, rfl, rfl, hq2, S8 _ _ b17⟩
              · rw [c, if_neg (by decide)]; exact ⟨1, a0, qb, rfl, rfl, S8 _ _ b07, hq2⟩
            refine ⟨_, j, hh8, hj, ?_⟩
            rw [hset]
            have hok := hthr.ok M I.ok.loc b' r' p' c' (by rcases hres with ⟨_, e⟩ | ⟨_, e⟩; exact .inl e; exact .inr e)
            have hl1 : (hPut x b').1.length = L ∧ (hPut x b').2.length = L := by
              unfold hPut; split
              · exact ⟨hok.1, I.ok.l1⟩
              · exact ⟨I.ok.l0, hok.1⟩
            have S09 : Sub H (upd H8 p3 (.lst [V.ref a0', V.ref a1'])) := S08.upd nh
            have k9 : ∀ c u, H8 c = some u → c ≠ p3 → (upd H8 p3 (.lst [V.ref a0', V.ref a1'])) c = some u := fun c u e ne => by rw [upd_ne ne]; exact e
            have hh9 : (upd H8 p3 (.lst [V.ref a0', V.ref a1'])) p3 = some (.lst [V.ref a0', V.ref a1']) := upd_same
            have t9 : ∀ c us, H8 c = some (.tup us) → (upd H8 p3 (.lst [V.ref a0', V.ref a1'])) c = some (.tup us) := fun c us e => k9 c _ e (by rintro rfl; rw [hh8] at e; cases e)
            generalize upd H8 p3 (.lst [V.ref a0', V.ref a1']) = H9 at S09 k9 hh9 t9 ⊢
            have hq9 := t9 _ _ hq1
            have c09 := t9 _ _ c0
            have c19 := t9 _ _ c1
            have ne0 : (hPut x b').1.map V.int ≠ [] := fun z => by have := congrArg List.length z; rw [List.length_map, hl1.1] at this; simp at this; omega
            have ne1 : (hPut x b').2.map V.int ≠ [] := fun z => by have := congrArg List.length z; rw [List.length_map, hl1.2] at this; simp at this; omega
            have hsz : ((hPut x b').1.map V.int).length + ((hPut x b').2.map V.int).length ≤ sizeLine := by rw [List.length_map, List.length_map, hl1.1, hl1.2]; exact Nat.le_trans (show L + L ≤ 4 by omega) (by decide)
            refine ⟨_, _, SqT.of hq9, atI_nat (j := 4) rfl, ?_⟩
            refine ⟨_, _, SqT.of hq9, atI_nat (j := 2) rfl, ?_⟩
            refine ⟨_, _, SqT.of hq9, atI_nat (j := 0) rfl, ?_⟩
            walk_at "w"
            rcases hres with ⟨hwd, rfl⟩ | ⟨hwd, rfl⟩
            · obtain ⟨n, y, y1, y2, y3, y4, y5, y6⟩ := hsem
              have hin : insd (hLoc L x) := by
                have := near_in (k := L) (by omega) x.2.2.1
                refine ⟨this.1, ?_⟩
                show near L x.2.2.1 < ((hThis x).length : Int)
                rw [hl]; exact this.2
              have hlv := bit_leave M I.ok.loc hin y1 y2
              have hy : (y.2.1 = -1 ∧ p' = -1) ∨ (y.2.1 = L ∧ p' = 1) := by
                rcases hlv with c | c
                · exact .inl ⟨c, by rw [y5, if_pos (by omega)]⟩
                · exact .inr ⟨c, by rw [y5, if_neg (by omega)]⟩
              have hn1 : 1 ≤ n := by
                cases n with
                | zero => rw [bit] at y1; cases y1; exact (y2 hin).elim
                | succ n => omega
              refine ifB.no (by rw [hwd]; decide +kernel) ?_
              refine ⟨_, _, SqT.of hq9, atI_nat (j := 3) rfl, ?_⟩
              refine ⟨by show 2 ≤ sizeLine; decide, ?_⟩
              intro p10 n10
              generalize hU10 : upd _ p10 _ = H10
              have S10 := (upd_sub n10 hU10).1
              have e10 := (upd_sub n10 hU10).2
              clear hU10
              have hq10 := S10 _ _ hq9
              refine ⟨_, .inr (SqT.of e10), rfl, rfl, ?_⟩
              have hinv : inV (V.int (x.1 + p')) [V.int 0, V.int 1] = decide (x.1 + p' = 0 ∨ x.1 + p' = 1) := in01
              rw [hinv]
              walk_at "w"
              refine ifB.ndec (fun zs => ?_) (fun zs => ?_)
              · walk_at "w"
                refine ⟨_, _, SqT.of hq10, atI_nat (j := 3) rfl, ?_⟩
                refine ⟨_, _, SqT.of hq10, atI_nat (j := 3) rfl, ?_⟩
                have t10 : ∀ c us, H7 c = some (.tup us) → H10 c = some (.tup us) := fun c us e => S10 _ _ (t9 _ _ (S8 _ _ e))
                subst y3
                refine ⟨_, ?_, (x.1 + p', r', 0 - p', hPut x y.2.2), k + n, sn ++ [x], as ++ [p6], a0', a1', some (.ref q), rfl, ?_, S09.trans S10, S10 _ _ hh9, S10 _ _ c09, S10 _ _ c19, S10 _ _ (k9 _ _ (S8 _ _ g7) npp.symm), A7.mono fun _ _ _ z => DenN.mono t10 7 _ _ (keyH_dep _) z, ⟨zs, ?_, hok.2.2.1, hok.2.2.2, hl1.1, hl1.2, ?_, ?_⟩, ?_, ?_, ?_, ?_⟩
                · rw [List.length_append, List.length_singleton]; omega
                · rw [show c' = (n : Int) by omega]
                  rfl
                · show 0 - p' = -1 ∨ 0 - p' = 1; omega
                · show ∀ s ∈ (hPut x y.2.2).1, _; unfold hPut; split; exact hok.2.1; exact I.ok.g0
                · show ∀ s ∈ (hPut x y.2.2).2, _; unfold hPut; split; exact I.ok.g1; exact hok.2.1
                · intro u hu
                  rcases List.mem_append.1 hu with hu | hu
                  · exact I.oks u hu
                  · rw [List.mem_singleton.1 hu]; exact I.ok
                · exact List.nodup_append.2 ⟨I.nd, by simp, fun u hu v hv => by simp at hv; subst hv; rintro rfl; exact cs hu⟩
                · rw [bit_add m k n _ _ I.bt, y4]
                  exact (wh_bit (m := m) (t := x.1) I.ok.oth I.ok.loc.len y1).1.trans (by rw [h_on I.ok.at_ hy zs])
                · have hstep : bit m n (hSt L x) = some (hSt L (x.1 + p', r', 0 - p', hPut x y.2.2)) := by
                    rw [y4]
                    exact (wh_bit (m := m) (t := x.1) I.ok.oth I.ok.loc.len y1).1.trans (by rw [h_on I.ok.at_ hy zs])
                  intro u hu
                  rcases List.mem_append.1 hu with hu | hu
                  · obtain ⟨j', hj', hb'⟩ := I.rd u hu
                    exact ⟨j' + n, by omega, by rw [bit_add m j' n _ _ hb']; exact hstep⟩
                  · rw [List.mem_singleton.1 hu]; exact ⟨n, hn1, hstep⟩
              · walk_at "w"
                refine ⟨_, _, SqL.of (S10 _ _ hh9), atI_nat (j := 0) rfl, ?_⟩
                refine ⟨_, _, SqL.of (S10 _ _ hh9), atI_nat (j := 1) rfl, ?_⟩
                refine ⟨_, _, SqT.of (S10 _ _ c09), SqT.of (S10 _ _ c19), hsz, fun z => (ne0 z).elim, fun _ z => (ne1 z).elim, fun _ _ => ?_⟩
                intro p11 n11
                generalize hU11 : upd _ p11 _ = H11
                have S11 := (upd_sub n11 hU11).1
                have e11 := (upd_sub n11 hU11).2
                clear hU11
                refine ⟨_, _, SqT.of (S11 _ _ hq10), atI_nat (j := 3) rfl, ?_⟩
                refine ⟨by show 5 ≤ sizeLine; decide, ?_⟩
                intro p12 n12
                generalize hU12 : upd _ p12 _ = H12
                have S12 := (upd_sub n12 hU12).1
                have e12 := (upd_sub n12 hU12).2
                clear hU12
                subst y3
                refine h _ p12 H12 (((S09.trans S10).trans S11).trans S12) (h_out I.ok I.bt y1 hy zs) ⟨p11, ?_, ?_⟩
                · rw [e12, y4, y6, Int.zero_add]
                · rw [S12 _ _ e11, List.map_append]
            · obtain ⟨n, y, y1, y2, y3, y4, y5, y6, y7⟩ := hsem
              refine ifB.yes (by rw [hwd]; decide +kernel) ?_
              refine ⟨_, _, SqL.of hh9, atI_nat (j := 0) rfl, ?_⟩
              refine ⟨_, _, SqL.of hh9, atI_nat (j := 1) rfl, ?_⟩
              refine ⟨_, _, SqT.of c09, SqT.of c19, hsz, fun z => (ne0 z).elim, fun _ z => (ne1 z).elim, fun _ _ => ?_⟩
              intro p10 n10
              generalize hU10 : upd _ p10 _ = H10
              have S10 := (upd_sub n10 hU10).1
              have e10 := (upd_sub n10 hU10).2
              clear hU10
              refine ⟨.inl ⟨by have := I.ok.at_; omega, by have := I.ok.at_; omega⟩, fun pl hpl _ => ?_⟩
              have hpl : pl = x.1 * L := hpl
              refine ⟨_, _, SqT.of (S10 _ _ hq9), atI_nat (j := 3) rfl, ?_⟩
              refine ⟨by show 5 ≤ sizeLine; decide, ?_⟩
              intro p11 n11
              generalize hU11 : upd _ p11 _ = H11
              have S11 := (upd_sub n11 hU11).1
              have e11 := (upd_sub n11 hU11).2
              clear hU11
              subst y4
              refine h _ p11 H11 ((S09.trans S10).trans S11) (h_fin I.ok I.bt y1 y2 y3) ⟨p10, ?_, ?_⟩
              · rw [e11, hpl, y5, y6, y7, Int.zero_add]
              · rw [S11 _ _ e10, List.map_append]
    · exact h.elim
theorem sc_l_turned_about : FnScope ["_law_found", "_law_other"] ["_law_found"] (defScope s_l_turned_about) := ⟨rfl, rfl, rfl, by decide +kernel, rfl, by decide +kernel, by decide +kernel⟩
def sp_about : Sp := fun vs H Q _ => match vs with
  | [.ref t] => ∃ res : TRes, TRat H t res ∧ (∀ b r s k, res = .out b r s k ∨ res = .fin b r s k → b.length ≤ 4) ∧ ∀ (q : Addr) (H' : Hp), Sub H H' → TRat H' q (mirT res) → Q (.ref q) H'
  | _ => False
theorem ok_l_turned_about (T : Tx K mg a) : FnOk P w K mg base CX0 1 a.l_turned_about a.l_turned_about_d ["_law_found"] (sp_about) := by
  refine T.f_l_turned_about.ok sc_l_turned_about (fun vs H Q E h => ?_) (fun cdv A outer s H vs Q E hr h => ?_)
  · unfold sp_about at h
    split at h
    · rfl
    · exact h.elim
  · unfold sp_about at h
    split at h
    · have nd := sc_l_turned_about.nd
      have hu := hu_of hr
      rename_i t
      obtain ⟨res, hres, hbl, h⟩ := h
      refine ⟨_, (pss_cons (ps_c (pt_c q_eq (pe_ix (q_ixTK (K := K) rfl) (qv 0) pe_int (fun _ _ => rfl)) pe_str) (pss_one (ps_ret (qv 0))) pss_nil)
    (pss_cons (ps_set (i := 1) nd rfl (by first | exact Or.inl rfl | exact Or.inr rfl) (pe_op q_sub pe_int (pe_ix (q_ixTK (K := K) rfl) (qv 0) pe_int (fun _ _ => rfl))))
    (pss_cons (ps_c (pt_c q_eq (pe_ix (q_ixTK (K := K) rfl) (qv 0) pe_int (fun _ _ => rfl)) pe_str) (pss_one (ps_set (i := 1) nd rfl (by first | exact Or.inl rfl | exact Or.inr rfl) (pe_op q_sub (pe_op q_sub (pe_callB (q_lenK (K := K) rfl) rfl T.z_len bt_len (pa_cons (pe_ix (q_ixTK (K := K) rfl) (qv 0) pe_int (fun _ _ => rfl)) pa_nil)) pe_int) (pe_ix (q_ixTK (K := K) rfl) (qv 0) pe_int (fun _ _ => rfl))))) pss_nil)
    (pss_one (ps_ret (pe_tup (pa_cons (pe_ix (q_ixTK (K := K) rfl) (qv 0) pe_int (fun _ _ => rfl)) (pa_cons (pe_revTK (K := K) rfl (pe_ix (q_ixTK (K := K) rfl) (qv 0) pe_int (fun _ _ => rfl)) (qo_some (pe_un q_neg pe_int))) (pa_cons (pe_ix (q_ixTK (K := K) rfl) (qv 0) pe_int (fun _ _ => rfl)) (pa_cons (qv 1) (pa_cons (pe_ix (q_ixTK (K := K) rfl) (qv 0) pe_int (fun _ _ => rfl)) pa_nil))))))))))), ?_⟩
      have cs2 : (res = .stay ∧ H t = some (.tup [.str "stay"])) ∨ ∃ (wd : Str) (qb : Addr) (b' : List Int) (r' p' c' : Int), H t = some (.tup [.str wd, .ref qb, .int r', .int p', .int c']) ∧ H qb = some (.tup (b'.map V.int)) ∧ ((wd = "out" ∧ res = .out b' r' p' c') ∨ (wd = "end" ∧ res = .fin b' r' p' c')) := by
        cases res with
        | stay => exact .inl ⟨rfl, hres⟩
        | out b' r' p' c' => obtain ⟨qb, q1, q2⟩ := hres; exact .inr ⟨_, qb, b', r', p', c', q1, q2, .inl ⟨rfl, rfl⟩⟩
        | fin b' r' p' c' => obtain ⟨qb, q1, q2⟩ := hres; exact .inr ⟨_, qb, b', r', p', c', q1, q2, .inr ⟨rfl, rfl⟩⟩
      rcases cs2 with ⟨rfl, hq⟩ | ⟨wd, qb, b', r', p', c', hq1, hq2, hr2⟩
      · have hq0 := hq
        obtain ⟨wd, hwd⟩ : ∃ wd : Str, wd = "stay" := ⟨_, rfl⟩
        rw [← hwd] at hq
        refine ⟨_, _, SqT.of hq, atI_nat (j := 0) rfl, ?_⟩
        walk_at "w"
        refine ifB.yes (by rw [hwd]; decide +kernel) ?_
        exact h t H Sub.refl hq0
      · have hb4 : b'.length ≤ 4 := by rcases hr2 with ⟨_, e⟩ | ⟨_, e⟩; exact hbl _ _ _ _ (.inl e); exact hbl _ _ _ _ (.inr e)
        refine ⟨_, _, SqT.of hq1, atI_nat (j := 0) rfl, ?_⟩
        walk_at "w"
        refine ifB.no (by rcases hr2 with ⟨e, _⟩ | ⟨e, _⟩ <;> rw [e] <;> decide +kernel) ?_
        refine ⟨_, _, SqT.of hq1, atI_nat (j := 3) rfl, ?_⟩
        refine ⟨_, _, SqT.of hq1, atI_nat (j := 0) rfl, ?_⟩
        walk_at "w"
        rcases hr2 with ⟨hwd, rfl⟩ | ⟨hwd, rfl⟩
        · refine ifB.no (by rw [hwd]; decide +kernel) ?_
          refine ⟨_, _, SqT.of hq1, atI_nat (j := 0) rfl, ?_⟩
          refine ⟨_, _, SqT.of hq1, atI_nat (j := 1) rfl, ?_⟩
          refine ⟨rfl, _, SqT.of hq2, ?_⟩
          intro p1 n1
          generalize hU1 : upd _ p1 _ = H1
          have S1 := (upd_sub n1 hU1).1
          have e1 := (upd_sub n1 hU1).2
          clear hU1
          refine ⟨_, _, SqT.of (S1 _ _ hq1), atI_nat (j := 2) rfl, ?_⟩
          refine ⟨_, _, SqT.of (S1 _ _ hq1), atI_nat (j := 4) rfl, ?_⟩
          refine ⟨by show 5 ≤ sizeLine; decide, ?_⟩
          intro p2 n2
          generalize hU2 : upd _ p2 _ = H2
          have S2 := (upd_sub n2 hU2).1
          have e2 := (upd_sub n2 hU2).2
          clear hU2
          refine h p2 H2 (S1.trans S2) ⟨p1, ?_, ?_⟩
          · rw [e2, hwd]
          · rw [S2 _ _ e1, List.map_reverse]
        · refine ifB.yes (by rw [hwd]; decide +kernel) ?_
          refine ⟨_, _, SqT.of hq1, atI_nat (j := 1) rfl, ?_⟩
          refine ⟨_, .inr (SqT.of hq2), ?_⟩
          refine ⟨_, _, SqT.of hq1, atI_nat (j := 3) rfl, ?_⟩
          refine ⟨_, _, SqT.of hq1, atI_nat (j := 0) rfl, ?_⟩
          refine ⟨_, _, SqT.of hq1, atI_nat (j := 1) rfl, ?_⟩
          refine ⟨rfl, _, SqT.of hq2, ?_⟩
          intro p1 n1
          generalize hU1 : upd _ p1 _ = H1
          have S1 := (upd_sub n1 hU1).1
          have e1 := (upd_sub n1 hU1).2
          clear hU1
          refine ⟨_, _, SqT.of (S1 _ _ hq1), atI_nat (j := 2) rfl, ?_⟩
          refine ⟨_, _, SqT.of (S1 _ _ hq1), atI_nat (j := 4) rfl, ?_⟩
          refine ⟨by show 5 ≤ sizeLine; decide, ?_⟩
          intro p2 n2
          generalize hU2 : upd _ p2 _ = H2
          have S2 := (upd_sub n2 hU2).1
          have e2 := (upd_sub n2 hU2).2
          clear hU2
          refine h p2 H2 (S1.trans S2) ⟨p1, ?_, ?_⟩
          · rw [e2, hwd, List.length_map]
          · rw [S2 _ _ e1, List.map_reverse]
    · exact h.elim
theorem sc_law : FnScope ["_law_script", "_law_cell", "_law_purse_here", "_law_machine_here", "_law_back", "_law_turn", "_law_many", "_law_block", "_law_row", "_law_side", "_law_found"] ["_law_script"] (defScope s_law) := ⟨rfl, rfl, rfl, by decide +kernel, rfl, by decide +kernel, by decide +kernel⟩
def sp_law (K : PySem.W.Frag) : Sp := fun vs H Q _ => match vs with
  | [.ref b] => ∃ ns : List Int, SqL K H b (ns.map V.int) ∧ ns.length ≤ 63 ∧ ∀ H', Q (.bl true) H'
  | _ => False
theorem sql_sub {K : PySem.W.Frag} {H H' : Hp} {b : Addr} {xs : List V} (S : Sub H H') (h : SqL K H b xs) : SqL K H' b xs := by
  rcases h with h | h
  · rcases h with h | ⟨o, h⟩
    · exact .inl (.inl (S _ _ h))
    · exact .inl (.inr ⟨o, S _ _ h⟩)
  · exact .inr h
theorem mach_len {H : Hp} {t : Addr} {m : Ma} (h : Mach H t m) : ∃ vs : List V, H t = some (.lst vs) ∧ vs.length = m.length := by
  obtain ⟨rs, h1, _, h2⟩ := h
  exact ⟨_, h1, by rw [List.length_map, h2.1]⟩
theorem mach_row0 {H : Hp} {t : Addr} {m : Ma} (h : Mach H t m) (M : OkM m) : ∃ (vs us : List V) (r : Addr), H t = some (.lst vs) ∧ atI vs 0 = some (.ref r) ∧ H r = some (.lst us) ∧ us.length = sgn m := by
  obtain ⟨rs, h1, _, h2⟩ := h
  obtain ⟨r, rs', rfl⟩ : ∃ r rs', rs = r :: rs' := by
    cases rs with
    | nil => have := h2.1; have := M.n1; simp at *; omega
    | cons r rs => exact ⟨r, rs, rfl⟩
  obtain ⟨es, he, as, h3, h4⟩ := h2.at (i := 0) (a := r) rfl
  exact ⟨_, _, r, h1, atI_nat (j := 0) rfl, h3, by rw [List.length_map, h4.1]; exact M.len es (List.mem_of_getElem? he)⟩
theorem ok_law (T : Tx K mg a) : FnOk P w K mg base CX0 7 a.law a.law_d ["_law_script"] (sp_law K) := by
  have G_l_purse := ok_l_purse (P := P) (w := w) (base := base) T
  have G_l_machine := ok_l_machine (P := P) (w := w) (base := base) T
  have G_l_mirrored := ok_l_mirrored (P := P) (w := w) (base := base) T
  have G_l_draw := ok_l_draw (P := P) (w := w) (base := base) T
  have G_through := ok_through (P := P) (w := w) (base := base) T
  have G_l_halves := ok_l_halves (P := P) (w := w) (base := base) T
  have G_l_turned_about := ok_l_turned_about (P := P) (w := w) (base := base) T
  refine T.f_law.ok sc_law (fun vs H Q E h => ?_) (fun cdv A outer s H vs Q E hr h => ?_)
  · unfold sp_law at h
    split at h
    · rfl
    · exact h.elim
  · unfold sp_law at h
    split at h
    · have nd := sc_law.nd
      have hu := hu_of hr
      rename_i b
      obtain ⟨ns, hb, hl, h⟩ := h
      refine ⟨_, (pss_cons (ps_for PassesOwn.never rfl (qi_range1 rfl T.z_range (pa_cons pe_int pa_nil)) (pg_name (i := 1) nd rfl (by first | exact Or.inl rfl | exact Or.inr rfl)) (pss_cons (ps_set (i := 2) nd rfl (by first | exact Or.inl rfl | exact Or.inr rfl) (pe_call G_l_purse (hr.mono (by decide)) rfl T.g_l_purse T.f_l_purse.kp T.b_l_purse .nil pass0 (pa_cons (qv 0) (pa_cons (qv 1) pa_nil))))
        (pss_cons (ps_set (i := 3) nd rfl (by first | exact Or.inl rfl | exact Or.inr rfl) (pe_call G_l_machine (hr.mono (by decide)) rfl T.g_l_machine T.f_l_machine.kp T.b_l_machine .nil pass0 (pa_cons (qv 2) pa_nil)))
        (pss_cons (ps_set (i := 4) nd rfl (by first | exact Or.inl rfl | exact Or.inr rfl) (pe_call G_l_mirrored (hr.mono (by decide)) rfl T.g_l_mirrored T.f_l_mirrored.kp T.b_l_mirrored .nil pass0 (pa_cons (qv 3) pa_nil)))
        (pss_one (ps_for PassesOwn.never rfl (qi_range1 rfl T.z_range (pa_cons pe_int pa_nil)) (pg_name (i := 5) nd rfl (by first | exact Or.inl rfl | exact Or.inr rfl)) (pss_cons (ps_set (i := 6) nd rfl (by first | exact Or.inl rfl | exact Or.inr rfl) (pe_ix (q_ixLK (K := K) rfl) (pe_lst (pa_cons pe_int (pa_cons pe_int pa_nil))) (pe_call G_l_draw (hr.mono (by decide)) rfl T.g_l_draw T.f_l_draw.kp T.b_l_draw .nil pass0 (pa_cons (qv 2) (pa_cons pe_int pa_nil))) (fun _ _ => rfl)))
            (pss_cons (ps_set (i := 7) nd rfl (by first | exact Or.inl rfl | exact Or.inr rfl) (pe_callTy (q_tupOK (K := K) rfl) rfl T.z_tuple bt_tuple (pa_cons (pe_lc (own := ["_law_k"]) (fr := [2, 3]) rfl (by walk_at "comp_ok") (qi_range1 rfl T.z_range (pa_cons (qv 6) pa_nil)) (fun _ _ _ _ => (pg_name (i := 0) (show List.Nodup (α := Str) ["_law_k", "_law_purse_here", "_law_machine_here"] from by decide +kernel) rfl (by first | exact Or.inl rfl | exact Or.inr rfl))) (fun _ _ _ _ => pts_nil) (fun _ _ _ _ => (pe_call G_l_draw (hr.mono (by decide)) rfl T.g_l_draw T.f_l_draw.kp T.b_l_draw .nil pass0 (pa_cons (qv 1) (pa_cons (pe_callB (q_lenK (K := K) rfl) rfl T.z_len bt_len (pa_cons (pe_ix (q_ixLK (K := K) rfl) (qv 2) pe_int (fun _ _ => rfl)) pa_nil)) pa_nil))))) pa_nil)))
            (pss_cons (ps_set (i := 8) nd rfl (by first | exact Or.inl rfl | exact Or.inr rfl) (pe_call G_l_draw (hr.mono (by decide)) rfl T.g_l_draw T.f_l_draw.kp T.b_l_draw .nil pass0 (pa_cons (qv 2) (pa_cons (pe_callB (q_lenK (K := K) rfl) rfl T.z_len bt_len (pa_cons (qv 3) pa_nil)) pa_nil))))
            (pss_cons (ps_set (i := 9) nd rfl (by first | exact Or.inl rfl | exact Or.inr rfl) (pe_op q_sub (pe_op q_mul pe_int (pe_call G_l_draw (hr.mono (by decide)) rfl T.g_l_draw T.f_l_draw.kp T.b_l_draw .nil pass0 (pa_cons (qv 2) (pa_cons pe_int pa_nil)))) pe_int))
            (pss_cons (ps_set (i := 10) nd rfl (by first | exact Or.inl rfl | exact Or.inr rfl) (pe_call G_through (hr.mono (by decide)) rfl T.g_through T.f_through.kp T.b_through .nil pass0 (pa_cons (qv 3) (pa_cons (qv 7) (pa_cons (qv 8) (pa_cons (qv 9) pa_nil))))))
            (pss_cons (ps_c (pt_c (op_neD hr) (qv 10) (pe_call G_l_halves (hr.mono (by decide)) rfl T.g_l_halves T.f_l_halves.kp T.b_l_halves .nil pass0 (pa_cons (qv 3) (pa_cons (qv 7) (pa_cons (qv 8) (pa_cons (qv 9) pa_nil)))))) (pss_one (ps_ret pe_bl)) pss_nil)
            (pss_one (ps_c (pt_c (op_neD hr) (pe_call G_through (hr.mono (by decide)) rfl T.g_through T.f_through.kp T.b_through .nil pass0 (pa_cons (qv 4) (pa_cons (pe_revTK (K := K) rfl (qv 7) (qo_some (pe_un q_neg pe_int))) (pa_cons (qv 8) (pa_cons (pe_op q_sub pe_int (qv 9)) pa_nil))))) (pe_call G_l_turned_about (hr.mono (by decide)) rfl T.g_l_turned_about T.f_l_turned_about.kp T.b_l_turned_about .nil pass0 (pa_cons (qv 10) pa_nil))) (pss_one (ps_ret pe_bl)) pss_nil))))))))))))))
    (pss_one (ps_ret pe_bl))), ?_⟩
      refine ⟨⟨by decide, by decide⟩, ?_⟩
      refine for_range (lo := 0) (n := 8) (fun i σ H1 => ∃ (v1 v2 v3 v4 v5 v6 v7 v8 v9 v10 : Option V), σ = [some (.ref b), v1, v2, v3, v4, v5, v6, v7, v8, v9, v10] ∧ SqL K H1 b (ns.map V.int)) ?_ ?_ ?_
      · exact ⟨_, _, _, _, _, _, _, _, _, _, rfl, hb⟩
      · rintro i σ H1 hi ⟨v1, v2, v3, v4, v5, v6, v7, v8, v9, v10, rfl, hb1⟩
        walk_at "w"
        have hi : i < 8 := hi
        refine ⟨ns, hb1, ⟨by omega, by omega⟩, fun pp H2 n2 c m2 S2 npp e2 hm2 => ?_⟩
        have P2 : P3 pp c H2 H2 := P3.refl ⟨n2, m2, e2⟩
        refine ⟨n2, c, m2, e2, ⟨by omega, by omega⟩, fun t mm H7 n7 m7 P7 e7 b70 b71 hm7 hM nt => ?_⟩
        have M := OkM.of hM
        have := M.n1; have := M.n4; have := M.s2; have := M.s4
        refine ⟨mm, hm7, hM, fun th H8 S8 hm8 => ?_⟩
        have P8 := P7.sub S8
        have e8 := S8 _ _ e7
        have ht8 := hm7.stay (.sub S8)
        refine ⟨⟨by decide, by decide⟩, ?_⟩
        refine for_range (lo := 0) (n := 6) (fun j σ H9 => ∃ (v5 v6 v7 v8 v9 v10 : Option V) (n9 m9 : Int), σ = [some (.ref b), some (.int (0 + i)), some (.ref pp), some (.ref t), some (.ref th), v5, v6, v7, v8, v9, v10] ∧ P3 pp c H2 H9 ∧ H9 pp = some (.lst [.int n9, .int c, .int m9]) ∧ 0 ≤ m9 ∧ m9 ≤ 20000 + 1000 * j ∧ Mach H9 t mm ∧ Mach H9 th (mirM mm)) ?_ ?_ ?_
        · exact ⟨_, _, _, _, _, _, n7, m7, rfl, P8, e8, by omega, by omega, ht8, hm8⟩
        · rintro j σ H9 hj ⟨v5, v6, v7, v8, v9, v10, n9, m9, rfl, P9, e9, b90, b91, ht9, hh9⟩
          have hj : j < 6 := hj
          refine ⟨by show 2 ≤ sizeLine; decide, ?_⟩
          intro p10 n10
          generalize hU10 : upd _ p10 _ = H10
          have S10 := (upd_sub n10 hU10).1
          have e10 := (upd_sub n10 hU10).2
          clear hU10
          have P10 := P9.sub S10
          have f10 : H10 p10 = some (.lst (([2, 4] : List Int).map V.int)) := e10
          have np10 : p10 ≠ pp := by rintro rfl; rw [e9] at n10; cases n10
          have e10 := S10 _ _ e9
          obtain ⟨n10', hn10⟩ : ∃ z, z = n9 := ⟨_, rfl⟩
          obtain ⟨m10, hm10⟩ : ∃ z, z = m9 := ⟨_, rfl⟩
          rw [← hn10, ← hm10] at e10
          walk_at "w"
          refine ⟨by decide, _, _, _, e10, ⟨by omega, by omega⟩, fun d11 n11 m11 d110 d111 u110 u111 => ?_⟩
          have P11 := P10.draw n11 m11
          have Q11 := P3.of_draw n11 m11 e10
          generalize hg11 : upd _ pp _ = H11 at P11 Q11 ⊢
          have e11 : H11 pp = some (.lst [.int n11, .int c, .int m11]) := by rw [← hg11]; exact upd_same
          clear hg11
          walk_at "w"
          obtain ⟨mn, hmn, f0⟩ : ∃ y : Int, atI (([2, 4] : List Int).map V.int) d11 = some (.int y) ∧ (y = 2 ∨ y = 4) := by
            have : d11 = 0 ∨ d11 = 1 := by omega
            rcases this with rfl | rfl
            · exact ⟨2, rfl, .inl rfl⟩
            · exact ⟨4, rfl, .inr rfl⟩
          refine ⟨_, _, SqL.of (Q11.keep _ _ np10 f10), hmn, ?_⟩
          have ht11 := (ht9.stay (.sub S10)).stay Q11.stay
          have hh11 := (hh9.stay (.sub S10)).stay Q11.stay
          refine ⟨⟨by omega, by omega⟩, ?_⟩
          intro pr npr
          have P11' : P3 pp c H9 H11 := (P3.refl ⟨n9, m9, e9⟩).sub S10 |>.trans Q11
          have npr0 : H9 pr = none := P11'.free npr
          refine comp_range (lo := 0) (n := mn.toNat) (fun g σ H12 => ∃ (v : Option V) (bs : List Int) (n12 m12 : Int), σ = [v, some (.ref pp), some (.ref t)] ∧ P3 pp c H9 H12 ∧ H12 pp = some (.lst [.int n12, .int c, .int m12]) ∧ m9 ≤ m12 ∧ m12 ≤ m9 + 2 + 2 * g ∧ H12 pr = some (.lst (bs.map V.int)) ∧ bs.length = g ∧ (∀ s ∈ bs, 0 ≤ s ∧ s < (sgn mm : Int))) ?_ ?_ ?_
          · exact ⟨none, [], n11, m11, rfl, P11'.set npr0, by rw [upd_ne (by rintro rfl; rw [e11] at npr; cases npr)]; exact e11, by omega, by omega, upd_same, rfl, by simp⟩
          · rintro g σ H12 hg ⟨v, bs, n12, m12, rfl, P12, e12, b0, b1, g12, hl2, hs2⟩
            have ht12 := ht9.stay P12.stay
            obtain ⟨vs, us, r, q1, q2, q3, q4⟩ := mach_row0 ht12 M
            refine ⟨_, _, SqL.of q1, q2, ?_⟩
            refine ⟨_, .inl (SqL.of q3), ?_⟩
            rw [q4]
            walk_at "w"
            refine ⟨lg (by omega) (by omega), _, _, _, e12, ⟨by omega, by omega⟩, fun d13 n13 m13 d130 d131 u130 u131 => ?_⟩
            have P13 := P12.draw n13 m13
            have Q13 := P3.of_draw n13 m13 e12
            generalize hg13 : upd _ pp _ = H13 at P13 Q13 ⊢
            have e13 : H13 pp = some (.lst [.int n13, .int c, .int m13]) := by rw [← hg13]; exact upd_same
            clear hg13
            walk_at "w"
            have g13 : H13 pr = some (.lst (bs.map V.int)) := Q13.keep _ _ (by rintro rfl; rw [e9] at npr0; cases npr0) g12
            refine ⟨_, g13, ?_, _, bs ++ [d13], n13, m13, rfl, P13.set npr0, by rw [upd_ne (by rintro rfl; rw [e9] at npr0; cases npr0)]; exact e13, by omega, by omega, by rw [upd_same, List.map_append]; rfl, by simp [hl2], ?_⟩
            · rw [List.length_map, hl2]; exact Nat.lt_trans hg (Nat.lt_of_le_of_lt (show mn.toNat ≤ 4 by omega) (by decide))
            · intro s hs'
              rcases List.mem_append.1 hs' with z | z
              · exact hs2 s z
              · rw [List.mem_singleton.1 z]; exact ⟨d130, d131⟩
          rintro σ H12 ⟨v, bs, n12, m12, rfl, P12, e12, b0, b1, g12, hl2, hs2⟩
          refine ⟨_, SqL.of g12, ?_⟩
          intro p13 n13
          generalize hU13 : upd _ p13 _ = H13
          have S13 := (upd_sub n13 hU13).1
          have e13 := (upd_sub n13 hU13).2
          clear hU13
          have P13 := P12.sub S13
          have f13 : H13 p13 = some (.tup (bs.map V.int)) := e13
          have e13 := S13 _ _ e12
          obtain ⟨n13', hn13⟩ : ∃ z, z = n12 := ⟨_, rfl⟩
          obtain ⟨m13, hm13⟩ : ∃ z, z = m12 := ⟨_, rfl⟩
          rw [← hn13, ← hm13] at e13
          have np13 : p13 ≠ pp := by rintro rfl; rw [f13] at e13; cases e13
          obtain ⟨vs13, hv13, hvl13⟩ := mach_len (ht9.stay P13.stay)
          refine ⟨_, .inl (SqL.of hv13), ?_⟩
          rw [hvl13]
          walk_at "w"
          refine ⟨lg (by omega) (by omega), _, _, _, e13, ⟨by omega, by omega⟩, fun d14 n14 m14 d140 d141 u140 u141 => ?_⟩
          have P14 := P13.draw n14 m14
          have Q14 := P3.of_draw n14 m14 e13
          generalize hg14 : upd _ pp _ = H14 at P14 Q14 ⊢
          have e14 : H14 pp = some (.lst [.int n14, .int c, .int m14]) := by rw [← hg14]; exact upd_same
          clear hg14
          walk_at "w"
          refine ⟨by decide, _, _, _, e14, ⟨by omega, by omega⟩, fun d15 n15 m15 d150 d151 u150 u151 => ?_⟩
          have P15 := P14.draw n15 m15
          have Q15 := P3.of_draw n15 m15 e14
          generalize hg15 : upd _ pp _ = H15 at P15 Q15 ⊢
          have e15 : H15 pp = some (.lst [.int n15, .int c, .int m15]) := by rw [← hg15]; exact upd_same
          clear hg15
          walk_at "w"
          refine ⟨.inl ⟨by decide, by decide⟩, fun sw hsw _ => ?_⟩
          have hsw : sw = 2 * d15 := hsw
          have hside : sw - 1 = -1 ∨ sw - 1 = 1 := by omega
          have f15 := Q15.keep _ _ np13 (Q14.keep _ _ np13 f13)
          have P015 := P9.trans P15
          have ht15 := ht9.stay P15.stay
          have hh15 := hh9.stay P15.stay
          obtain ⟨side, hsd⟩ : ∃ side, sw - 1 = side := ⟨_, rfl⟩
          rw [hsd] at hside
          have hl2' : bs.length = mn.toNat := hl2
          obtain ⟨L, hL, hbl⟩ : ∃ L : Nat, (L = 1 ∨ L = 2) ∧ bs.length = L + L := by
            rcases f0 with z | z
            · exact ⟨1, .inl rfl, by rw [hl2', z]; rfl⟩
            · exact ⟨2, .inr rfl, by rw [hl2', z]; rfl⟩
          obtain ⟨h0, h1, hbs, k0, k1⟩ : ∃ h0 h1 : List Int, bs = h0 ++ h1 ∧ h0.length = L ∧ h1.length = L := ⟨bs.take L, bs.drop L, (List.take_append_drop L bs).symm, by rw [List.length_take]; omega, by rw [List.length_drop]; omega⟩
          have hok : OkB mm bs.length (d14, (if side = -1 then 0 else (bs.length : Int) - 1), bs) := ⟨d140, d141, rfl, hs2⟩
          show _
          walk_at "w"
          rw [hsd]
          refine ⟨mm, bs, ht15, hM, f15, hok, by omega, by omega, fun res qf H16 S16 hthr hq nq => ?_⟩
          have hokH : HOk mm L ((if side = 1 then 1 else 0), d14, side, h0, h1) := ⟨by show (if side = 1 then (1 : Int) else 0) = 0 ∨ (if side = 1 then (1 : Int) else 0) = 1; split; exact .inr rfl; exact .inl rfl, hside, d140, d141, k0, k1, fun s hs => hs2 s (by rw [hbs]; exact List.mem_append_left _ hs), fun s hs => hs2 s (by rw [hbs]; exact List.mem_append_right _ hs)⟩
          have hst : hSt L ((if side = 1 then 1 else 0), d14, side, h0, h1) = (d14, (if side = -1 then 0 else (bs.length : Int) - 1), bs) := by
            rcases hside with z | z
            · rw [z, hbs]; rfl
            · rw [z, hbs]
              show (d14, (L : Int) + near L 1, h0 ++ h1) = (d14, ((h0 ++ h1).length : Int) - 1, h0 ++ h1)
              rw [← hbs, hbl]
              unfold near
              rw [if_neg (by decide), show (L : Int) + ((L : Int) - 1) = ((L + L : Nat) : Int) - 1 by omega]
          have hsem := hthr.sem (by simp)
          walk_at "w"
          rw [hsd]
          refine ⟨mm, L, h0, h1, ht15.stay (.sub S16), hM, by rw [← hbs]; exact S16 _ _ f15, hL, hokH, fun res2 q2 H17 S17 hb2 hq2 => ?_⟩
          rw [hst] at hb2
          have hrr := hb2.one hsem
          subst hrr
          refine ⟨_, _, (hq.sub S17).den, hq2.den, dep_dTR _, ?_⟩
          rw [eqD_refl]
          walk_at "w"
          refine ifB.no rfl ?_
          have f17 := S17 _ _ (S16 _ _ f15)
          refine ⟨rfl, _, SqT.of f17, ?_⟩
          intro p18 n18
          generalize hU18 : upd _ p18 _ = H18
          have S18 := (upd_sub n18 hU18).1
          have e18 := (upd_sub n18 hU18).2
          clear hU18
          have S1518 := (S16.trans S17).trans S18
          rw [← List.map_reverse] at e18
          walk_at "w"
          rw [hsd]
          refine ⟨mirM mm, bs.reverse, hh15.stay (.sub S1518), M.mir.isM, e18, ?_, by rw [List.length_reverse]; omega, by rw [List.length_reverse]; omega, fun res3 q3 H19 S19 hthr3 hq3 nq3 => ?_⟩
          · exact ⟨d140, by show d14 < ((mirM mm).length : Int); rw [List.length_map]; exact d141, rfl, fun s hs => by rw [sgn_mir]; exact hs2 s (List.mem_reverse.1 hs)⟩
          have hsem3 := hthr3.sem (by simp)
          have hmm : (d14, (if 0 - side = -1 then 0 else (bs.reverse.length : Int) - 1), bs.reverse) = mirB (d14, (if side = -1 then 0 else (bs.length : Int) - 1), bs) := by
            show _ = (d14, (bs.length : Int) - 1 - (if side = -1 then 0 else (bs.length : Int) - 1), bs.reverse)
            rw [List.length_reverse]
            rcases hside with z | z
            · rw [z, if_neg (by decide), if_pos rfl, Int.sub_zero]
            · rw [z, if_pos (by decide), if_neg (by decide), Int.sub_self]
          rw [hmm] at hsem3
          have hr3 := hsem3.one hsem.mir
          subst hr3
          have hq19 := (hq.sub S17).sub (S18.trans S19)
          refine ⟨_, hq19, fun b' r' s' k' e => by have := (hthr.ok M hok b' r' s' k' e).1; omega, fun q4 H20 S20 hq4 => ?_⟩
          refine ⟨_, _, (hq3.sub S20).den, hq4.den, dep_dTR _, ?_⟩
          rw [eqD_refl]
          walk_at "w"
          refine ifB.no rfl ?_
          have T := S1518.trans (S19.trans S20)
          exact ⟨_, _, _, _, _, _, n15, m15, rfl, P015.sub T, T _ _ e15, by omega, by omega, ht15.stay (.sub T), hh15.stay (.sub T)⟩
        · rintro σ H9 ⟨v5, v6, v7, v8, v9, v10, n9, m9, rfl, P9, e9, b90, b91, ht9, hh9⟩
          refine ⟨_, _, _, _, _, _, _, _, _, _, rfl, sql_sub (fun x o e => ?_) hb1⟩
          have nx : x ≠ pp := by rintro rfl; rw [e] at npp; cases npp
          exact P9.keep _ _ nx (S2 _ _ e)
      · rintro σ H1 ⟨v1, v2, v3, v4, v5, v6, v7, v8, v9, v10, rfl, hb1⟩
        exact h _
    · exact h.elim
end
theorem all_mk {l : PySem.W.OpenLaw} {w : World} {K : PySem.W.Frag} {h : Heap} {mg : Str → Option Value} {fa : Addr} {tk_MOST_ROWS tk_LEAST_SIGNS tk_MOST_SIGNS : Tok} {x_l_at x_l_mixed x_l_purse x_l_draw x_is_entry x_is_row x_is_machine x_must_machine x_Walk___init__ x_Walk_look x_Walk_entry x_Walk_mark x_Walk_step x_near_place x_signs_in x_through x_l_entry x_l_machine x_l_turned x_l_mirrored x_l_halves x_l_turned_about x_law x_MillError x_NoMachine x_Walk : Addr} (X : K.In h) (G : h.Ns mainGlobals mg) (hfa : mg "law" = some (.ref fa))
    {od_l_at an_l_at od_l_mixed an_l_mixed od_l_purse an_l_purse od_l_draw an_l_draw od_is_entry an_is_entry od_is_row an_is_row od_is_machine an_is_machine od_must_machine an_must_machine od_Walk___init__ an_Walk___init__ od_Walk_look an_Walk_look od_Walk_entry an_Walk_entry od_Walk_mark an_Walk_mark od_Walk_step an_Walk_step od_near_place an_near_place od_signs_in an_signs_in od_through an_through od_l_entry an_l_entry od_l_machine an_l_machine od_l_turned an_l_turned od_l_mirrored an_l_mirrored od_l_halves an_l_halves od_l_turned_about an_l_turned_about od_law an_law : Option Addr} {sl_l_at sl_l_mixed sl_l_purse sl_l_draw sl_is_entry sl_is_row sl_is_machine sl_must_machine sl_Walk___init__ sl_Walk_look sl_Walk_entry sl_Walk_mark sl_Walk_step sl_near_place sl_signs_in sl_through sl_l_entry sl_l_machine sl_l_turned sl_l_mirrored sl_l_halves sl_l_turned_about sl_law : Array (Option Value)} {oc_l_at kV_l_at dc_l_at pm_l_at cd_l_at ct_l_at oc_l_mixed kV_l_mixed dc_l_mixed pm_l_mixed cd_l_mixed ct_l_mixed oc_l_purse kV_l_purse dc_l_purse pm_l_purse cd_l_purse ct_l_purse oc_l_draw kV_l_draw dc_l_draw pm_l_draw cd_l_draw ct_l_draw oc_is_entry kV_is_entry dc_is_entry pm_is_entry cd_is_entry ct_is_entry oc_is_row kV_is_row dc_is_row pm_is_row cd_is_row ct_is_row oc_is_machine kV_is_machine dc_is_machine pm_is_machine cd_is_machine ct_is_machine oc_must_machine kV_must_machine dc_must_machine pm_must_machine cd_must_machine ct_must_machine oc_Walk___init__ kV_Walk___init__ dc_Walk___init__ pm_Walk___init__ cd_Walk___init__ ct_Walk___init__ oc_Walk_look kV_Walk_look dc_Walk_look pm_Walk_look cd_Walk_look ct_Walk_look oc_Walk_entry kV_Walk_entry dc_Walk_entry pm_Walk_entry cd_Walk_entry ct_Walk_entry oc_Walk_mark kV_Walk_mark dc_Walk_mark pm_Walk_mark cd_Walk_mark ct_Walk_mark oc_Walk_step kV_Walk_step dc_Walk_step pm_Walk_step cd_Walk_step ct_Walk_step oc_near_place kV_near_place dc_near_place pm_near_place cd_near_place ct_near_place oc_signs_in kV_signs_in dc_signs_in pm_signs_in cd_signs_in ct_signs_in oc_through kV_through dc_through pm_through cd_through ct_through oc_l_entry kV_l_entry dc_l_entry pm_l_entry cd_l_entry ct_l_entry oc_l_machine kV_l_machine dc_l_machine pm_l_machine cd_l_machine ct_l_machine oc_l_turned kV_l_turned dc_l_turned pm_l_turned cd_l_turned ct_l_turned oc_l_mirrored kV_l_mirrored dc_l_mirrored pm_l_mirrored cd_l_mirrored ct_l_mirrored oc_l_halves kV_l_halves dc_l_halves pm_l_halves cd_l_halves ct_l_halves oc_l_turned_about kV_l_turned_about dc_l_turned_about pm_l_turned_about cd_l_turned_about ct_l_turned_about oc_law kV_law dc_law pm_law cd_law ct_law : Value}
    {cx_MillError cx_NoMachine : ClassData}
    (a_Walk : PySem.W.nsIn K mainGlobals "Walk" = some (some (.ref x_Walk)))
    (pg_Walk : PySem.W.plainGet K x_Walk Str.empty = true)
    (hd_Walk : PySem.W.hasDictIn K x_Walk = true)
    (po_Walk : PySem.W.plainOver K x_Walk = true)
    (sa_Walk : PySem.W.findIn K (.ref x_Walk) "__setattr__" = some (some (.builtin "object.__setattr__")))
    (mk_Walk : PySem.W.makesIn K x_Walk = true)
    (kc_Walk : PySem.W.keepIn K (.ref x_Walk) = true)
    (n_Walk_table : PySem.W.findIn K (.ref x_Walk) "table" = some none)
    (n_Walk_row : PySem.W.findIn K (.ref x_Walk) "row" = some none)
    (n_Walk_place : PySem.W.findIn K (.ref x_Walk) "place" = some none)
    (n_Walk_marks : PySem.W.findIn K (.ref x_Walk) "marks" = some none)
    (a_l_at : PySem.W.nsIn K mainGlobals "_law_at" = some (some (.ref x_l_at)))
    (l_l_at : K.lookup x_l_at = some ⟨oc_l_at, od_l_at, .func (PySem.W.fnOf "_law_at" "_law_at" (defArgs s_l_at) (defBody s_l_at) (defScope s_l_at) .none kV_l_at dc_l_at pm_l_at an_l_at cd_l_at ct_l_at), sl_l_at⟩)
    (c_l_at : PySem.W.codeIn K cd_l_at "_law_at" = true)
    (k_l_at : PySem.W.keepIn K (.ref x_l_at) = true)
    (a_l_mixed : PySem.W.nsIn K mainGlobals "_law_mixed" = some (some (.ref x_l_mixed)))
    (l_l_mixed : K.lookup x_l_mixed = some ⟨oc_l_mixed, od_l_mixed, .func (PySem.W.fnOf "_law_mixed" "_law_mixed" (defArgs s_l_mixed) (defBody s_l_mixed) (defScope s_l_mixed) .none kV_l_mixed dc_l_mixed pm_l_mixed an_l_mixed cd_l_mixed ct_l_mixed), sl_l_mixed⟩)
    (c_l_mixed : PySem.W.codeIn K cd_l_mixed "_law_mixed" = true)
    (k_l_mixed : PySem.W.keepIn K (.ref x_l_mixed) = true)
    (a_l_purse : PySem.W.nsIn K mainGlobals "_law_purse" = some (some (.ref x_l_purse)))
    (l_l_purse : K.lookup x_l_purse = some ⟨oc_l_purse, od_l_purse, .func (PySem.W.fnOf "_law_purse" "_law_purse" (defArgs s_l_purse) (defBody s_l_purse) (defScope s_l_purse) .none kV_l_purse dc_l_purse pm_l_purse an_l_purse cd_l_purse ct_l_purse), sl_l_purse⟩)
    (c_l_purse : PySem.W.codeIn K cd_l_purse "_law_purse" = true)
    (k_l_purse : PySem.W.keepIn K (.ref x_l_purse) = true)
    (a_l_draw : PySem.W.nsIn K mainGlobals "_law_draw" = some (some (.ref x_l_draw)))
    (l_l_draw : K.lookup x_l_draw = some ⟨oc_l_draw, od_l_draw, .func (PySem.W.fnOf "_law_draw" "_law_draw" (defArgs s_l_draw) (defBody s_l_draw) (defScope s_l_draw) .none kV_l_draw dc_l_draw pm_l_draw an_l_draw cd_l_draw ct_l_draw), sl_l_draw⟩)
    (c_l_draw : PySem.W.codeIn K cd_l_draw "_law_draw" = true)
    (k_l_draw : PySem.W.keepIn K (.ref x_l_draw) = true)
    (a_is_entry : PySem.W.nsIn K mainGlobals "is_entry" = some (some (.ref x_is_entry)))
    (l_is_entry : K.lookup x_is_entry = some ⟨oc_is_entry, od_is_entry, .func (PySem.W.fnOf "is_entry" "is_entry" (defArgs s_is_entry) (defBody s_is_entry) (defScope s_is_entry) .none kV_is_entry dc_is_entry pm_is_entry an_is_entry cd_is_entry ct_is_entry), sl_is_entry⟩)
    (c_is_entry : PySem.W.codeIn K cd_is_entry "is_entry" = true)
    (k_is_entry : PySem.W.keepIn K (.ref x_is_entry) = true)
    (a_is_row : PySem.W.nsIn K mainGlobals "is_row" = some (some (.ref x_is_row)))
    (l_is_row : K.lookup x_is_row = some ⟨oc_is_row, od_is_row, .func (PySem.W.fnOf "is_row" "is_row" (defArgs s_is_row) (defBody s_is_row) (defScope s_is_row) .none kV_is_row dc_is_row pm_is_row an_is_row cd_is_row ct_is_row), sl_is_row⟩)
    (c_is_row : PySem.W.codeIn K cd_is_row "is_row" = true)
    (k_is_row : PySem.W.keepIn K (.ref x_is_row) = true)
    (a_is_machine : PySem.W.nsIn K mainGlobals "is_machine" = some (some (.ref x_is_machine)))
    (l_is_machine : K.lookup x_is_machine = some ⟨oc_is_machine, od_is_machine, .func (PySem.W.fnOf "is_machine" "is_machine" (defArgs s_is_machine) (defBody s_is_machine) (defScope s_is_machine) .none kV_is_machine dc_is_machine pm_is_machine an_is_machine cd_is_machine ct_is_machine), sl_is_machine⟩)
    (c_is_machine : PySem.W.codeIn K cd_is_machine "is_machine" = true)
    (k_is_machine : PySem.W.keepIn K (.ref x_is_machine) = true)
    (a_must_machine : PySem.W.nsIn K mainGlobals "must_machine" = some (some (.ref x_must_machine)))
    (l_must_machine : K.lookup x_must_machine = some ⟨oc_must_machine, od_must_machine, .func (PySem.W.fnOf "must_machine" "must_machine" (defArgs s_must_machine) (defBody s_must_machine) (defScope s_must_machine) .none kV_must_machine dc_must_machine pm_must_machine an_must_machine cd_must_machine ct_must_machine), sl_must_machine⟩)
    (c_must_machine : PySem.W.codeIn K cd_must_machine "must_machine" = true)
    (k_must_machine : PySem.W.keepIn K (.ref x_must_machine) = true)
    (a_Walk___init__ : PySem.W.findIn K (.ref x_Walk) "__init__" = some (some (.ref x_Walk___init__)))
    (i_Walk___init__ : PySem.W.isFn K (.ref x_Walk___init__) = true)
    (l_Walk___init__ : K.lookup x_Walk___init__ = some ⟨oc_Walk___init__, od_Walk___init__, .func (PySem.W.fnOf "__init__" "Walk.__init__" (defArgs s_Walk___init__) (defBody s_Walk___init__) (defScope s_Walk___init__) .none kV_Walk___init__ dc_Walk___init__ pm_Walk___init__ an_Walk___init__ cd_Walk___init__ ct_Walk___init__), sl_Walk___init__⟩)
    (c_Walk___init__ : PySem.W.codeIn K cd_Walk___init__ "Walk.__init__" = true)
    (k_Walk___init__ : PySem.W.keepIn K (.ref x_Walk___init__) = true)
    (a_Walk_look : PySem.W.findIn K (.ref x_Walk) "look" = some (some (.ref x_Walk_look)))
    (i_Walk_look : PySem.W.isFn K (.ref x_Walk_look) = true)
    (l_Walk_look : K.lookup x_Walk_look = some ⟨oc_Walk_look, od_Walk_look, .func (PySem.W.fnOf "look" "Walk.look" (defArgs s_Walk_look) (defBody s_Walk_look) (defScope s_Walk_look) .none kV_Walk_look dc_Walk_look pm_Walk_look an_Walk_look cd_Walk_look ct_Walk_look), sl_Walk_look⟩)
    (c_Walk_look : PySem.W.codeIn K cd_Walk_look "Walk.look" = true)
    (k_Walk_look : PySem.W.keepIn K (.ref x_Walk_look) = true)
    (a_Walk_entry : PySem.W.findIn K (.ref x_Walk) "entry" = some (some (.ref x_Walk_entry)))
    (i_Walk_entry : PySem.W.isFn K (.ref x_Walk_entry) = true)
    (l_Walk_entry : K.lookup x_Walk_entry = some ⟨oc_Walk_entry, od_Walk_entry, .func (PySem.W.fnOf "entry" "Walk.entry" (defArgs s_Walk_entry) (defBody s_Walk_entry) (defScope s_Walk_entry) .none kV_Walk_entry dc_Walk_entry pm_Walk_entry an_Walk_entry cd_Walk_entry ct_Walk_entry), sl_Walk_entry⟩)
    (c_Walk_entry : PySem.W.codeIn K cd_Walk_entry "Walk.entry" = true)
    (k_Walk_entry : PySem.W.keepIn K (.ref x_Walk_entry) = true)
    (a_Walk_mark : PySem.W.findIn K (.ref x_Walk) "mark" = some (some (.ref x_Walk_mark)))
    (i_Walk_mark : PySem.W.isFn K (.ref x_Walk_mark) = true)
    (l_Walk_mark : K.lookup x_Walk_mark = some ⟨oc_Walk_mark, od_Walk_mark, .func (PySem.W.fnOf "mark" "Walk.mark" (defArgs s_Walk_mark) (defBody s_Walk_mark) (defScope s_Walk_mark) .none kV_Walk_mark dc_Walk_mark pm_Walk_mark an_Walk_mark cd_Walk_mark ct_Walk_mark), sl_Walk_mark⟩)
    (c_Walk_mark : PySem.W.codeIn K cd_Walk_mark "Walk.mark" = true)
    (k_Walk_mark : PySem.W.keepIn K (.ref x_Walk_mark) = true)
    (a_Walk_step : PySem.W.findIn K (.ref x_Walk) "step" = some (some (.ref x_Walk_step)))
    (i_Walk_step : PySem.W.isFn K (.ref x_Walk_step) = true)
    (l_Walk_step : K.lookup x_Walk_step = some ⟨oc_Walk_step, od_Walk_step, .func (PySem.W.fnOf "step" "Walk.step" (defArgs s_Walk_step) (defBody s_Walk_step) (defScope s_Walk_step) .none kV_Walk_step dc_Walk_step pm_Walk_step an_Walk_step cd_Walk_step ct_Walk_step), sl_Walk_step⟩)
    (c_Walk_step : PySem.W.codeIn K cd_Walk_step "Walk.step" = true)
    (k_Walk_step : PySem.W.keepIn K (.ref x_Walk_step) = true)
    (a_near_place : PySem.W.nsIn K mainGlobals "near_place" = some (some (.ref x_near_place)))
    (l_near_place : K.lookup x_near_place = some ⟨oc_near_place, od_near_place, .func (PySem.W.fnOf "near_place" "near_place" (defArgs s_near_place) (defBody s_near_place) (defScope s_near_place) .none kV_near_place dc_near_place pm_near_place an_near_place cd_near_place ct_near_place), sl_near_place⟩)
    (c_near_place : PySem.W.codeIn K cd_near_place "near_place" = true)
    (k_near_place : PySem.W.keepIn K (.ref x_near_place) = true)
    (a_signs_in : PySem.W.nsIn K mainGlobals "signs_in" = some (some (.ref x_signs_in)))
    (l_signs_in : K.lookup x_signs_in = some ⟨oc_signs_in, od_signs_in, .func (PySem.W.fnOf "signs_in" "signs_in" (defArgs s_signs_in) (defBody s_signs_in) (defScope s_signs_in) .none kV_signs_in dc_signs_in pm_signs_in an_signs_in cd_signs_in ct_signs_in), sl_signs_in⟩)
    (c_signs_in : PySem.W.codeIn K cd_signs_in "signs_in" = true)
    (k_signs_in : PySem.W.keepIn K (.ref x_signs_in) = true)
    (a_through : PySem.W.nsIn K mainGlobals "through" = some (some (.ref x_through)))
    (l_through : K.lookup x_through = some ⟨oc_through, od_through, .func (PySem.W.fnOf "through" "through" (defArgs s_through) (defBody s_through) (defScope s_through) .none kV_through dc_through pm_through an_through cd_through ct_through), sl_through⟩)
    (c_through : PySem.W.codeIn K cd_through "through" = true)
    (k_through : PySem.W.keepIn K (.ref x_through) = true)
    (a_l_entry : PySem.W.nsIn K mainGlobals "_law_entry" = some (some (.ref x_l_entry)))
    (l_l_entry : K.lookup x_l_entry = some ⟨oc_l_entry, od_l_entry, .func (PySem.W.fnOf "_law_entry" "_law_entry" (defArgs s_l_entry) (defBody s_l_entry) (defScope s_l_entry) .none kV_l_entry dc_l_entry pm_l_entry an_l_entry cd_l_entry ct_l_entry), sl_l_entry⟩)
    (c_l_entry : PySem.W.codeIn K cd_l_entry "_law_entry" = true)
    (k_l_entry : PySem.W.keepIn K (.ref x_l_entry) = true)
    (a_l_machine : PySem.W.nsIn K mainGlobals "_law_machine" = some (some (.ref x_l_machine)))
    (l_l_machine : K.lookup x_l_machine = some ⟨oc_l_machine, od_l_machine, .func (PySem.W.fnOf "_law_machine" "_law_machine" (defArgs s_l_machine) (defBody s_l_machine) (defScope s_l_machine) .none kV_l_machine dc_l_machine pm_l_machine an_l_machine cd_l_machine ct_l_machine), sl_l_machine⟩)
    (c_l_machine : PySem.W.codeIn K cd_l_machine "_law_machine" = true)
    (k_l_machine : PySem.W.keepIn K (.ref x_l_machine) = true)
    (a_l_turned : PySem.W.nsIn K mainGlobals "_law_turned" = some (some (.ref x_l_turned)))
    (l_l_turned : K.lookup x_l_turned = some ⟨oc_l_turned, od_l_turned, .func (PySem.W.fnOf "_law_turned" "_law_turned" (defArgs s_l_turned) (defBody s_l_turned) (defScope s_l_turned) .none kV_l_turned dc_l_turned pm_l_turned an_l_turned cd_l_turned ct_l_turned), sl_l_turned⟩)
    (c_l_turned : PySem.W.codeIn K cd_l_turned "_law_turned" = true)
    (k_l_turned : PySem.W.keepIn K (.ref x_l_turned) = true)
    (a_l_mirrored : PySem.W.nsIn K mainGlobals "_law_mirrored" = some (some (.ref x_l_mirrored)))
    (l_l_mirrored : K.lookup x_l_mirrored = some ⟨oc_l_mirrored, od_l_mirrored, .func (PySem.W.fnOf "_law_mirrored" "_law_mirrored" (defArgs s_l_mirrored) (defBody s_l_mirrored) (defScope s_l_mirrored) .none kV_l_mirrored dc_l_mirrored pm_l_mirrored an_l_mirrored cd_l_mirrored ct_l_mirrored), sl_l_mirrored⟩)
    (c_l_mirrored : PySem.W.codeIn K cd_l_mirrored "_law_mirrored" = true)
    (k_l_mirrored : PySem.W.keepIn K (.ref x_l_mirrored) = true)
    (a_l_halves : PySem.W.nsIn K mainGlobals "_law_halves" = some (some (.ref x_l_halves)))
    (l_l_halves : K.lookup x_l_halves = some ⟨oc_l_halves, od_l_halves, .func (PySem.W.fnOf "_law_halves" "_law_halves" (defArgs s_l_halves) (defBody s_l_halves) (defScope s_l_halves) .none kV_l_halves dc_l_halves pm_l_halves an_l_halves cd_l_halves ct_l_halves), sl_l_halves⟩)
    (c_l_halves : PySem.W.codeIn K cd_l_halves "_law_halves" = true)
    (k_l_halves : PySem.W.keepIn K (.ref x_l_halves) = true)
    (a_l_turned_about : PySem.W.nsIn K mainGlobals "_law_turned_about" = some (some (.ref x_l_turned_about)))
    (l_l_turned_about : K.lookup x_l_turned_about = some ⟨oc_l_turned_about, od_l_turned_about, .func (PySem.W.fnOf "_law_turned_about" "_law_turned_about" (defArgs s_l_turned_about) (defBody s_l_turned_about) (defScope s_l_turned_about) .none kV_l_turned_about dc_l_turned_about pm_l_turned_about an_l_turned_about cd_l_turned_about ct_l_turned_about), sl_l_turned_about⟩)
    (c_l_turned_about : PySem.W.codeIn K cd_l_turned_about "_law_turned_about" = true)
    (k_l_turned_about : PySem.W.keepIn K (.ref x_l_turned_about) = true)
    (a_law : PySem.W.nsIn K mainGlobals "law" = some (some (.ref x_law)))
    (l_law : K.lookup x_law = some ⟨oc_law, od_law, .func (PySem.W.fnOf "law" "law" (defArgs s_law) (defBody s_law) (defScope s_law) .none kV_law dc_law pm_law an_law cd_law ct_law), sl_law⟩)
    (c_law : PySem.W.codeIn K cd_law "law" = true)
    (k_law : PySem.W.keepIn K (.ref x_law) = true)
    (gt : PySem.W.specialIn K (.builtin "object.__class__") "__get__" = some (some (.builtin "getset_descriptor.__get__")))
    (tk : PySem.W.takesIn K (.builtin "object.__class__") = some true)
    (a_MillError : PySem.W.nsIn K mainGlobals "MillError" = some (some (.ref x_MillError)))
    (i_MillError : PySem.W.excIn K x_MillError veMro "ValueError.__new__" = true)
    (k_MillError : PySem.W.keepIn K (.ref x_MillError) = true)
    (ga_MillError : PySem.W.findIn K (.ref x_MillError) "__getattribute__" = some (some (.builtin "BaseException.__getattribute__")))
    (na_MillError : PySem.W.findIn K (.ref x_MillError) "__getattr__" = some none)
    (cl_MillError : PySem.W.findIn K (.ref x_MillError) "__class__" = some (some (.builtin "object.__class__")))
    (mo_MillError : PySem.W.mroIn K x_MillError (.type "object") = some true)
    (mb_MillError : PySem.W.mroIn K x_MillError (.type "BaseException") = some true)
    (ci_MillError : PySem.W.clsIn K x_MillError = some cx_MillError)
    (mr_MillError : cx_MillError.mro = [.ref x_MillError] ++ veMro)
    (ty_MillError : PySem.W.typeIn K (.ref x_MillError) = some (.type "type"))
    (a_NoMachine : PySem.W.nsIn K mainGlobals "NoMachine" = some (some (.ref x_NoMachine)))
    (i_NoMachine : PySem.W.excIn K x_NoMachine veMro "ValueError.__new__" = true)
    (k_NoMachine : PySem.W.keepIn K (.ref x_NoMachine) = true)
    (ga_NoMachine : PySem.W.findIn K (.ref x_NoMachine) "__getattribute__" = some (some (.builtin "BaseException.__getattribute__")))
    (na_NoMachine : PySem.W.findIn K (.ref x_NoMachine) "__getattr__" = some none)
    (cl_NoMachine : PySem.W.findIn K (.ref x_NoMachine) "__class__" = some (some (.builtin "object.__class__")))
    (mo_NoMachine : PySem.W.mroIn K x_NoMachine (.type "object") = some true)
    (mb_NoMachine : PySem.W.mroIn K x_NoMachine (.type "BaseException") = some true)
    (ci_NoMachine : PySem.W.clsIn K x_NoMachine = some cx_NoMachine)
    (mr_NoMachine : cx_NoMachine.mro = [.ref x_NoMachine, .ref x_MillError] ++ veMro)
    (ty_NoMachine : PySem.W.typeIn K (.ref x_NoMachine) = some (.type "type"))
    (z_range : PySem.W.nsIn K mainGlobals "range" = some none)
    (z_len : PySem.W.nsIn K mainGlobals "len" = some none)
    (z_abs : PySem.W.nsIn K mainGlobals "abs" = some none)
    (z_list : PySem.W.nsIn K mainGlobals "list" = some none)
    (z_tuple : PySem.W.nsIn K mainGlobals "tuple" = some none)
    (z_int : PySem.W.nsIn K mainGlobals "int" = some none)
    (z_bool : PySem.W.nsIn K mainGlobals "bool" = some none)
    (z_dict : PySem.W.nsIn K mainGlobals "dict" = some none)
    (z_isinstance : PySem.W.nsIn K mainGlobals "isinstance" = some none)
    (z_max : PySem.W.nsIn K mainGlobals "max" = some none)
    (z_min : PySem.W.nsIn K mainGlobals "min" = some none)
    (z_all : PySem.W.nsIn K mainGlobals "all" = some none)
    (z_enumerate : PySem.W.nsIn K mainGlobals "enumerate" = some none)
    (nd : [x_MillError, x_NoMachine].Nodup)
    (q_MOST_ROWS : PySem.W.nsIn K mainGlobals "MOST_ROWS" = some (some (.int 4 tk_MOST_ROWS)))
    (q_LEAST_SIGNS : PySem.W.nsIn K mainGlobals "LEAST_SIGNS" = some (some (.int 2 tk_LEAST_SIGNS)))
    (q_MOST_SIGNS : PySem.W.nsIn K mainGlobals "MOST_SIGNS" = some (some (.int 4 tk_MOST_SIGNS)))
    : ∃ fd : FuncData, (∀ (s : Shared) (v : Value), BindsTo s fd ⟨[v], []⟩ [("_law_script", v)]) ∧ ∀ base : Heap, K.In base → base.Ns mainGlobals mg → FnOk l.prog w K mg base CX0 7 fa fd ["_law_script"] (sp_law K) := by
  have e := hfa.symm.trans (PySem.W.mg_of X G a_law)
  have e' : x_law = fa := by cases e; rfl
  subst e'
  have F_l_at := fun_mk (st := s_l_at) l_l_at c_l_at k_l_at
  have b_l_at := F_l_at.binds (ps := ["_law_script", "_law_k"]) fun _ _ _ _ _ _ => us2 (fun _ _ => rfl)
  have F_l_mixed := fun_mk (st := s_l_mixed) l_l_mixed c_l_mixed k_l_mixed
  have b_l_mixed := F_l_mixed.binds (ps := ["_law_cell", "_law_k"]) fun _ _ _ _ _ _ => us2 (fun _ _ => rfl)
  have F_l_purse := fun_mk (st := s_l_purse) l_l_purse c_l_purse k_l_purse
  have b_l_purse := F_l_purse.binds (ps := ["_law_script", "_law_at_here"]) fun _ _ _ _ _ _ => us2 (fun _ _ => rfl)
  have F_l_draw := fun_mk (st := s_l_draw) l_l_draw c_l_draw k_l_draw
  have b_l_draw := F_l_draw.binds (ps := ["_law_purse_here", "_law_out_of"]) fun _ _ _ _ _ _ => us2 (fun _ _ => rfl)
  have F_is_entry := fun_mk (st := s_is_entry) l_is_entry c_is_entry k_is_entry
  have b_is_entry := F_is_entry.binds (ps := ["entry", "rows", "signs"]) fun _ _ _ _ _ _ => us3 (fun _ _ _ => rfl)
  have F_is_row := fun_mk (st := s_is_row) l_is_row c_is_row k_is_row
  have b_is_row := F_is_row.binds (ps := ["row", "rows", "signs"]) fun _ _ _ _ _ _ => us3 (fun _ _ _ => rfl)
  have F_is_machine := fun_mk (st := s_is_machine) l_is_machine c_is_machine k_is_machine
  have b_is_machine := F_is_machine.binds (ps := ["machine"]) fun _ _ _ _ _ _ => us1 (fun _ => rfl)
  have F_must_machine := fun_mk (st := s_must_machine) l_must_machine c_must_machine k_must_machine
  have b_must_machine := F_must_machine.binds (ps := ["machine"]) fun _ _ _ _ _ _ => us1 (fun _ => rfl)
  have F_Walk___init__ := fun_mk (st := s_Walk___init__) l_Walk___init__ c_Walk___init__ k_Walk___init__
  have b_Walk___init__ := F_Walk___init__.binds (ps := ["self", "table", "begin"]) fun _ _ _ _ _ _ => us3 (fun _ _ _ => rfl)
  have F_Walk_look := fun_mk (st := s_Walk_look) l_Walk_look c_Walk_look k_Walk_look
  have b_Walk_look := F_Walk_look.binds (ps := ["self"]) fun _ _ _ _ _ _ => us1 (fun _ => rfl)
  have F_Walk_entry := fun_mk (st := s_Walk_entry) l_Walk_entry c_Walk_entry k_Walk_entry
  have b_Walk_entry := F_Walk_entry.binds (ps := ["self"]) fun _ _ _ _ _ _ => us1 (fun _ => rfl)
  have F_Walk_mark := fun_mk (st := s_Walk_mark) l_Walk_mark c_Walk_mark k_Walk_mark
  have b_Walk_mark := F_Walk_mark.binds (ps := ["self", "sign"]) fun _ _ _ _ _ _ => us2 (fun _ _ => rfl)
  have F_Walk_step := fun_mk (st := s_Walk_step) l_Walk_step c_Walk_step k_Walk_step
  have b_Walk_step := F_Walk_step.binds (ps := ["self"]) fun _ _ _ _ _ _ => us1 (fun _ => rfl)
  have F_near_place := fun_mk (st := s_near_place) l_near_place c_near_place k_near_place
  have b_near_place := F_near_place.binds (ps := ["many", "side"]) fun _ _ _ _ _ _ => us2 (fun _ _ => rfl)
  have F_signs_in := fun_mk (st := s_signs_in) l_signs_in c_signs_in k_signs_in
  have b_signs_in := F_signs_in.binds (ps := ["walk", "many"]) fun _ _ _ _ _ _ => us2 (fun _ _ => rfl)
  have F_through := fun_mk (st := s_through) l_through c_through k_through
  have b_through := F_through.binds (ps := ["machine", "block", "row", "side"]) fun _ _ _ _ _ _ => us4 (fun _ _ _ _ => rfl)
  have F_l_entry := fun_mk (st := s_l_entry) l_l_entry c_l_entry k_l_entry
  have b_l_entry := F_l_entry.binds (ps := ["_law_purse_here", "_law_rows", "_law_signs", "_law_row", "_law_few"]) fun _ _ _ _ _ _ => us5 (fun _ _ _ _ _ => rfl)
  have F_l_machine := fun_mk (st := s_l_machine) l_l_machine c_l_machine k_l_machine
  have b_l_machine := F_l_machine.binds (ps := ["_law_purse_here"]) fun _ _ _ _ _ _ => us1 (fun _ => rfl)
  have F_l_turned := fun_mk (st := s_l_turned) l_l_turned c_l_turned k_l_turned
  have b_l_turned := F_l_turned.binds (ps := ["_law_entry_here"]) fun _ _ _ _ _ _ => us1 (fun _ => rfl)
  have F_l_mirrored := fun_mk (st := s_l_mirrored) l_l_mirrored c_l_mirrored k_l_mirrored
  have b_l_mirrored := F_l_mirrored.binds (ps := ["_law_machine_here"]) fun _ _ _ _ _ _ => us1 (fun _ => rfl)
  have F_l_halves := fun_mk (st := s_l_halves) l_l_halves c_l_halves k_l_halves
  have b_l_halves := F_l_halves.binds (ps := ["_law_machine_here", "_law_block", "_law_row", "_law_side"]) fun _ _ _ _ _ _ => us4 (fun _ _ _ _ => rfl)
  have F_l_turned_about := fun_mk (st := s_l_turned_about) l_l_turned_about c_l_turned_about k_l_turned_about
  have b_l_turned_about := F_l_turned_about.binds (ps := ["_law_found"]) fun _ _ _ _ _ _ => us1 (fun _ => rfl)
  have F_law := fun_mk (st := s_law) l_law c_law k_law
  have b_law := F_law.binds (ps := ["_law_script"]) fun _ _ _ _ _ _ => us1 (fun _ => rfl)
  have T : Tx K mg ⟨x_l_at, _, x_l_mixed, _, x_l_purse, _, x_l_draw, _, x_is_entry, _, x_is_row, _, x_is_machine, _, x_must_machine, _, x_Walk___init__, _, x_Walk_look, _, x_Walk_entry, _, x_Walk_mark, _, x_Walk_step, _, x_near_place, _, x_signs_in, _, x_through, _, x_l_entry, _, x_l_machine, _, x_l_turned, _, x_l_mirrored, _, x_l_halves, _, x_l_turned_about, _, x_law, _, x_MillError, x_NoMachine, x_Walk⟩ := ⟨F_l_at, b_l_at, PySem.W.mg_of X G a_l_at, F_l_mixed, b_l_mixed, PySem.W.mg_of X G a_l_mixed, F_l_purse, b_l_purse, PySem.W.mg_of X G a_l_purse, F_l_draw, b_l_draw, PySem.W.mg_of X G a_l_draw, F_is_entry, b_is_entry, PySem.W.mg_of X G a_is_entry, F_is_row, b_is_row, PySem.W.mg_of X G a_is_row, F_is_machine, b_is_machine, PySem.W.mg_of X G a_is_machine, F_must_machine, b_must_machine, PySem.W.mg_of X G a_must_machine, F_Walk___init__, b_Walk___init__, ⟨mk_Walk, a_Walk___init__, i_Walk___init__, kc_Walk⟩, F_Walk_look, b_Walk_look, ⟨a_Walk_look, i_Walk_look, k_Walk_look⟩, F_Walk_entry, b_Walk_entry, ⟨a_Walk_entry, i_Walk_entry, k_Walk_entry⟩, F_Walk_mark, b_Walk_mark, ⟨a_Walk_mark, i_Walk_mark, k_Walk_mark⟩, F_Walk_step, b_Walk_step, ⟨a_Walk_step, i_Walk_step, k_Walk_step⟩, F_near_place, b_near_place, PySem.W.mg_of X G a_near_place, F_signs_in, b_signs_in, PySem.W.mg_of X G a_signs_in, F_through, b_through, PySem.W.mg_of X G a_through, F_l_entry, b_l_entry, PySem.W.mg_of X G a_l_entry, F_l_machine, b_l_machine, PySem.W.mg_of X G a_l_machine, F_l_turned, b_l_turned, PySem.W.mg_of X G a_l_turned, F_l_mirrored, b_l_mirrored, PySem.W.mg_of X G a_l_mirrored, F_l_halves, b_l_halves, PySem.W.mg_of X G a_l_halves, F_l_turned_about, b_l_turned_about, PySem.W.mg_of X G a_l_turned_about, F_law, b_law, PySem.W.mg_of X G a_law, ⟨i_MillError, k_MillError⟩, ⟨ga_MillError, na_MillError, cl_MillError, gt, tk, mo_MillError, mb_MillError, by rw [ci_MillError]; rfl⟩, PySem.W.mg_of X G a_MillError, ⟨⟨_, ci_MillError, mr_MillError⟩, ty_MillError⟩, ⟨i_NoMachine, k_NoMachine⟩, ⟨ga_NoMachine, na_NoMachine, cl_NoMachine, gt, tk, mo_NoMachine, mb_NoMachine, by rw [ci_NoMachine]; rfl⟩, PySem.W.mg_of X G a_NoMachine, ⟨⟨_, ci_NoMachine, mr_NoMachine⟩, ty_NoMachine⟩, ⟨pg_Walk, hd_Walk, po_Walk, sa_Walk⟩, PySem.W.mg_of X G a_Walk, n_Walk_table, n_Walk_row, n_Walk_place, n_Walk_marks, ⟨_, PySem.W.mg_of X G q_MOST_ROWS, ⟨_, rfl⟩⟩, ⟨_, PySem.W.mg_of X G q_LEAST_SIGNS, ⟨_, rfl⟩⟩, ⟨_, PySem.W.mg_of X G q_MOST_SIGNS, ⟨_, rfl⟩⟩, PySem.W.mg_none_of X G z_range, PySem.W.mg_none_of X G z_len, PySem.W.mg_none_of X G z_abs, PySem.W.mg_none_of X G z_list, PySem.W.mg_none_of X G z_tuple, PySem.W.mg_none_of X G z_int, PySem.W.mg_none_of X G z_bool, PySem.W.mg_none_of X G z_dict, PySem.W.mg_none_of X G z_isinstance, PySem.W.mg_none_of X G z_max, PySem.W.mg_none_of X G z_min, PySem.W.mg_none_of X G z_all, PySem.W.mg_none_of X G z_enumerate, nd⟩
  exact ⟨_, fun s v => .of_eq rfl, fun base _ _ => ok_law T⟩
theorem walk {l : PySem.W.OpenLaw} {q : Program} {loose : List Str} {XP : (Str → Option Value) → Heap → Prop} {YP : World → Heap → Prop} {d : DefRec} {K : Params → PySem.W.Frag} (hn : l.most = some 63) (hdf : d.params.defaults = [])
    (hY : ∀ (w : World) (h : Heap), YP w h → (K w.params).In h)
    (F : ∀ (w : World) (mg : Str → Option Value) (fa : Addr) (h : Heap), (K w.params).In h → h.Ns mainGlobals mg → mg d.name = some (.ref fa) →
      ∃ fd : FuncData, (∀ (s : Shared) (u : Value), BindsTo s fd ⟨[u], []⟩ [("_law_script", u)]) ∧ ∀ base : Heap, (K w.params).In base → base.Ns mainGlobals mg → FnOk l.prog w (K w.params) mg base CX0 7 fa fd ["_law_script"] (sp_law (K w.params))) :
    PySem.W.WalkO q loose XP YP l.row.toRowW d [] (fun f vs => PySem.call f vs) :=
  L2.walk_of (n := 63) (k := 7) (x := "_law_script") (CX := fun _ => CX0) (sp := fun w => sp_law (K w.params)) hn (by decide) hdf ⟨rfl, by decide, by decide⟩ hY F (fun _ _ a ns hl _ hS => ⟨ns, hS, hl, fun _ => rfl⟩) fun _ _ _ _ _ z => z
end Law
def PySem.W.Fast.tw1061842298316440385 : Unit := ()
def PySem.W.Fast.tw5629084410022247421 : Unit := ()
def PySem.W.Fast.tw12510892845607369238 : Unit := ()
def PySem.W.Fast.tw11283562545092566501 : Unit := ()
def PySem.W.Fast.tw12452911998422032405 : Unit := ()
def PySem.W.Fast.tw941631632740574545 : Unit := ()
def PySem.W.Fast.tw15035751591679747310 : Unit := ()
def PySem.W.Fast.tw14276794135768869425 : Unit := ()
def PySem.W.Fast.tw12983834824442774922 : Unit := ()
def PySem.W.Fast.tw17812460982684782529 : Unit := ()
def PySem.W.Fast.tw4991445093177378833 : Unit := ()
def PySem.W.Fast.tw5542963987391285205 : Unit := ()
def PySem.W.Fast.tw3633435545546823202 : Unit := ()
def PySem.W.Fast.tw16715811214372966080 : Unit := ()
def PySem.W.Fast.tw14489169066826082193 : Unit := ()
def PySem.W.Fast.tw11896696295329519305 : Unit := ()
def PySem.W.Fast.tw3772242875531093887 : Unit := ()
def PySem.W.Fast.tw17069945598221095290 : Unit := ()
def PySem.W.Fast.tw8381316713191102634 : Unit := ()
def PySem.W.Fast.tw11605285810553114797 : Unit := ()
def PySem.W.Fast.tw3456266075158282399 : Unit := ()
def PySem.W.Fast.tw8606665606294059098 : Unit := ()
def PySem.W.Fast.tw7863203165756811714 : Unit := ()
def PySem.W.Fast.tw5203792187092342910 : Unit := ()
def PySem.W.Fast.tw9875562673192954922 : Unit := ()
def PySem.W.Fast.tw8134387657496784320 : Unit := ()
def PySem.W.Fast.tw12093366756708826423 : Unit := ()
def PySem.W.Fast.tw7409400456621706542 : Unit := ()
def PySem.W.Fast.tw6262164337114596450 : Unit := ()
def PySem.W.Fast.tw9882673054084058839 : Unit := ()
def PySem.W.Fast.tw5401451602342742531 : Unit := ()
def PySem.W.Fast.tw11013253841957215049 : Unit := ()
def PySem.W.Fast.tw592426923429016305 : Unit := ()
def PySem.W.Fast.tw2410881102425132680 : Unit := ()
def PySem.W.Fast.tw15723716965457327312 : Unit := ()
def PySem.W.Fast.tw4038414544270118076 : Unit := ()
def PySem.W.Fast.tw12930660956611081537 : Unit := ()
def PySem.W.Fast.tw12408426249579358631 : Unit := ()
def PySem.W.Fast.tw3992288533503890416 : Unit := ()
def PySem.W.Fast.tw15267727503963073855 : Unit := ()
def PySem.W.Fast.tw12964697019432489545 : Unit := ()
def PySem.W.Fast.tw8233233638754548988 : Unit := ()
def PySem.W.Fast.tw13577702302052763399 : Unit := ()
def PySem.W.Fast.tw15234552813020220955 : Unit := ()
def PySem.W.Fast.tw17672779786157719339 : Unit := ()
def PySem.W.Fast.tw12273638776978479056 : Unit := ()
def PySem.W.Fast.tw14252253716475698212 : Unit := ()
def PySem.W.Fast.tw7281221303761011910 : Unit := ()
def PySem.W.Fast.tw16774983975442826805 : Unit := ()
def PySem.W.Fast.tw17556991418083503389 : Unit := ()
def PySem.W.Fast.tw13145558898056693249 : Unit := ()
def PySem.W.Fast.tw8589996342693108685 : Unit := ()
def PySem.W.Fast.tw2130098383355199210 : Unit := ()
def PySem.W.Fast.tw18167902205568537729 : Unit := ()
def PySem.W.Fast.tw7503235248925962244 : Unit := ()
def PySem.W.Fast.tw13761167189234842086 : Unit := ()
def PySem.W.Fast.tw14211037498980396316 : Unit := ()
def PySem.W.Fast.tw1730254353360343199 : Unit := ()
def PySem.W.Fast.tw1385764346498575966 : Unit := ()
def PySem.W.Fast.tw15784805284310203854 : Unit := ()
def PySem.W.Fast.tw1934507571933589563 : Unit := ()
def PySem.W.Fast.tw16606386112335675318 : Unit := ()
def PySem.W.Fast.tw9230530072436854534 : Unit := ()
def PySem.W.Fast.tw11822433686885353025 : Unit := ()
def PySem.W.Fast.tw17225716684009690764 : Unit := ()
def PySem.W.Fast.tw240531001815333602 : Unit := ()
def PySem.W.Fast.tw5708265480510239684 : Unit := ()
def PySem.W.Fast.tw3583913861512975131 : Unit := ()
def PySem.W.Fast.tw9009337076602053004 : Unit := ()
def PySem.W.Fast.tw16056764460075127348 : Unit := ()
def PySem.W.Fast.tw16487807105938494750 : Unit := ()
def PySem.W.Fast.tw3804122628826614748 : Unit := ()
def PySem.W.Fast.tw3836669853338091831 : Unit := ()
def PySem.W.Fast.tw14082531267496026597 : Unit := ()
def PySem.W.Fast.tw12415434046448780988 : Unit := ()
def PySem.W.Fast.tw5175347784685133548 : Unit := ()
def PySem.W.Fast.tw3626970040581512559 : Unit := ()
def PySem.W.Fast.tw14386975830868462625 : Unit := ()
def PySem.W.Fast.tw3852312500421316553 : Unit := ()
def PySem.W.Fast.tw1011283329843672698 : Unit := ()
def PySem.W.Fast.tw18432745235658720033 : Unit := ()
def PySem.W.Fast.tw14333925147480109787 : Unit := ()
def PySem.W.Fast.tw14290043989376946026 : Unit := ()
def PySem.W.Fast.tw17084016886197600278 : Unit := ()
def PySem.W.Fast.tw2300072651145544517 : Unit := ()
def PySem.W.Fast.tw3068038291673623846 : Unit := ()
def PySem.W.Fast.tw1194892621480985850 : Unit := ()
def PySem.W.Fast.tw17919303584579949855 : Unit := ()
def PySem.W.Fast.tw11015113930329374455 : Unit := ()
def PySem.W.Fast.tw10465665033813094776 : Unit := ()
def PySem.W.Fast.tw17298563876550076971 : Unit := ()
def PySem.W.Fast.tw6427076998468281438 : Unit := ()
def PySem.W.Fast.tw5159619357464398196 : Unit := ()
def PySem.W.Fast.tw12187999044186060539 : Unit := ()
def PySem.W.Fast.tw13601142314849860594 : Unit := ()
def PySem.W.Fast.tw6606634742490867624 : Unit := ()
def PySem.W.Fast.tw10343519244773083707 : Unit := ()
def PySem.W.Fast.tw16537478358299056230 : Unit := ()
def PySem.W.Fast.tw13716688061383921499 : Unit := ()
def PySem.W.Fast.tw15375797717905142854 : Unit := ()
def PySem.W.Fast.tw413751735589904860 : Unit := ()
def PySem.W.Fast.tw17703702727564921692 : Unit := ()
def PySem.W.Fast.tw6251557109297348002 : Unit := ()
def PySem.W.Fast.tw10040490020713069113 : Unit := ()
def PySem.W.Fast.tw15223204948609954127 : Unit := ()
def PySem.W.Fast.tw15584332974331605337 : Unit := ()
def PySem.W.Fast.tw10597180895247693617 : Unit := ()
def PySem.W.Fast.tw10264897731494985069 : Unit := ()
def PySem.W.Fast.tw15206550947636766951 : Unit := ()
def PySem.W.Fast.tw5958469341984649290 : Unit := ()
def PySem.W.Fast.tw4553821051817038853 : Unit := ()
def PySem.W.Fast.tw12874692606293460631 : Unit := ()
def PySem.W.Fast.tw3096359454206525436 : Unit := ()
def PySem.W.Fast.tw11296615808141253198 : Unit := ()
def PySem.W.Fast.tw14658919654330800188 : Unit := ()
def PySem.W.Fast.tw5691887079810619896 : Unit := ()
def PySem.W.Fast.tw3243899272412953038 : Unit := ()
def PySem.W.Fast.tw1693750336722661464 : Unit := ()
open PySem PySem.W PyProof.Rows
set_option maxRecDepth 100000 in
set_option maxHeartbeats 0 in
theorem PySem.Challenge.cw_endnever_k73_whole_blocks_within_blocks_holds : PySem.Challenge.rw_endnever_k73_whole_blocks_within_blocks.Holds := by
  w_on; o_law; k_head; (case hw => w_witness2)
  k_fill
  refine Law.walk (l := PySem.Challenge.rw_endnever_k73_whole_blocks_within_blocks) rfl rfl (fun w h Y => PySem.W.kIn_of Y) ?F
  case F =>
    intro w mg fa h KX G hmg
    refine' Law.all_mk KX G hmg ?a_Walk ?pg_Walk ?hd_Walk ?po_Walk ?sa_Walk ?mk_Walk ?kc_Walk ?n_Walk_table ?n_Walk_row ?n_Walk_place ?n_Walk_marks ?a_l_at ?l_l_at ?c_l_at ?k_l_at ?a_l_mixed ?l_l_mixed ?c_l_mixed ?k_l_mixed ?a_l_purse ?l_l_purse ?c_l_purse ?k_l_purse ?a_l_draw ?l_l_draw ?c_l_draw ?k_l_draw ?a_is_entry ?l_is_entry ?c_is_entry ?k_is_entry ?a_is_row ?l_is_row ?c_is_row ?k_is_row ?a_is_machine ?l_is_machine ?c_is_machine ?k_is_machine ?a_must_machine ?l_must_machine ?c_must_machine ?k_must_machine ?a_Walk___init__ ?i_Walk___init__ ?l_Walk___init__ ?c_Walk___init__ ?k_Walk___init__ ?a_Walk_look ?i_Walk_look ?l_Walk_look ?c_Walk_look ?k_Walk_look ?a_Walk_entry ?i_Walk_entry ?l_Walk_entry ?c_Walk_entry ?k_Walk_entry ?a_Walk_mark ?i_Walk_mark ?l_Walk_mark ?c_Walk_mark ?k_Walk_mark ?a_Walk_step ?i_Walk_step ?l_Walk_step ?c_Walk_step ?k_Walk_step ?a_near_place ?l_near_place ?c_near_place ?k_near_place ?a_signs_in ?l_signs_in ?c_signs_in ?k_signs_in ?a_through ?l_through ?c_through ?k_through ?a_l_entry ?l_l_entry ?c_l_entry ?k_l_entry ?a_l_machine ?l_l_machine ?c_l_machine ?k_l_machine ?a_l_turned ?l_l_turned ?c_l_turned ?k_l_turned ?a_l_mirrored ?l_l_mirrored ?c_l_mirrored ?k_l_mirrored ?a_l_halves ?l_l_halves ?c_l_halves ?k_l_halves ?a_l_turned_about ?l_l_turned_about ?c_l_turned_about ?k_l_turned_about ?a_law ?l_law ?c_law ?k_law ?gt ?tk ?a_MillError ?i_MillError ?k_MillError ?ga_MillError ?na_MillError ?cl_MillError ?mo_MillError ?mb_MillError ?ci_MillError ?mr_MillError ?ty_MillError ?a_NoMachine ?i_NoMachine ?k_NoMachine ?ga_NoMachine ?na_NoMachine ?cl_NoMachine ?mo_NoMachine ?mb_NoMachine ?ci_NoMachine ?mr_NoMachine ?ty_NoMachine ?z_range ?z_len ?z_abs ?z_list ?z_tuple ?z_int ?z_bool ?z_dict ?z_isinstance ?z_max ?z_min ?z_all ?z_enumerate ?nd ?q_MOST_ROWS ?q_LEAST_SIGNS ?q_MOST_SIGNS
    (case a_Walk => k_is)
    (case pg_Walk => k_is)
    (case hd_Walk => k_is)
    (case po_Walk => k_is)
    (case sa_Walk => k_is)
    (case mk_Walk => k_is)
    (case kc_Walk => k_is)
    (case n_Walk_table => k_is)
    (case n_Walk_row => k_is)
    (case n_Walk_place => k_is)
    (case n_Walk_marks => k_is)
    (case a_l_at => k_is)
    (case l_l_at => k_is)
    (case c_l_at => k_is)
    (case k_l_at => k_is)
    (case a_l_mixed => k_is)
    (case l_l_mixed => k_is)
    (case c_l_mixed => k_is)
    (case k_l_mixed => k_is)
    (case a_l_purse => k_is)
    (case l_l_purse => k_is)
    (case c_l_purse => k_is)
    (case k_l_purse => k_is)
    (case a_l_draw => k_is)
    (case l_l_draw => k_is)
    (case c_l_draw => k_is)
    (case k_l_draw => k_is)
    (case a_is_entry => k_is)
    (case l_is_entry => k_is)
    (case c_is_entry => k_is)
    (case k_is_entry => k_is)
    (case a_is_row => k_is)
    (case l_is_row => k_is)
    (case c_is_row => k_is)
    (case k_is_row => k_is)
    (case a_is_machine => k_is)
    (case l_is_machine => k_is)
    (case c_is_machine => k_is)
    (case k_is_machine => k_is)
    (case a_must_machine => k_is)
    (case l_must_machine => k_is)
    (case c_must_machine => k_is)
    (case k_must_machine => k_is)
    (case a_Walk___init__ => k_is)
    (case i_Walk___init__ => k_is)
    (case l_Walk___init__ => k_is)
    (case c_Walk___init__ => k_is)
    (case k_Walk___init__ => k_is)
    (case a_Walk_look => k_is)
    (case i_Walk_look => k_is)
    (case l_Walk_look => k_is)
    (case c_Walk_look => k_is)
    (case k_Walk_look => k_is)
    (case a_Walk_entry => k_is)
    (case i_Walk_entry => k_is)
    (case l_Walk_entry => k_is)
    (case c_Walk_entry => k_is)
    (case k_Walk_entry => k_is)
    (case a_Walk_mark => k_is)
    (case i_Walk_mark => k_is)
    (case l_Walk_mark => k_is)
    (case c_Walk_mark => k_is)
    (case k_Walk_mark => k_is)
    (case a_Walk_step => k_is)
    (case i_Walk_step => k_is)
    (case l_Walk_step => k_is)
    (case c_Walk_step => k_is)
    (case k_Walk_step => k_is)
    (case a_near_place => k_is)
    (case l_near_place => k_is)
    (case c_near_place => k_is)
    (case k_near_place => k_is)
    (case a_signs_in => k_is)
    (case l_signs_in => k_is)
    (case c_signs_in => k_is)
    (case k_signs_in => k_is)
    (case a_through => k_is)
    (case l_through => k_is)
    (case c_through => k_is)
    (case k_through => k_is)
    (case a_l_entry => k_is)
    (case l_l_entry => k_is)
    (case c_l_entry => k_is)
    (case k_l_entry => k_is)
    (case a_l_machine => k_is)
    (case l_l_machine => k_is)
    (case c_l_machine => k_is)
    (case k_l_machine => k_is)
    (case a_l_turned => k_is)
    (case l_l_turned => k_is)
    (case c_l_turned => k_is)
    (case k_l_turned => k_is)
    (case a_l_mirrored => k_is)
    (case l_l_mirrored => k_is)
    (case c_l_mirrored => k_is)
    (case k_l_mirrored => k_is)
    (case a_l_halves => k_is)
    (case l_l_halves => k_is)
    (case c_l_halves => k_is)
    (case k_l_halves => k_is)
    (case a_l_turned_about => k_is)
    (case l_l_turned_about => k_is)
    (case c_l_turned_about => k_is)
    (case k_l_turned_about => k_is)
    (case a_law => k_is)
    (case l_law => k_is)
    (case c_law => k_is)
    (case k_law => k_is)
    (case gt => k_is)
    (case tk => k_is)
    (case a_MillError => k_is)
    (case i_MillError => k_exc)
    (case k_MillError => k_is)
    (case ga_MillError => k_is)
    (case na_MillError => k_is)
    (case cl_MillError => k_is)
    (case mo_MillError => k_is)
    (case mb_MillError => k_is)
    (case ci_MillError => k_is)
    (case mr_MillError => rfl)
    (case ty_MillError => k_is)
    (case a_NoMachine => k_is)
    (case i_NoMachine => k_exc)
    (case k_NoMachine => k_is)
    (case ga_NoMachine => k_is)
    (case na_NoMachine => k_is)
    (case cl_NoMachine => k_is)
    (case mo_NoMachine => k_is)
    (case mb_NoMachine => k_is)
    (case ci_NoMachine => k_is)
    (case mr_NoMachine => rfl)
    (case ty_NoMachine => k_is)
    (case z_range => k_is)
    (case z_len => k_is)
    (case z_abs => k_is)
    (case z_list => k_is)
    (case z_tuple => k_is)
    (case z_int => k_is)
    (case z_bool => k_is)
    (case z_dict => k_is)
    (case z_isinstance => k_is)
    (case z_max => k_is)
    (case z_min => k_is)
    (case z_all => k_is)
    (case z_enumerate => k_is)
    (case nd => decide)
    (case q_MOST_ROWS => k_is)
    (case q_LEAST_SIGNS => k_is)
    (case q_MOST_SIGNS => k_is)
