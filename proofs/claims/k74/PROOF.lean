import PyProof.Rows.All
import Wide.All
import OpenK.AllK
import Wide.FinOn
import PyProof.EqAt
import PyProof.EqKinds
import PyProof.NeKinds
import PyProof.TupleCall
import PyProof.ExcArgsOwn
import PyProof.EnumFor
import PyProof.EnumStmt
import PyProof.EnumMake
import Lean
import KE.KDictOf
import KE.KEqDict
import KE.KItemsList
import KE.KPairComp
import KE.KSortTup
import KE.KTupSum
import PyProof.AttrMiss
import PyProof.IsiH_list
import PyProof.Rows.ZipForRows
import KE.KEqDict
import PySem.Challenge.RW_endnever_k74_strides_told
local macro_rules | `(tactic| omega) => `(tactic| first | with_reducible assumption | with_reducible exact Nat.le_of_lt (by assumption) | with_reducible exact Nat.lt_of_lt_of_le (by assumption) (by assumption) | with_reducible exact Nat.lt_of_le_of_lt (by assumption) (by assumption) | with_reducible exact Nat.le_trans (by assumption) (by assumption) | with_reducible exact Nat.zero_le _ | lia | omega (config := {}))
set_option Elab.async false
set_option linter.all false
set_option maxRecDepth 100000
set_option maxHeartbeats 4000000
section
-- CHANGE: your row's module here, as the last of these rows
set_option Elab.async false
set_option linter.all false
set_option maxRecDepth 100000
/-! THE HAND LAYER, for ints, bools, texts, own classes, LISTS and tuples (index, slices, in, append, pop ..), calls, loops. Paste it whole ahead of your own text; what your proof does not reach may be deleted. -/
namespace L2
open PySem PySem.Spec PyProof.Rows

/-- a key: an int or a str -/
abbrev Key := Sum Int Str
def keyIs : Key → Value → Bool
  | .inl k, v => Value.isInt k v
  | .inr x, v => Value.isStrOf x v
def keyH (w : World) : Key → Int
  | .inl k => hashInt k
  | .inr x => hashStr w x
theorem keyIs_shape : ∀ {k : Key} {v : Value}, keyIs k v = true → (∃ i t, k = Sum.inl i ∧ v = Value.int i t) ∨ (∃ x t, k = Sum.inr x ∧ v = Value.str x t)
  | .inl i, v, h => by
    obtain ⟨t, e⟩ := Value.isInt_shape (k := i) (v := v) h
    exact .inl ⟨i, t, rfl, e⟩
  | .inr x, v, h => by
    obtain ⟨t, e⟩ := Value.isStrOf_shape (x := x) (v := v) h
    exact .inr ⟨x, t, rfl, e⟩
theorem keyIs_int (i : Int) (t : Tok) : keyIs (.inl i) (.int i t) = true := by simp [keyIs, Value.isInt]
theorem keyIs_str (x : Str) (t : Tok) : keyIs (.inr x) (.str x t) = true := by simp [keyIs, Value.isStrOf]
theorem key_ll (a b : Int) : decide ((Sum.inl a : Key) = Sum.inl b) = (a == b) := by
  by_cases e : a = b
  · subst e; simp
  · have h : ¬ (Sum.inl a : Key) = Sum.inl b := fun q => e (Sum.inl.inj q)
    rw [decide_eq_false h]
    exact (beq_eq_false_iff_ne.mpr e).symm
theorem key_rr (a b : Str) : decide ((Sum.inr a : Key) = Sum.inr b) = decide (a = b) := by
  by_cases e : a = b
  · subst e; simp
  · have h : ¬ (Sum.inr a : Key) = Sum.inr b := fun q => e (Sum.inr.inj q)
    rw [decide_eq_false h, decide_eq_false e]
theorem key_lr (a : Int) (b : Str) : decide ((Sum.inl a : Key) = Sum.inr b) = false := decide_eq_false (fun q => nomatch q)
theorem key_rl (a : Str) (b : Int) : decide ((Sum.inr a : Key) = Sum.inl b) = false := decide_eq_false (fun q => nomatch q)

def mixKind (prog : Program) (w : World) : PySem.KeyKind prog w Key where
  is := keyIs
  hash := keyH w
  inj := fun v a b ha hb => by
    rcases keyIs_shape ha with ⟨i, t, rfl, rfl⟩ | ⟨x, t, rfl, rfl⟩
    · rcases keyIs_shape hb with ⟨j, u, rfl, e⟩ | ⟨y, u, rfl, e⟩
      · injection e with e1 _; rw [e1]
      · exact nomatch e
    · rcases keyIs_shape hb with ⟨j, u, rfl, e⟩ | ⟨y, u, rfl, e⟩
      · exact nomatch e
      · injection e with e1 _; rw [e1]
  byValue := fun k v h => by
    rcases keyIs_shape h with ⟨i, t, rfl, rfl⟩ | ⟨x, t, rfl, rfl⟩ <;> rfl
  pyHash := fun hv h => by
    rcases keyIs_shape hv with ⟨i, t, rfl, rfl⟩ | ⟨x, t, rfl, rfl⟩
    · exact wpAny_pyHash_int h
    · exact wpAny_pyHash_str h
  eqBool := fun hu hv h => by
    rcases keyIs_shape hu with ⟨i, t, rfl, rfl⟩ | ⟨x, t, rfl, rfl⟩
    · rcases keyIs_shape hv with ⟨j, u, rfl, rfl⟩ | ⟨y, u, rfl, rfl⟩
      · rw [key_ll] at h; exact wpAny_eqBool_int h
      · rw [key_lr] at h; exact SeqAt.EqAt.int_str i t y u _ _ _ _ h
    · rcases keyIs_shape hv with ⟨j, u, rfl, rfl⟩ | ⟨y, u, rfl, rfl⟩
      · rw [key_rl] at h; exact SeqAt.EqAt.str_int x t j u _ _ _ _ h
      · rw [key_rr] at h; exact wpAny_eqBool_str h
  «strs» := fun k x t v h => by
    rcases keyIs_shape h with ⟨i, u, rfl, e⟩ | ⟨y, u, rfl, e⟩
    · exact nomatch e
    · injection e with e1 _
      subst e1
      cases v <;> rfl

theorem mixKind_int (prog : Program) (w : World) (i : Int) (t : Tok) : (mixKind prog w).is (.inl i) (.int i t) = true := keyIs_int i t
theorem mixKind_str (prog : Program) (w : World) (x : Str) (t : Tok) : (mixKind prog w).is (.inr x) (.str x t) = true := keyIs_str x t
end L2

namespace L2
open PySem PySem.Spec PyProof.Rows

/-- a value, without the heap -/
inductive V where
  | non | bl (b : Bool) | int (i : Int) | str (x : Str) | byt (b : Array UInt8) | flt (b : UInt64) | ref (a : Addr) | ty (n : String)
  deriving DecidableEq

def RelV : V → Value → Prop
  | .non, u => u = Value.none
  | .bl b, u => u = Value.bool b
  | .int i, u => ∃ t, u = Value.int i t
  | .str x, u => ∃ t, u = Value.str x t
  | .byt b, u => ∃ t, u = Value.bytes b t
  | .flt b, u => ∃ t, u = Value.float b t
  | .ref a, u => u = Value.ref a
  | .ty n, u => u = Value.type n

abbrev Vals : List V → List Value → Prop := Paired RelV
theorem Vals.length {xs : List V} {us : List Value} (r : Vals xs us) : xs.length = us.length := Paired.length r
theorem Vals.get : ∀ {xs : List V} {us : List Value} {i : Nat} {x : V}, Vals xs us → xs[i]? = some x → ∃ u, us[i]? = some u ∧ RelV x u
  | _, _, _, _, .nil, e => by simp at e
  | _, _, 0, _, .cons r _, e => by simp at e; subst e; exact ⟨_, rfl, r⟩
  | _, _, i + 1, x, .cons _ t, e => by
    obtain ⟨u, h1, h2⟩ := Vals.get (i := i) (x := x) t (by simpa using e)
    exact ⟨u, by simpa using h1, h2⟩
theorem Vals.set {x : V} {u : Value} (r : RelV x u) : ∀ {xs : List V} {us : List Value} (i : Nat), Vals xs us → Vals (xs.set i x) (us.set i u)
  | _, _, _, .nil => .nil
  | _, _, 0, .cons _ t => .cons r t
  | _, _, i + 1, .cons q t => .cons q (Vals.set r i t)
theorem Vals.append : ∀ {xs ys : List V} {us ws : List Value}, Vals xs us → Vals ys ws → Vals (xs ++ ys) (us ++ ws)
  | _, _, _, _, .nil, s => s
  | _, _, _, _, .cons r t, s => .cons r (Vals.append t s)
theorem Vals.take : ∀ {xs : List V} {us : List Value} (n : Nat), Vals xs us → Vals (xs.take n) (us.take n)
  | _, _, 0, _ => .nil
  | _, _, _ + 1, .nil => .nil
  | _, _, n + 1, .cons r t => .cons r (Vals.take n t)
theorem Vals.drop : ∀ {xs : List V} {us : List Value} (n : Nat), Vals xs us → Vals (xs.drop n) (us.drop n)
  | _, _, 0, r => r
  | _, _, _ + 1, .nil => .nil
  | _, _, n + 1, .cons _ t => Vals.drop n t
def RelO : Option V → Option Value → Prop
  | some v, some u => RelV v u
  | none, none => True
  | _, _ => False
def KV {κ : Type} : List (κ × V) → List (κ × Value) → Prop := Paired fun (p : κ × V) (q : κ × Value) => p.1 = q.1 ∧ RelV p.2 q.2

/-- a key of a dict (00_mix): an int or a text -/
def kV : Key → V
  | .inl i => .int i
  | .inr x => .str x

/-- what stands at a tracked address -/
inductive HO where
  /-- a list -/
  | lst (xs : List V)
  /-- a tuple (never changes) -/
  | tup (xs : List V)
  /-- a dict whose keys are ints and texts; one whose keys are tuples of ints and texts (the empty one is both) -/
  | dK (kvs : List (Key × V)) | dT (kvs : List (List Key × V))
  /-- a set of ints: its members, its size -/
  | set (S : Int → Bool) (n : Nat)
  /-- an instance of the class at C, its dict at dx, its attributes -/
  | ins (C dx : Addr) (fs : List (Str × V))
  /-- the dict of the instance at x -/
  | own (x : Addr)
  /-- the dict of an exception -/
  | xd (fs : List (Str × V))
  /-- a bound method, f of x -/
  | met (f x : Addr)
  /-- a range object lo, lo + 1, .. below hi -/
  | rng (lo hi : Int)
  /-- a thing that is known to the object (the script; a dict while a loop walks it): read, never written while it is so -/
  | frz (o : Obj) (u : HO)
  /-- a code object's table -/
  | tbl (ps : Array Value)
  /-- any other thing, by what is true of its one object (a def of one's own: SetO a S n := HO.ext fun h => ..) -/
  | ext (φ : Heap → Prop)

abbrev Hp := Addr → Option HO
def upd (H : Hp) (a : Addr) (o : HO) : Hp := fun b => if b = a then some o else H b
theorem upd_same {H : Hp} {a : Addr} {o : HO} : upd H a o a = some o := by unfold upd; rw [if_pos rfl]
theorem upd_ne {H : Hp} {a b : Addr} {o : HO} (h : b ≠ a) : upd H a o b = H b := by unfold upd; rw [if_neg h]
theorem upd_upd {H : Hp} {a : Addr} {o u : HO} : upd (upd H a o) a u = upd H a u := by
  funext b; unfold upd; split <;> rfl
theorem ne_of_none {H : Hp} {a b : Addr} {o : HO} (h : H a = some o) (h' : H b = none) : a ≠ b := by
  intro e; subst e; rw [h] at h'; cases h'

section
variable (P : Program) (w : World)
def ObjOk (H : Hp) (h : Heap) (a : Addr) : HO → Prop
  | .lst xs => xs.length ≤ sizeLine ∧ ∃ (its : List Value) (n : Nat), Vals xs its ∧ h.get? a = some { cls := .type "list", data := .seq its.toArray n }
  | .tup xs => xs.length ≤ sizeLine ∧ ∃ its : List Value, Vals xs its ∧ IsTup h a its.toArray
  | .dK kvs => kvs.length ≤ sizeLine ∧ (a == sysModules) = false ∧ ∃ vs, KV kvs vs ∧ h.DictOf (mixKind P w) a vs
  | .dT kvs => kvs.length ≤ sizeLine ∧ (a == sysModules) = false ∧ ∃ xs : List (List Key × Addr × Value),
      Paired (fun (p : List Key × V) (q : List Key × Addr × Value) => p.1 = q.1 ∧ H q.2.1 = some (.tup (p.1.map kV)) ∧ RelV p.2 q.2.2) kvs xs ∧
      ∃ o es ep, h.get? a = some o ∧ o.ExactDict ∧ o.data = .dict es ep ∧ es.toList = xs.map (entryOfKey (tupleKind (mixKind P w))) ∧ (xs.map (·.1)).Nodup
  | .set S n => h.SetOf (intKind P w) a S n
  | .ins C dx fs => H dx = some (.own a) ∧ fs.length ≤ 1000 ∧ dx ≠ a ∧ h.get? a = some (PySem.W.instObj C dx) ∧
      ∃ mA, h.Ns1 dx mA ∧ (∀ f, RelO (fs.lookup f) (mA f)) ∧ PySem.Within mA (fs.map (·.1))
  | .own _ => ∃ o, h.get? a = some o
  | .xd fs => ∃ mA, h.Ns1 a mA ∧ ∀ f, RelO (fs.lookup f) (mA f)
  | .rng lo hi => ∃ t u v, h.get? a = some { cls := .type "range", data := .fields #[.int lo t, .int hi u, .int 1 v] }
  | .frz o u => h.get? a = some o ∧ ObjOk H h a u
  | .tbl ps => h.get? a = some { cls := .none, data := .fields ps }
  | .met f x => h.get? a = some (PySem.W.methodObj (.ref f) (.ref x))
  | .ext φ => φ h ∧ (∃ o, h.get? a = some o) ∧ ∀ h1 h2 : Heap, φ h1 → (∀ o, h1.get? a = some o → h2.get? a = some o) → φ h2
/-- the abstract heap is held -/
def HOk (H : Hp) (h : Heap) : Prop := ∀ a o, H a = some o → ObjOk P w H h a o
end

section
variable {P : Program} {w : World} {H H' : Hp} {h h' : Heap} {a : Addr} {o : HO}
theorem ObjOk.lt (x : ObjOk P w H h a o) : a < h.objs.size := by
  cases o with
  | lst xs => obtain ⟨_, _, _, _, e⟩ := x; exact Heap.lt_size e
  | tup xs => obtain ⟨_, _, _, p⟩ := x; exact p.lt
  | dK kvs => obtain ⟨_, _, _, _, o, _, _, e, _⟩ := x; exact Heap.lt_size e
  | dT kvs => obtain ⟨_, _, _, _, o, _, _, e, _⟩ := x; exact Heap.lt_size e
  | set S n => obtain ⟨o, _, _, _, e, _⟩ := x; exact Heap.lt_size e
  | ins C dx fs => obtain ⟨_, _, _, e, _⟩ := x; exact Heap.lt_size e
  | own y => obtain ⟨_, e⟩ := x; exact Heap.lt_size e
  | xd fs => obtain ⟨_, ⟨_, _, _, e, _⟩, _⟩ := x; exact Heap.lt_size e
  | rng lo hi => obtain ⟨_, _, _, e⟩ := x; exact Heap.lt_size e
  | frz ob u => obtain ⟨e, _⟩ := x; exact Heap.lt_size e
  | tbl ps => exact Heap.lt_size (show h.get? a = some _ from x)
  | met f y => exact Heap.lt_size (show h.get? a = some _ from x)
  | ext φ => obtain ⟨_, ⟨_, e⟩, _⟩ := x; exact Heap.lt_size e
theorem Paired.mapP {α β : Type} {F G : α → β → Prop} : ∀ {l₁ : List α} {l₂ : List β}, Paired F l₁ l₂ → (∀ a b, F a b → G a b) → Paired G l₁ l₂
  | _, _, .nil, _ => .nil
  | _, _, .cons r t, f => .cons (f _ _ r) (Paired.mapP t f)
/-- what an object's description leans on: its own object, its own dict, the tuples -/
theorem ObjOk.stay (x : ObjOk P w H h a o) (k : ∀ b u, (b = a ∨ H b = some (.own a)) → h.get? b = some u → h'.get? b = some u)
    (ho : ∀ b, H b = some (.own a) → H' b = some (.own a)) (ht : ∀ b xs, H b = some (.tup xs) → H' b = some (.tup xs)) : ObjOk P w H' h' a o := by
  induction o with
  | lst xs => obtain ⟨z, its, n, r, e⟩ := x; exact ⟨z, its, n, r, k _ _ (.inl rfl) e⟩
  | tup xs => obtain ⟨z, its, r, ob, e, c⟩ := x; exact ⟨z, its, r, ob, k _ _ (.inl rfl) e, c⟩
  | dK kvs => obtain ⟨z, y, vs, r, ob, es, ep, e, c⟩ := x; exact ⟨z, y, vs, r, ob, es, ep, k _ _ (.inl rfl) e, c⟩
  | dT kvs =>
    obtain ⟨z, y, xs, r, ob, es, ep, e, c⟩ := x
    exact ⟨z, y, xs, Paired.mapP r fun p q z => ⟨z.1, ht _ _ z.2.1, z.2.2⟩, ob, es, ep, k _ _ (.inl rfl) e, c⟩
  | set S n => obtain ⟨ob, es, ep, t, e, c⟩ := x; exact ⟨ob, es, ep, t, k _ _ (.inl rfl) e, c⟩
  | ins C dx fs =>
    obtain ⟨d, z, ne, e, mA, ⟨od, es, ep, e2, c⟩, r⟩ := x
    exact ⟨ho _ d, z, ne, k _ _ (.inl rfl) e, mA, ⟨od, es, ep, k _ _ (.inr d) e2, c⟩, r⟩
  | own y => obtain ⟨ob, e⟩ := x; exact ⟨ob, k _ _ (.inl rfl) e⟩
  | xd fs => obtain ⟨mA, ⟨od, es, ep, e, c⟩, r⟩ := x; exact ⟨mA, ⟨od, es, ep, k _ _ (.inl rfl) e, c⟩, r⟩
  | rng lo hi => obtain ⟨t, u, v, e⟩ := x; exact ⟨t, u, v, k _ _ (.inl rfl) e⟩
  | frz ob u ih => obtain ⟨e, q⟩ := x; exact ⟨k _ _ (.inl rfl) e, ih q⟩
  | tbl ps =>
    have e : h.get? a = some { cls := .none, data := .fields ps } := x
    show h'.get? a = some { cls := .none, data := .fields ps }
    exact k a _ (.inl rfl) e
  | met f y =>
    have e : h.get? a = some (PySem.W.methodObj (.ref f) (.ref y)) := x
    show h'.get? a = some (PySem.W.methodObj (.ref f) (.ref y))
    exact k a _ (.inl rfl) e
  | ext φ => obtain ⟨p, ⟨o, e⟩, st⟩ := x; exact ⟨st _ _ p fun o q => k _ _ (.inl rfl) q, ⟨o, k _ _ (.inl rfl) e⟩, st⟩
theorem HOk.lt (x : HOk P w H h) (e : H a = some o) : a < h.objs.size := (x a o e).lt
theorem HOk.fresh (x : HOk P w H h) (e : h.objs.size ≤ a) : H a = none := by
  cases q : H a with
  | none => rfl
  | some u => exact absurd (Nat.lt_of_lt_of_le (x.lt q) e) (Nat.lt_irrefl _)
/-- every object of the heap is kept -/
theorem HOk.kept (x : HOk P w H h) (k : ∀ b u, h.get? b = some u → h'.get? b = some u) : HOk P w H h' := fun a o e =>
  (x a o e).stay (fun b u _ q => k b u q) (fun _ q => q) fun _ _ q => q
/-- a new object is laid and tracked -/
theorem HOk.laid (x : HOk P w H h) (k : ∀ b u, h.get? b = some u → h'.get? b = some u) (hp : h.objs.size ≤ a) (new : ObjOk P w (upd H a o) h' a o) : HOk P w (upd H a o) h' := fun b u e => by
  have hn := x.fresh hp
  by_cases hb : b = a
  · subst hb; rw [upd_same] at e; cases e; exact new
  · rw [upd_ne hb] at e
    exact (x b u e).stay (fun c v _ q => k c v q) (fun c q => by rw [upd_ne (ne_of_none q hn)]; exact q) fun c xs q => by rw [upd_ne (ne_of_none q hn)]; exact q
end

/-- what may be read as u: it is u, or a known u -/
def Rd (H : Hp) (a : Addr) (u : HO) : Prop := H a = some u ∨ ∃ o, H a = some (.frz o u)
theorem Rd.ok {P : Program} {w : World} {H : Hp} {h : Heap} {a : Addr} {u : HO} (r : Rd H a u) (x : HOk P w H h) : ObjOk P w H h a u := by
  rcases r with r | ⟨o, r⟩
  · exact x a u r
  · obtain ⟨_, q⟩ := x a _ r
    exact q
/-- what may be written -/
def Mut : Option HO → Prop
  | some (.lst _) => True
  | some (.dK _) => True
  | some (.dT _) => True
  | some (.set _ _) => True
  | some (.ins _ _ _) => True
  | some (.ext _) => True
  | _ => False
section
variable {P : Program} {w : World} {H : Hp} {h h' : Heap} {x e : Addr} {o' : HO}
/-- the object at e is changed: x itself, or the dict of the instance x -/
theorem HOk.write (ok : HOk P w H h) (mu : Mut (H x)) (he : e = x ∨ H e = some (.own x)) (k : ∀ b u, b ≠ e → h.get? b = some u → h'.get? b = some u) (heo : ∃ u, h'.get? e = some u)
    (new : ObjOk P w (upd H x o') h' x o') : HOk P w (upd H x o') h' := fun b u q => by
  have nown : ∀ c y, H c = some (.own y) → c ≠ x := fun c y r z => by subst z; rw [r] at mu; exact mu
  have ntup : ∀ c xs, H c = some (.tup xs) → c ≠ x := fun c xs r z => by subst z; rw [r] at mu; exact mu
  by_cases hb : b = x
  · subst hb; rw [upd_same] at q; cases q; exact new
  · rw [upd_ne hb] at q
    by_cases hbe : b = e
    · have q' : H b = some (.own x) := by
        rcases he with z | z
        · exact absurd (hbe.trans z) hb
        · rw [hbe]; exact z
      rw [q] at q'; cases q'
      obtain ⟨v, hv⟩ := heo
      exact ⟨v, by rw [hbe]; exact hv⟩
    · refine (ok b u q).stay (fun c v hc r => k c v ?_ r) (fun c r => by rw [upd_ne (nown c b r)]; exact r) fun c xs r => by rw [upd_ne (ntup c xs r)]; exact r
      rcases hc with rfl | hc
      · exact hbe
      · rintro rfl
        rcases he with z | z
        · exact nown c b hc z
        · rw [hc] at z; cases z; exact hb rfl
end

/-! ### kept unless tracked; of the frames at fs (the callers') the slots may change (an exception that passes writes there); of the records at ex (iterators) nothing is said -/
structure Un (fs ex : List Addr) (H H' : Hp) (h h' : Heap) : Prop where
  keep : ∀ b o, h.get? b = some o → H b = none → b ∉ fs → b ∉ ex → h'.get? b = some o
  slot : ∀ b o, h.get? b = some o → H b = none → b ∈ fs → b ∉ ex → ∃ sl, h'.get? b = some { o with slots := sl }
  free : ∀ b o, h.get? b = some o → H b = none → b ∉ ex → H' b = none
  there : ∀ b o, h.get? b = some o → b ∉ ex → ∃ o', h'.get? b = some o'
  tups : ∀ b xs, H b = some (.tup xs) → H' b = some (.tup xs)
  frzs : ∀ b o u, H b = some (.frz o u) → H' b = some (.frz o u)
  tbls : ∀ b ps, H b = some (.tbl ps) → ∃ more, H' b = some (.tbl (ps ++ more))
section
variable {fs fs' ex ex' : List Addr} {H H1 H2 : Hp} {h h1 h2 h' : Heap} {a x e : Addr} {o : HO}
theorem Un.any (u : Un fs ex H H1 h h1) {b : Addr} {ob : Obj} (q : h.get? b = some ob) (n : H b = none) (hx : b ∉ ex) : ∃ sl, h1.get? b = some { ob with slots := sl } := by
  by_cases hb : b ∈ fs
  · exact u.slot b ob q n hb hx
  · exact ⟨ob.slots, u.keep b ob q n hb hx⟩
theorem Un.trans (a : Un fs ex H H1 h h1) (b : Un fs ex H1 H2 h1 h2) : Un fs ex H H2 h h2 where
  keep := fun c ob q n hc hx => b.keep c ob (a.keep c ob q n hc hx) (a.free c ob q n hx) hc hx
  slot := fun c ob q n hc hx => by
    obtain ⟨sl, e1⟩ := a.slot c ob q n hc hx
    obtain ⟨sl', e2⟩ := b.slot c _ e1 (a.free c ob q n hx) hc hx
    exact ⟨sl', e2⟩
  free := fun c ob q n hx => by
    obtain ⟨o', e1⟩ := a.there c ob q hx
    exact b.free c o' e1 (a.free c ob q n hx) hx
  there := fun c ob q hx => by
    obtain ⟨o', e1⟩ := a.there c ob q hx
    exact b.there c o' e1 hx
  tups := fun c xs q => b.tups c xs (a.tups c xs q)
  frzs := fun c ob xs q => b.frzs c ob xs (a.frzs c ob xs q)
  tbls := fun c ps q => by
    obtain ⟨m1, e1⟩ := a.tbls c ps q
    obtain ⟨m2, e2⟩ := b.tbls c _ e1
    exact ⟨m1 ++ m2, by rw [e2, Array.append_assoc]⟩
theorem Un.kept (k : ∀ b u, h.get? b = some u → h'.get? b = some u) : Un fs ex H H h h' :=
  ⟨fun b ob q _ _ _ => k b ob q, fun b ob q _ _ _ => ⟨ob.slots, k b ob q⟩, fun _ _ _ n _ => n, fun b ob q _ => ⟨ob, k b ob q⟩, fun _ _ q => q, fun _ _ _ q => q, fun _ ps q => ⟨#[], by rw [q]; simp⟩⟩
theorem Un.refl : Un fs ex H H h h := Un.kept fun _ _ q => q
theorem Un.laid (k : ∀ b u, h.get? b = some u → h'.get? b = some u) (hp : h.objs.size ≤ a) (hn : H a = none) : Un fs ex H (upd H a o) h h' where
  keep := fun b u q _ _ _ => k b u q
  slot := fun b u q _ _ _ => ⟨u.slots, k b u q⟩
  free := fun b u q n _ => by rw [upd_ne (Nat.ne_of_lt (Nat.lt_of_lt_of_le (Heap.lt_size q) hp))]; exact n
  there := fun b u q _ => ⟨u, k b u q⟩
  tups := fun b xs q => by rw [upd_ne (ne_of_none q hn)]; exact q
  frzs := fun b u xs q => by rw [upd_ne (ne_of_none q hn)]; exact q
  tbls := fun b ps q => ⟨#[], by rw [upd_ne (ne_of_none q hn), q]; simp⟩
theorem Un.write (mu : Mut (H x)) (he : e = x ∨ H e = some (.own x)) (k : ∀ b u, b ≠ e → h.get? b = some u → h'.get? b = some u) (heo : ∃ u, h'.get? e = some u) : Un fs ex H (upd H x o) h h' := by
  have hx : ∀ b, H b = none → b ≠ x := fun b n z => by subst z; rw [n] at mu; exact mu
  have hb : ∀ b, H b = none → b ≠ e := fun b n z => by
    subst z
    rcases he with r | r
    · exact hx b n r
    · rw [n] at r; cases r
  have hm : ∀ b u, H b = some u → ¬ Mut (some u) → b ≠ x := fun b u q nm z => by subst z; rw [q] at mu; exact nm mu
  refine ⟨fun b u q n _ _ => k b u (hb b n) q, fun b u q n _ _ => ⟨u.slots, k b u (hb b n) q⟩, fun b u q n _ => by rw [upd_ne (hx b n)]; exact n, fun b u q _ => ?_,
    fun b xs q => by rw [upd_ne (hm b _ q fun z => z)]; exact q, fun b u xs q => by rw [upd_ne (hm b _ q fun z => z)]; exact q, fun b ps q => ⟨#[], by rw [upd_ne (hm b _ q fun z => z), q]; simp⟩⟩
  by_cases hbe : b = e
  · subst hbe; exact heo
  · exact ⟨u, k b u hbe q⟩
end

/-! ### the heap without what is tracked -/
def trk (h : Heap) (H : Hp) : List Addr := (List.range h.objs.size).filter fun a => (H a).isSome
def hidT (h : Heap) (H : Hp) : Heap := PySem.W.hideAll h (trk h H)
theorem hidT_size (h : Heap) (H : Hp) : (hidT h H).objs.size = h.objs.size := PySem.W.hideAll_size _ _
theorem hidT_get {h : Heap} {H : Hp} {b : Addr} {o : Obj} (e : h.get? b = some o) (n : H b = none) : (hidT h H).get? b = some o :=
  PySem.W.hideAll_get _ e fun hm => by
    have q : (H b).isSome = true := (List.mem_filter.mp hm).2
    rw [n] at q; simp at q
theorem of_hidT {h : Heap} {H : Hp} {b : Addr} {o : Obj} (e : (hidT h H).get? b = some o) : h.get? b = some o ∧ H b = none := by
  have e' : h.get? b = some o := PySem.W.of_hideAll (trk h H) e
  refine ⟨e', ?_⟩
  cases q : H b with
  | none => rfl
  | some x =>
    have hm : b ∈ trk h H := List.mem_filter.mpr ⟨List.mem_range.mpr (Heap.lt_size e'), by simp [q]⟩
    have z : (hidT h H).get? b = none := PySem.W.hideAll_none (trk h H) hm
    rw [z] at e; cases e

/-! ### OpenK's ledger, filled with every new object but one -/
end L2

namespace L2
open PySem PySem.Spec PyProof.Rows

/-- the module's facts, over the base: the heap at the law's entry without what is tracked there -/
structure Mod (K : PySem.W.Frag) (mg : Str → Option Value) (base : Heap) : Prop where
  kin : K.In base
  glob : base.Ns mainGlobals mg
  blt : ∃ mb, base.Ns builtinsNs mb ∧ ∀ x : Str, x ≠ "__name__" → mb x = bootBuiltins x
  nolimit : base.NoLimit

/-- the context: a def's body (or a comprehension's block) running. base: fixed through the whole law; s₀, H₀: the entry; outer: the frames whose slots others may change (a def's callers); stack: all frames that run;
   ex: iterators that were made ahead of the entry and are walked here (a comprehension's); fn: the names whose cells were made at the entry (a def: all; a comprehension's block: its own); calm: not within an except suite; pn: pins that every state bears; xe: what is wanted of an exception that leaves the code -/
structure Cx where
  prog : Program
  w : World
  K : PySem.W.Frag
  mg : Str → Option Value
  base : Heap
  A : Around
  N : List Str
  s₀ : Shared
  H₀ : Hp
  env : Env
  outer : List Env
  stack : List Env
  ex : List Addr
  fn : Str → Bool
  calm : Bool
  pn : List (Addr × Obj)
  xe : Value → Shared → Prop
/-- the callers' frames -/
def frs (l : List Env) : List Addr := l.filterMap (·.frame)
abbrev Cx.fs (X : Cx) : List Addr := frs X.outer

def Vis (sc : Scope) (x : Str) : Prop := sc.names.lookup x = some .local ∨ sc.names.lookup x = some .cell ∨ sc.names.lookup x = some .free
def Loc (sc : Scope) (x : Str) : Prop := sc.names.lookup x = some .local ∨ sc.names.lookup x = some .cell
def Look (env : Env) (h : Heap) (m : Str → Option Value) (x : Str) (u : Value) : Prop :=
  (env.kindOf x = some .local ∧ m x = some u) ∨ ((env.kindOf x = some .cell ∨ env.kindOf x = some .free) ∧ ∃ c, env.cells.lookup x = some c ∧ h.IsCell c (some u))

structure Cx.Ok (X : Cx) : Prop where
  mod : Mod X.K X.mg X.base
  kind : X.env.scope.kind = .function
  glob : X.env.globals = mainGlobals
  blt : X.env.builtins = builtinsNs
  above : X.s₀.heap.objs.size ≤ X.env.locals
  inj : ∀ x y c, X.env.cells.lookup x = some c → X.env.cells.lookup y = some c → x = y
  has : ∀ x, (X.env.kindOf x = some .cell ∨ X.env.kindOf x = some .free) → ∃ c, X.env.cells.lookup x = some c
  cab : ∀ x c, X.fn x = true → X.env.cells.lookup x = some c → X.s₀.heap.objs.size ≤ c
  hd : X.calm = true → X.A.handled = none
  frames : X.A.frames = some X.stack
  stk : X.stack = X.outer ∨ (X.stack = X.env :: X.outer ∧ X.env.frame = some X.env.locals)
  exf : ∀ b ∈ X.ex, b ≠ X.env.locals ∧ ∀ x c, X.env.cells.lookup x = some c → c ≠ b
  bs : ∀ b o, X.base.get? b = some o → X.s₀.heap.get? b = some o ∧ X.H₀ b = none
  bsz : X.base.objs.size ≤ X.s₀.heap.objs.size
  noex : ∀ b o, X.base.get? b = some o → b ∉ X.ex
  exfs : ∀ b ∈ X.ex, b ∉ X.fs
  funs : X.s₀.heap.FunFrames X.base X.outer
  frf : ∀ b ∈ X.fs, X.H₀ b = none

structure Inv (X : Cx) (pins : List (Addr × Obj)) (σ : List (Option V)) (H : Hp) (s : Shared) : Prop where
  ok : X.Ok
  os : s.os = X.s₀.os
  bare : AllBare s.gens
  base : Un X.fs X.ex X.H₀ H X.s₀.heap s.heap
  loc : ∃ m, s.heap.Ns X.env.locals m ∧ ∀ (i : Nat) (x : Str) (v : V), X.N[i]? = some x → σ[i]? = some (some v) → Vis X.env.scope x → ∃ u, RelV v u ∧ Look X.env s.heap m x u
  cell : ∀ x c, X.env.cells.lookup x = some c → ∃ v, s.heap.IsCell c v
  free : H X.env.locals = none
  freeC : ∀ x c, X.env.cells.lookup x = some c → H c = none
  pin : ∀ p ∈ X.pn ++ pins, s.heap.get? p.1 = some p.2 ∧ H p.1 = none ∧ p.1 ≠ X.env.locals ∧ p.1 ∉ X.fs ∧ ∀ v, p.2.data ≠ .cell v
  hok : HOk X.prog X.w H s.heap
  len : σ.length = X.N.length

section
variable {X : Cx} {pins : List (Addr × Obj)} {σ : List (Option V)} {H H' : Hp} {s : Shared} {h' : Heap}

theorem Cx.Ok.nofr (ok : X.Ok) {b : Addr} {o : Obj} (e : X.base.get? b = some o) : b ∉ X.fs := fun hb => by
  have := (ok.funs.mem hb).1
  rw [e] at this; cases this
theorem Inv.bs (I : Inv X pins σ H s) : ∀ b o, X.base.get? b = some o → s.heap.get? b = some o ∧ H b = none := fun b o e =>
  ⟨I.base.keep b o (I.ok.bs b o e).1 (I.ok.bs b o e).2 (I.ok.nofr e) (I.ok.noex b o e), I.base.free b o (I.ok.bs b o e).1 (I.ok.bs b o e).2 (I.ok.noex b o e)⟩
theorem Inv.bk (I : Inv X pins σ H s) : ∀ b o, X.base.get? b = some o → s.heap.get? b = some o := fun b o e => (I.bs b o e).1
theorem Inv.mod (I : Inv X pins σ H s) : Mod X.K X.mg X.base := I.ok.mod
theorem Inv.kIn (I : Inv X pins σ H s) : X.K.In s.heap := I.ok.mod.kin.keeps I.bk
theorem Inv.lt (I : Inv X pins σ H s) : X.env.locals < s.heap.objs.size := let ⟨_, hn, _⟩ := I.loc; hn.lt
theorem Inv.sz (I : Inv X pins σ H s) : X.s₀.heap.objs.size ≤ s.heap.objs.size := Nat.le_trans I.ok.above (Nat.le_of_lt I.lt)
theorem Inv.nofs (I : Inv X pins σ H s) {a : Addr} (h : s.heap.objs.size ≤ a) : a ∉ X.fs := fun hb => by
  obtain ⟨_, o, ho, _⟩ := I.ok.funs.mem hb
  exact absurd (Nat.lt_of_lt_of_le (Heap.lt_size ho) (Nat.le_trans I.sz h)) (Nat.lt_irrefl _)
theorem Inv.cne (I : Inv X pins σ H s) : ∀ x c, X.env.cells.lookup x = some c → c ≠ X.env.locals := fun x c e z => by
  obtain ⟨v, o, ho, hd⟩ := I.cell x c e
  obtain ⟨m, ⟨o', es, ep, ho', hd', _⟩, _⟩ := I.loc
  rw [z, ho'] at ho; cases ho; rw [hd'] at hd; cases hd
theorem Inv.funs (I : Inv X pins σ H s) : s.heap.FunFrames X.base X.outer := by
  have all : ∀ (l : List Env), (∀ b ∈ frs l, b ∈ X.fs) → X.s₀.heap.FunFrames X.base l → s.heap.FunFrames X.base l := by
    intro l
    induction l with
    | nil => intro _ _; trivial
    | cons env r ih =>
      intro hs hl
      obtain ⟨hk, ⟨L, o, hf, hn, ho, hd⟩, hr⟩ := hl
      have hL : L ∈ X.fs := hs L (by unfold frs; rw [List.filterMap_cons, hf]; exact List.mem_cons_self)
      obtain ⟨sl, e⟩ := I.base.slot L o ho (I.ok.frf L hL) hL fun z => I.ok.exfs L z hL
      exact ⟨hk, ⟨L, _, hf, hn, e, hd⟩, ih (fun b hb => hs b (by unfold frs; rw [List.filterMap_cons, hf]; exact List.mem_cons_of_mem _ hb)) hr⟩
  exact all X.outer (fun _ hb => hb) I.ok.funs

/-- the frames that run, for a call -/
theorem Inv.stack (I : Inv X pins σ H s) : s.heap.FunFrames X.base X.stack := by
  rcases I.ok.stk with e | ⟨e, hf⟩
  · rw [e]; exact I.funs
  · rw [e]
    obtain ⟨m, hn, _⟩ := I.loc
    refine .cons (by rw [I.ok.kind]; decide) hf hn ?_ I.funs
    exact Heap.get?_none_of_le (Nat.le_trans I.ok.bsz I.ok.above)
theorem Inv.stkSub (I : Inv X pins σ H s) : ∀ b ∈ frs X.stack, b ∈ X.env.locals :: X.fs := fun b hb => by
  rcases I.ok.stk with e | ⟨e, hf⟩
  · rw [e] at hb; exact List.mem_cons_of_mem _ hb
  · rw [e] at hb
    unfold frs at hb
    rw [List.filterMap_cons, hf] at hb
    exact hb
theorem Inv.stkFree (I : Inv X pins σ H s) : ∀ b ∈ frs X.stack, H b = none := fun b hb => by
  rcases List.mem_cons.mp (I.stkSub b hb) with e | hb
  · rw [e]; exact I.free
  · obtain ⟨_, o, ho, _⟩ := I.ok.funs.mem hb
    exact I.base.free b o ho (I.ok.frf b hb) fun z => I.ok.exfs b z hb

/-- THE STEP: the untracked objects but the frame and the records at ch are kept (the callers' frames up to slots), the frame's map is kept, the new abstract heap is held -/
theorem Inv.step {g' : Array GenState} {t' : Nat} {d' : Drawn} {ch : List Addr} (I : Inv X pins σ H s)
    (hch : ∀ b ∈ ch, (b ∈ X.ex ∨ X.s₀.heap.objs.size ≤ b) ∧ b ≠ X.env.locals ∧ (∀ x c, X.env.cells.lookup x = some c → c ≠ b) ∧ ∀ p ∈ X.pn ++ pins, p.1 ≠ b)
    (keep : ∀ b o, b ≠ X.env.locals → b ∉ X.fs → b ∉ ch → s.heap.get? b = some o → H b = none → h'.get? b = some o)
    (slot : ∀ b o, b ≠ X.env.locals → b ∈ X.fs → b ∉ ch → s.heap.get? b = some o → H b = none → ∃ sl, h'.get? b = some { o with slots := sl }) (free : ∀ b o, b ∉ ch → s.heap.get? b = some o → H b = none → H' b = none)
    (there : ∀ b o, b ∉ ch → s.heap.get? b = some o → ∃ o', h'.get? b = some o')
    (tups : ∀ b xs, H b = some (.tup xs) → H' b = some (.tup xs)) (frzs : ∀ b o u, H b = some (.frz o u) → H' b = some (.frz o u)) (tbls : ∀ b ps, H b = some (.tbl ps) → ∃ more, H' b = some (.tbl (ps ++ more)))
    (ns : ∀ m, s.heap.Ns X.env.locals m → h'.Ns X.env.locals m) (hok : HOk X.prog X.w H' h') (hg : AllBare g') :
    Inv X pins σ H' { s with heap := h', gens := g', drawn := d', toks := t' } := by
  have neL : ∀ b o, X.s₀.heap.get? b = some o → b ≠ X.env.locals := fun b o e => Nat.ne_of_lt (Nat.lt_of_lt_of_le (Heap.lt_size e) I.ok.above)
  have neC : ∀ b o, X.s₀.heap.get? b = some o → b ∉ X.ex → b ∉ ch := fun b o e hx hb => by
    rcases (hch b hb).1 with z | z
    · exact hx z
    · exact absurd (Nat.lt_of_lt_of_le (Heap.lt_size e) z) (Nat.lt_irrefl _)
  have cellK : ∀ x c, X.env.cells.lookup x = some c → ∀ v, s.heap.IsCell c v → h'.IsCell c v := fun x c e v ⟨o, ho, hd⟩ => by
    have nch : c ∉ ch := fun z => (hch c z).2.2.1 x c e rfl
    by_cases hc : c ∈ X.fs
    · obtain ⟨sl, q⟩ := slot c o (I.cne x c e) hc nch ho (I.freeC x c e)
      exact ⟨_, q, hd⟩
    · exact ⟨o, keep c o (I.cne x c e) hc nch ho (I.freeC x c e), hd⟩
  refine ⟨I.ok, I.os, hg, ⟨fun b o e n hb hx => ?_, fun b o e n hb hx => ?_, fun b o e n hx => ?_, fun b o e hx => ?_, fun b xs e => tups b xs (I.base.tups b xs e), fun b o xs e => frzs b o xs (I.base.frzs b o xs e), fun b ps e => ?_⟩, ?_, fun x c e => ?_, ?_, fun x c e => ?_, fun p hp => ?_, hok, I.len⟩
  · exact keep b o (neL b o e) hb (neC b o e hx) (I.base.keep b o e n hb hx) (I.base.free b o e n hx)
  · obtain ⟨sl, e1⟩ := I.base.slot b o e n hb hx
    obtain ⟨sl', e2⟩ := slot b _ (neL b o e) hb (neC b o e hx) e1 (I.base.free b o e n hx)
    exact ⟨sl', e2⟩
  · obtain ⟨o', e1⟩ := I.base.there b o e hx
    exact free b o' (neC b o e hx) e1 (I.base.free b o e n hx)
  · obtain ⟨o', e1⟩ := I.base.there b o e hx
    exact there b o' (neC b o e hx) e1
  · obtain ⟨m1, e1⟩ := I.base.tbls b ps e
    obtain ⟨m2, e2⟩ := tbls b _ e1
    exact ⟨m1 ++ m2, by rw [e2, Array.append_assoc]⟩
  · obtain ⟨m, hn, hl⟩ := I.loc
    refine ⟨m, ns m hn, fun i x v e1 e2 e3 => ?_⟩
    obtain ⟨u, r, l⟩ := hl i x v e1 e2 e3
    refine ⟨u, r, ?_⟩
    rcases l with l | ⟨k, c, e, z⟩
    · exact .inl l
    · exact .inr ⟨k, c, e, cellK x c e _ z⟩
  · obtain ⟨v, z⟩ := I.cell x c e
    exact ⟨v, cellK x c e v z⟩
  · obtain ⟨m, ⟨o, _, _, ho, _⟩, _⟩ := I.loc
    exact free _ o (fun z => (hch _ z).2.1 rfl) ho I.free
  · obtain ⟨v, o, ho, hd⟩ := I.cell x c e
    exact free c o (fun z => (hch c z).2.2.1 x c e rfl) ho (I.freeC x c e)
  · obtain ⟨e, n, ne, nf, d⟩ := I.pin p hp
    have nch : p.1 ∉ ch := fun z => (hch p.1 z).2.2.2 p hp rfl
    exact ⟨keep p.1 p.2 ne nf nch e n, free p.1 p.2 nch e n, ne, nf, d⟩
/-- .. where the frame's own object is kept too -/
theorem Inv.un {t' : Nat} (I : Inv X pins σ H s) (u : Un X.fs [] H H' s.heap h') (hok : HOk X.prog X.w H' h') : Inv X pins σ H' { s with heap := h', toks := t' } := by
  obtain ⟨m, ⟨o, es, ep, ho, r⟩, _⟩ := id I.loc
  obtain ⟨sl, hL⟩ := u.any ho I.free (by simp)
  exact I.step (g' := s.gens) (d' := s.drawn) (ch := []) (fun _ z => nomatch z) (fun b o _ hb _ e n => u.keep b o e n hb (by simp)) (fun b o _ hb _ e n => u.slot b o e n hb (by simp)) (fun b o _ e n => u.free b o e n (by simp)) (fun b o _ e => u.there b o e (by simp)) u.tups u.frzs u.tbls (fun m' hm => by
    obtain ⟨o', es', ep', ho', r'⟩ := hm
    rw [ho] at ho'; cases ho'
    exact ⟨_, es', ep', hL, r'⟩) hok I.bare
/-- behind a call (or a comprehension's block): the slots of this frame may have changed too, the records at ch may have turned -/
theorem Inv.call {g' : Array GenState} {t' : Nat} {d' : Drawn} {ch : List Addr} (I : Inv X pins σ H s) (u : Un (frs X.stack) ch H H' s.heap h') (hok : HOk X.prog X.w H' h') (hg : AllBare g')
    (hch : ∀ b ∈ ch, (b ∈ X.ex ∨ X.s₀.heap.objs.size ≤ b) ∧ b ≠ X.env.locals ∧ (∀ x c, X.env.cells.lookup x = some c → c ≠ b) ∧ ∀ p ∈ X.pn ++ pins, p.1 ≠ b) :
    Inv X pins σ H' { s with heap := h', gens := g', drawn := d', toks := t' } := by
  obtain ⟨m, ⟨o, es, ep, ho, r⟩, _⟩ := id I.loc
  obtain ⟨sl, hL⟩ := u.any ho I.free fun z => (hch _ z).2.1 rfl
  exact I.step (ch := ch) hch (fun b o hL hb hc e n => u.keep b o e n (fun z => (List.mem_cons.mp (I.stkSub b z)).elim hL hb) hc) (fun b o _ _ hc e n => u.any e n hc) (fun b o hc e n => u.free b o e n hc) (fun b o hc e => u.there b o e hc) u.tups u.frzs u.tbls (fun m' hm => by
    obtain ⟨o', es', ep', ho', r'⟩ := hm
    rw [ho] at ho'; cases ho'
    exact ⟨_, es', ep', hL, r'⟩) hok hg
/-- an untracked record of ours (an iterator) has turned -/
theorem Inv.turned {t' : Nat} {it : Addr} (I : Inv X pins σ H s) (k : ∀ b o, b ≠ it → s.heap.get? b = some o → h'.get? b = some o) (hn : H it = none) (hL : it ≠ X.env.locals)
    (h1 : it ∈ X.ex ∨ X.s₀.heap.objs.size ≤ it) (h2 : ∀ x c, X.env.cells.lookup x = some c → c ≠ it) (h3 : ∀ p ∈ X.pn ++ pins, p.1 ≠ it) : Inv X pins σ H { s with heap := h', toks := t' } := by
  have nit : ∀ b u, H b = some u → b ≠ it := fun b u e z => by rw [z, hn] at e; cases e
  refine I.step (g' := s.gens) (d' := s.drawn) (ch := [it]) (fun b hb => ?_) (fun b o _ _ hc e _ => k b o (fun z => hc (by simp [z])) e) (fun b o _ _ hc e _ => ⟨o.slots, k b o (fun z => hc (by simp [z])) e⟩) (fun _ _ _ _ n => n)
    (fun b o hc e => ⟨o, k b o (fun z => hc (by simp [z])) e⟩) (fun _ _ e => e) (fun _ _ _ e => e) (fun b ps e => ⟨#[], by rw [e]; simp⟩) (fun m hm => ?_) (fun b u e => ?_) I.bare
  · have e : b = it := by simpa using hb
    subst e
    exact ⟨h1, hL, h2, h3⟩
  · obtain ⟨o, es, ep, ho, r⟩ := hm
    exact ⟨o, es, ep, k _ o (Ne.symm hL) ho, r⟩
  · refine (I.hok b u e).stay (fun c v hc q => k c v ?_ q) (fun _ q => q) fun _ _ q => q
    rcases hc with z | z
    · rw [z]; exact nit b u e
    · exact nit c _ z
theorem Inv.tok (I : Inv X pins σ H s) (t : Nat) : Inv X pins σ H { s with toks := t } := I.un (h' := s.heap) (t' := t) Un.refl I.hok
/-- all objects kept -/
theorem Inv.kept {t' : Nat} (I : Inv X pins σ H s) (k : ∀ b u, s.heap.get? b = some u → h'.get? b = some u) : Inv X pins σ H { s with heap := h', toks := t' } := I.un (Un.kept k) (I.hok.kept k)
/-- a new object laid and tracked -/
theorem Inv.laid {a : Addr} {o : HO} {t' : Nat} (I : Inv X pins σ H s) (k : ∀ b u, s.heap.get? b = some u → h'.get? b = some u) (hp : s.heap.objs.size ≤ a) (new : ObjOk X.prog X.w (upd H a o) h' a o) :
    Inv X pins σ (upd H a o) { s with heap := h', toks := t' } := I.un (Un.laid k hp (I.hok.fresh hp)) (I.hok.laid k hp new)
/-- an object written -/
theorem Inv.write {x e : Addr} {o : HO} {t' : Nat} (I : Inv X pins σ H s) (mu : Mut (H x)) (he : e = x ∨ H e = some (.own x)) (k : ∀ b u, b ≠ e → s.heap.get? b = some u → h'.get? b = some u) (heo : ∃ u, h'.get? e = some u)
    (new : ObjOk X.prog X.w (upd H x o) h' x o) : Inv X pins σ (upd H x o) { s with heap := h', toks := t' } := I.un (Un.write mu he k heo) (I.hok.write mu he k heo new)
theorem Inv.pins_of {pins' : List (Addr × Obj)} (I : Inv X pins σ H s) (h : ∀ p ∈ pins', s.heap.get? p.1 = some p.2 ∧ H p.1 = none ∧ p.1 ≠ X.env.locals ∧ p.1 ∉ X.fs ∧ ∀ v, p.2.data ≠ .cell v) : Inv X pins' σ H s :=
  ⟨I.ok, I.os, I.bare, I.base, I.loc, I.cell, I.free, I.freeC, fun p hp => (List.mem_append.mp hp).elim (fun z => I.pin p (List.mem_append_left _ z)) (h p), I.hok, I.len⟩

theorem nodup_ix {N : List Str} (hN : N.Nodup) {i j : Nat} {x : Str} (a : N[i]? = some x) (b : N[j]? = some x) : i = j := by
  obtain ⟨h1, e1⟩ := List.getElem?_eq_some_iff.mp a
  obtain ⟨h2, e2⟩ := List.getElem?_eq_some_iff.mp b
  exact (List.getElem_inj hN).mp (e1.trans e2.symm)

/-- a name is stored; what changed -/
theorem store_ok2 {M : Model} {A : Around} {E : Value → Shared → Prop} {i : Nat} {x : Str} {v : V} {u : Value} {Q : Unit → Shared → Prop} (I : Inv X pins σ H s) (hN : X.N.Nodup) (hi : X.N[i]? = some x) (hx : Loc X.env.scope x) (r : RelV v u)
    (h : ∀ s', Inv X pins (σ.set i (some v)) H s' → (∃ a, Heap.SameBut a s.heap s'.heap ∧ (a = X.env.locals ∨ X.env.cells.lookup x = some a)) → Q () s') (hf : X.fn x = true ∨ X.env.scope.names.lookup x = some .local := by first | exact .inl rfl | exact .inr rfl | assumption) : wpAny M A (storeName X.env x u) Q E s := by
  obtain ⟨m, hn, hl⟩ := id I.loc
  have hcls : (X.env.scope.kind == .class || (X.env.scope.kind == .module && X.env.locals != X.env.globals)) = false := by rw [I.ok.kind]; rfl
  have hiσ : i < σ.length := by rw [I.len]; exact (List.getElem?_eq_some_iff.mp hi).1
  have cne := I.cne
  have tracked : ∀ {a : Addr} {h' : Heap}, (∃ o, s.heap.get? a = some o ∧ H a = none) → Heap.SameBut a s.heap h' → HOk X.prog X.w H h' := fun {a h'} ha hs b ob e => by
    obtain ⟨_, _, hfree⟩ := ha
    refine (I.hok b ob e).stay (fun c w' hc q => (hs.2 c ?_).trans q) (fun _ q => q) fun _ _ q => q
    rintro rfl
    rcases hc with rfl | hc
    · rw [hfree] at e; cases e
    · rw [hfree] at hc; cases hc
  rcases hx with hk | hk
  · refine wpAny_storeName_local hk hn (fun h' hn' hs => ?_) hcls
    obtain ⟨oL, _, _, hoL, _⟩ := id hn
    refine h _ ⟨I.ok, I.os, I.bare, ⟨fun b o e n hb hx => ?_, fun b o e n hb hx => ?_, I.base.free, fun b o e hx => ?_, I.base.tups, I.base.frzs, I.base.tbls⟩, ⟨_, hn', fun j y v' e1 e2 e3 => ?_⟩, fun y c e => ?_, I.free, I.freeC, fun p hp => ?_, tracked ⟨oL, hoL, I.free⟩ hs, by simpa using I.len⟩ ⟨_, hs, .inl rfl⟩
    · exact (hs.2 b (Nat.ne_of_lt (Nat.lt_of_lt_of_le (Heap.lt_size e) I.ok.above))).trans (I.base.keep b o e n hb hx)
    · obtain ⟨sl, e1⟩ := I.base.slot b o e n hb hx
      exact ⟨sl, (hs.2 b (Nat.ne_of_lt (Nat.lt_of_lt_of_le (Heap.lt_size e) I.ok.above))).trans e1⟩
    · obtain ⟨o', e1⟩ := I.base.there b o e hx
      exact ⟨o', (hs.2 b (Nat.ne_of_lt (Nat.lt_of_lt_of_le (Heap.lt_size e) I.ok.above))).trans e1⟩
    · by_cases hj : j = i
      · subst hj
        rw [hi] at e1; cases e1
        rw [List.getElem?_set_self hiσ] at e2
        cases e2
        exact ⟨u, r, .inl ⟨hk, by simp⟩⟩
      · rw [List.getElem?_set_ne (Ne.symm hj)] at e2
        obtain ⟨u', r', q⟩ := hl j y v' e1 e2 e3
        refine ⟨u', r', ?_⟩
        rcases q with ⟨k, e⟩ | ⟨k, c, e, z⟩
        · refine .inl ⟨k, ?_⟩
          have : y ≠ x := fun e => hj (nodup_ix hN e1 (e ▸ hi))
          simp [this, e]
        · exact .inr ⟨k, c, e, z.sameBut hs (cne y c e)⟩
    · obtain ⟨w', z⟩ := I.cell y c e
      exact ⟨w', z.sameBut hs (cne y c e)⟩
    · obtain ⟨e, n, ne, nf, d⟩ := I.pin p hp
      exact ⟨(hs.2 p.1 ne).trans e, n, ne, nf, d⟩
  · have hfn : X.fn x = true := by
      rcases hf with z | z
      · exact z
      · rw [z] at hk; cases hk
    obtain ⟨c, hc⟩ := I.ok.has x (.inl hk)
    obtain ⟨w', z⟩ := I.cell x c hc
    refine wpAny_storeName_cell I.ok.kind hk hc z (fun h' hc' hs => ?_)
    obtain ⟨oc, hoc, hocd⟩ := id z
    refine h { s with heap := h' } ⟨I.ok, I.os, I.bare, ⟨fun b o e n hb hx => ?_, fun b o e n hb hx => ?_, I.base.free, fun b o e hx => ?_, I.base.tups, I.base.frzs, I.base.tbls⟩, ⟨m, hn.sameBut hs (Ne.symm (cne x c hc)), fun j y v' e1 e2 e3 => ?_⟩, fun y c' e => ?_, I.free, I.freeC, fun p hp => ?_, tracked ⟨oc, hoc, I.freeC x c hc⟩ hs, by simpa using I.len⟩ ⟨c, hs, .inr hc⟩
    · exact (hs.2 b (Nat.ne_of_lt (Nat.lt_of_lt_of_le (Heap.lt_size e) (I.ok.cab x c hfn hc)))).trans (I.base.keep b o e n hb hx)
    · obtain ⟨sl, e1⟩ := I.base.slot b o e n hb hx
      exact ⟨sl, (hs.2 b (Nat.ne_of_lt (Nat.lt_of_lt_of_le (Heap.lt_size e) (I.ok.cab x c hfn hc)))).trans e1⟩
    · obtain ⟨o', e1⟩ := I.base.there b o e hx
      exact ⟨o', (hs.2 b (Nat.ne_of_lt (Nat.lt_of_lt_of_le (Heap.lt_size e) (I.ok.cab x c hfn hc)))).trans e1⟩
    · by_cases hj : j = i
      · subst hj
        rw [hi] at e1; cases e1
        rw [List.getElem?_set_self hiσ] at e2
        cases e2
        exact ⟨u, r, .inr ⟨.inl hk, c, hc, hc'⟩⟩
      · rw [List.getElem?_set_ne (Ne.symm hj)] at e2
        obtain ⟨u', r', q⟩ := hl j y v' e1 e2 e3
        refine ⟨u', r', ?_⟩
        rcases q with q | ⟨k, c', e, z'⟩
        · exact .inl q
        · refine .inr ⟨k, c', e, z'.sameBut hs ?_⟩
          rintro rfl
          exact hj (nodup_ix hN e1 (I.ok.inj _ _ _ e hc ▸ hi))
    · by_cases hcc : c' = c
      · subst hcc; exact ⟨_, hc'⟩
      · obtain ⟨w2, z2⟩ := I.cell y c' e
        exact ⟨w2, z2.sameBut hs hcc⟩
    · obtain ⟨e, n, ne, nf, d⟩ := I.pin p hp
      refine ⟨(hs.2 p.1 ?_).trans e, n, ne, nf, d⟩
      intro q
      rw [q, hoc] at e
      have q' : oc = p.2 := Option.some.inj e
      exact d w' (by rw [← q']; exact hocd)
theorem store_ok {M : Model} {A : Around} {E : Value → Shared → Prop} {i : Nat} {x : Str} {v : V} {u : Value} {Q : Unit → Shared → Prop} (I : Inv X pins σ H s) (hN : X.N.Nodup) (hi : X.N[i]? = some x) (hx : Loc X.env.scope x) (r : RelV v u)
    (h : ∀ s', Inv X pins (σ.set i (some v)) H s' → Q () s') (hf : X.fn x = true ∨ X.env.scope.names.lookup x = some .local := by first | exact .inl rfl | exact .inr rfl | assumption) : wpAny M A (storeName X.env x u) Q E s :=
  store_ok2 I hN hi hx r (fun s' I' _ => h s' I') hf
/-- behind a call or a block, the state as it is -/
theorem Inv.call' {s' : Shared} {ch : List Addr} (I : Inv X pins σ H s) (ho : s'.os = s.os) (u : Un (frs X.stack) ch H H' s.heap s'.heap) (hok : HOk X.prog X.w H' s'.heap) (hg : AllBare s'.gens)
    (hch : ∀ b ∈ ch, (b ∈ X.ex ∨ X.s₀.heap.objs.size ≤ b) ∧ b ≠ X.env.locals ∧ (∀ x c, X.env.cells.lookup x = some c → c ≠ b) ∧ ∀ p ∈ X.pn ++ pins, p.1 ≠ b) : Inv X pins σ H' s' := by
  obtain ⟨h', g', d', t', o'⟩ := s'
  have e : o' = s.os := ho
  subst e
  exact I.call (g' := g') (t' := t') (d' := d') u hok hg hch
end

/-! ### the judgements -/
/-- an exception: its class, its own dict's address (where it has one), the abstract heap behind it -/
abbrev XK := Value → Option Addr → Hp → Prop
abbrev St := List (Option V)
abbrev VK := V → Hp → Prop
/-- an expression's reading; a test's; an argument list's -/
abbrev TE := St → Hp → VK → Prop
abbrev TT := St → Hp → (Bool → Hp → Prop) → Prop
abbrev TA := St → Hp → (List V → Hp → Prop) → Prop
/-- what is wanted behind a statement -/
structure Ends where
  nx : St → Hp → Prop
  rt : VK
  bk : St → Hp → Prop := fun _ _ => False
  ct : St → Hp → Prop := fun _ _ => False
abbrev TS := Ends → St → Hp → Prop

def EP (X : Cx) (pins : List (Addr × Obj)) (σ : St) (Q : VK) (u : Value) (s' : Shared) : Prop := ∃ v H', Inv X pins σ H' s' ∧ RelV v u ∧ Q v H'
def TP (X : Cx) (pins : List (Addr × Obj)) (σ : St) (Q : Bool → Hp → Prop) (b : Bool) (s' : Shared) : Prop := ∃ H', Inv X pins σ H' s' ∧ Q b H'
def AP (X : Cx) (pins : List (Addr × Obj)) (σ : St) (Q : List V → Hp → Prop) (us : List Value) (s' : Shared) : Prop := ∃ vs H', Inv X pins σ H' s' ∧ Vals vs us ∧ Q vs H'
def SP (X : Cx) (pins : List (Addr × Obj)) (D : Ends) (f : Flow) (s' : Shared) : Prop :=
  match f with
  | .next => ∃ σ' H', Inv X pins σ' H' s' ∧ D.nx σ' H'
  | .brk => ∃ σ' H', Inv X pins σ' H' s' ∧ D.bk σ' H'
  | .cont => ∃ σ' H', Inv X pins σ' H' s' ∧ D.ct σ' H'
  | .ret u => ∃ v σ' H', Inv X pins σ' H' s' ∧ RelV v u ∧ D.rt v H'

def PE (X : Cx) (e : Expr) (t : TE) : Prop :=
  ∀ (pins : List (Addr × Obj)) (s : Shared) (σ : St) (H : Hp) (Q : VK), Inv X pins σ H s → t σ H Q → wpAny (model X.prog X.w) X.A (eval e X.env) (EP X pins σ Q) X.xe s
def PT (X : Cx) (e : Expr) (t : TT) : Prop :=
  ∀ (pins : List (Addr × Obj)) (s : Shared) (σ : St) (H : Hp) (Q : Bool → Hp → Prop), Inv X pins σ H s → t σ H Q → wpAny (model X.prog X.w) X.A (isTrue e X.env (eval e X.env)) (TP X pins σ Q) X.xe s
/-- a test whatever its 'whole' is (and, or) -/
def PW (X : Cx) (e : Expr) (t : TT) : Prop :=
  ∀ (whole : Sem Value) (pins : List (Addr × Obj)) (s : Shared) (σ : St) (H : Hp) (Q : Bool → Hp → Prop), Inv X pins σ H s → t σ H Q → wpAny (model X.prog X.w) X.A (isTrue e X.env whole) (TP X pins σ Q) X.xe s
theorem PW.pt {X : Cx} {e : Expr} {t : TT} (h : PW X e t) : PT X e t := h _
/-- an argument list (no star), from the left -/
def PA (X : Cx) (es : List Expr) (t : TA) : Prop :=
  ∀ (pos : Pos) (pins : List (Addr × Obj)) (s : Shared) (σ : St) (H : Hp) (Q : List V → Hp → Prop), Inv X pins σ H s → t σ H Q → wpAny (model X.prog X.w) X.A (spliced (backTo pos (starEach es X.env))) (AP X pins σ Q) X.xe s
def PS (X : Cx) (st : Stmt) (t : TS) : Prop :=
  ∀ (pins : List (Addr × Obj)) (s : Shared) (σ : St) (H : Hp) (D : Ends), Inv X pins σ H s → t D σ H → wpAny (model X.prog X.w) X.A (exec st X.env) (SP X pins D) X.xe s
def PSs (X : Cx) (st : List Stmt) (t : TS) : Prop :=
  ∀ (pins : List (Addr × Obj)) (s : Shared) (σ : St) (H : Hp) (D : Ends), Inv X pins σ H s → t D σ H → wpAny (model X.prog X.w) X.A (execs st X.env) (SP X pins D) X.xe s
/-- weaken the end -/
theorem thn {α : Type} {t : Sem α} {Q Q' : α → Shared → Prop} {M : Model} {A : Around} {E : Value → Shared → Prop} {s : Shared} (h : wpAny M A t Q E s) (hQ : ∀ a s, Q a s → Q' a s) : wpAny M A t Q' E s := wpAny_mono h hQ fun _ _ x => x
end L2

namespace L2
open PySem PySem.Spec PyProof.Rows
section
variable {X : Cx}

/-! ### names and constants -/
def tVar (i : Nat) : TE := fun σ H Q => ∃ v, σ[i]? = some (some v) ∧ Q v H
def tC (v : V) : TE := fun _ H Q => Q v H
theorem pe_var {i : Nat} {x : Str} {pos : Pos} (hN : X.N[i]? = some x) (hv : Vis X.env.scope x) (hd : (x == ("__debug__" : Str)) = false := by decide) (hcd : (x == ("__classdict__" : Str)) = false := by decide) : PE X (.Name x pos) (tVar i) := by
  intro pins s σ H Q I h
  obtain ⟨v, e, h⟩ := h
  obtain ⟨m, hn, hl⟩ := I.loc
  obtain ⟨u, r, l⟩ := hl i x v hN e hv
  have fin : EP X pins σ Q u s := ⟨v, H, I, r, h⟩
  rcases l with ⟨hk, hm⟩ | ⟨hk, c, hc, hcell⟩
  · exact wpAny_Name (wpAny_loadName_local I.ok.kind hk hn hm fin) hd
  · rcases hk with hk | hk
    · exact wpAny_Name (wpAny_loadName_cell I.ok.kind hk hc hcell fin) hd
    · exact wpAny_Name (wpAny_loadName_free I.ok.kind hk hc hcell fin hcd) hd
theorem pe_int {i j pos} : PE X (.Constant (.int i) j pos) (tC (.int i)) := fun _ _ _ H _ I h => wpAny_Constant_int ⟨.int i, H, I.tok _, ⟨_, rfl⟩, h⟩
theorem pe_bl {b j pos} : PE X (.Constant (.bool b) j pos) (tC (.bl b)) := fun _ _ _ H _ I h => Constant_bool ⟨.bl b, H, I, rfl, h⟩
theorem pe_str {x j pos} : PE X (.Constant (.str x) j pos) (tC (.str x)) := fun _ _ _ H _ I h => Calls.Constant_str ⟨.str x, H, I.tok _, ⟨_, rfl⟩, h⟩

/-- a global name of the def -/
def Gl (X : Cx) (x : Str) : Prop := X.env.kindOf x = some .globalImplicit
theorem ld_glob {E : Value → Shared → Prop} {pins : List (Addr × Obj)} {s : Shared} {σ : St} {H : Hp} {x : Str} {u : Value} {pos : Pos} {Q : Value → Shared → Prop} (I : Inv X pins σ H s) (hg : Gl X x) (hm : X.mg x = some u) (h : Q u s)
    (hd : (x == ("__debug__" : Str)) = false := by decide) : wpAny (model X.prog X.w) X.A (eval (.Name x pos) X.env) Q E s :=
  Calls.Name_function_global I.ok.kind hg (Calls.loadGlobal_global (by rw [I.ok.glob]; exact I.mod.glob.keeps I.bk) hm h) hd
theorem ld_blt {E : Value → Shared → Prop} {pins : List (Addr × Obj)} {s : Shared} {σ : St} {H : Hp} {x : Str} {u : Value} {pos : Pos} {Q : Value → Shared → Prop} (I : Inv X pins σ H s) (hg : Gl X x) (hm : X.mg x = none) (hv : bootBuiltins x = some u) (h : Q u s)
    (hn : x ≠ "__name__" := by decide) (hd : (x == ("__debug__" : Str)) = false := by decide) : wpAny (model X.prog X.w) X.A (eval (.Name x pos) X.env) Q E s := by
  obtain ⟨mb, h1, h2⟩ := I.mod.blt
  exact Calls.Name_function_global I.ok.kind hg (Calls.loadGlobal_builtin (by rw [I.ok.glob]; exact I.mod.glob.keeps I.bk) hm (by rw [I.ok.blt]; exact h1.keeps I.bk) ((h2 x hn).trans hv) h) hd
/-- a module's constant, a class, a function, as a value -/
theorem pe_glob {x : Str} {v : V} {u : Value} {pos : Pos} (hg : Gl X x) (hm : X.mg x = some u) (r : RelV v u) (hd : (x == ("__debug__" : Str)) = false := by decide) : PE X (.Name x pos) (tC v) :=
  fun _ _ _ H _ I h => ld_glob I hg hm ⟨v, H, I, r, h⟩ hd
theorem pe_bltn {x : Str} {v : V} {u : Value} {pos : Pos} (hg : Gl X x) (hm : X.mg x = none) (hv : bootBuiltins x = some u) (r : RelV v u) (hn : x ≠ "__name__" := by decide) (hd : (x == ("__debug__" : Str)) = false := by decide) : PE X (.Name x pos) (tC v) :=
  fun _ _ _ H _ I h => ld_blt I hg hm hv ⟨v, H, I, r, h⟩ hn hd

/-! ### arithmetic -/
variable {a b : Expr} {ta tb : TE} {pos : Pos}
/-! ### comparisons -/
/-! ### and, or, not -/
variable {tA tB' : TT} {rest : List Expr}
def tAnd (t u : TT) : TT := fun σ H Q => t σ H fun c H1 => if c = true then u σ H1 Q else Q false H1
def tOr (t u : TT) : TT := fun σ H Q => t σ H fun c H1 => if c = true then Q true H1 else u σ H1 Q
def tNot (t : TT) : TT := fun σ H Q => t σ H fun c H1 => Q (!c) H1
theorem pw_and1 (ha : PT X a tA) : PW X (.BoolOp .And [a] pos) tA := by
  intro wh pins s σ H Q I h
  refine isTrue_and (thn (ha pins s σ H Q I h) fun c s1 e => ?_)
  cases c with
  | true => exact isTrue_and_nil e
  | false => exact e
theorem pw_or1 (ha : PT X a tA) : PW X (.BoolOp .Or [a] pos) tA := by
  intro wh pins s σ H Q I h
  refine isTrue_or (thn (ha pins s σ H Q I h) fun c s1 e => ?_)
  cases c with
  | false => exact isTrue_or_nil e
  | true => exact e
theorem pw_and (ha : PT X a tA) (hb : PW X (.BoolOp .And (b :: rest) pos) tB') : PW X (.BoolOp .And (a :: b :: rest) pos) (tAnd tA tB') := by
  intro wh pins s σ H Q I h
  refine isTrue_and (thn (ha pins s σ H _ I h) fun c s1 ⟨H1, I1, q1⟩ => ?_)
  cases c with
  | true => exact hb wh pins s1 σ H1 Q I1 q1
  | false => exact ⟨H1, I1, q1⟩
theorem pw_or (ha : PT X a tA) (hb : PW X (.BoolOp .Or (b :: rest) pos) tB') : PW X (.BoolOp .Or (a :: b :: rest) pos) (tOr tA tB') := by
  intro wh pins s σ H Q I h
  refine isTrue_or (thn (ha pins s σ H _ I h) fun c s1 ⟨H1, I1, q1⟩ => ?_)
  cases c with
  | true => exact ⟨H1, I1, q1⟩
  | false => exact hb wh pins s1 σ H1 Q I1 q1
theorem pt_not (ha : PT X a tA) : PT X (.UnaryOp .Not a pos) (tNot tA) := by
  intro pins s σ H Q I h
  exact isTrue_not (ha pins s σ H (fun c H1 => Q (!c) H1) I h)
theorem pe_one {op} {t : TE} (h : PE X a t) : PE X (.BoolOp op [a] pos) t := fun pins s σ H Q I hw => BoolOp_one (h pins s σ H Q I hw)
end
end L2

namespace L2
open PySem PySem.Spec PyProof.Rows

/-! ### a list, a tuple that is read: tracked, frozen, or an object of the module -/
def SqL (K : PySem.W.Frag) (H : Hp) (a : Addr) (xs : List V) : Prop :=
  Rd H a (.lst xs) ∨
    ∃ (o : Obj) (its : Array Value) (n : Nat), K.lookup a = some o ∧ o.cls = .type "list" ∧ o.dict = none ∧ o.data = .seq its n ∧ its.size ≤ sizeLine ∧ Vals xs its.toList
def SqT (K : PySem.W.Frag) (H : Hp) (a : Addr) (xs : List V) : Prop :=
  Rd H a (.tup xs) ∨
    ∃ (o : Obj) (its : Array Value) (n : Nat), K.lookup a = some o ∧ o.cls = .type "tuple" ∧ o.data = .seq its n ∧ its.size ≤ sizeLine ∧ Vals xs its.toList
def absV : Value → Option V
  | .none => some .non
  | .bool b => some (.bl b)
  | .int i _ => some (.int i)
  | .str x _ => some (.str x)
  | .bytes b _ => some (.byt b)
  | .float b _ => some (.flt b)
  | .ref a => some (.ref a)
  | .type n => some (.ty n)
  | _ => none
theorem RelV.abs {x : V} {u : Value} (r : RelV x u) : absV u = some x := by
  cases x with
  | non => cases r; rfl
  | bl _ => cases r; rfl
  | int _ => obtain ⟨t, rfl⟩ := r; rfl
  | str _ => obtain ⟨t, rfl⟩ := r; rfl
  | byt _ => obtain ⟨t, rfl⟩ := r; rfl
  | flt _ => obtain ⟨t, rfl⟩ := r; rfl
  | ref _ => cases r; rfl
  | ty _ => cases r; rfl
theorem RelV.inj {x y : V} {u : Value} (r : RelV x u) (q : RelV y u) : x = y := Option.some.inj (r.abs.symm.trans q.abs)
theorem Vals.inj : ∀ {xs ys : List V} {us : List Value}, Vals xs us → Vals ys us → xs = ys
  | _, _, _, .nil, .nil => rfl
  | _, _, _, .cons r t, .cons r' t' => by rw [r.inj r', Vals.inj t t']
section
variable {X : Cx} {pins : List (Addr × Obj)} {σ : St} {H : Hp} {s : Shared} {a : Addr} {xs ys : List V}
theorem SqL.of {K : PySem.W.Frag} (h : H a = some (.lst xs)) : SqL K H a xs := .inl (.inl h)
theorem SqT.of {K : PySem.W.Frag} (h : H a = some (.tup xs)) : SqT K H a xs := .inl (.inl h)
theorem Inv.list (I : Inv X pins σ H s) (h : SqL X.K H a xs) : ∃ its : List Value, Vals xs its ∧ PlainL s.heap a its.toArray ∧ xs.length ≤ sizeLine := by
  rcases h with h | ⟨o, its, n, hk, hc, hd, hs, hz, r⟩
  · obtain ⟨z, its, n, r, e⟩ := h.ok I.hok
    exact ⟨its, r, ⟨_, n, e, rfl, rfl, rfl⟩, z⟩
  · refine ⟨its.toList, r, ⟨o, n, I.kIn a o hk, hc, hd, by simpa using hs⟩, ?_⟩
    have e := r.length
    simp only [Array.length_toList] at e
    omega
theorem Inv.tuple (I : Inv X pins σ H s) (h : SqT X.K H a xs) : ∃ its : List Value, Vals xs its ∧ IsTup s.heap a its.toArray ∧ xs.length ≤ sizeLine := by
  rcases h with h | ⟨o, its, n, hk, hc, hs, hz, r⟩
  · obtain ⟨z, its, r, p⟩ := h.ok I.hok
    exact ⟨its, r, p, z⟩
  · refine ⟨its.toList, r, ⟨o, I.kIn a o hk, hc, n, by simpa using hs⟩, ?_⟩
    have e := r.length
    simp only [Array.length_toList] at e
    omega
theorem Inv.list_inj (I : Inv X pins σ H s) (h : SqL X.K H a xs) (h' : SqL X.K H a ys) : xs = ys := by
  obtain ⟨its, r, ⟨o, n, e, _, _, d⟩, _⟩ := I.list h
  obtain ⟨its', r', ⟨o', n', e', _, _, d'⟩, _⟩ := I.list h'
  rw [e] at e'; cases e'
  rw [d] at d'
  injection d' with d1 _
  have : its = its' := by simpa using congrArg Array.toList d1
  subst this
  exact r.inj r'
theorem Inv.tuple_inj (I : Inv X pins σ H s) (h : SqT X.K H a xs) (h' : SqT X.K H a ys) : xs = ys := by
  obtain ⟨its, r, ⟨o, e, _, n, d⟩, _⟩ := I.tuple h
  obtain ⟨its', r', ⟨o', e', _, n', d'⟩, _⟩ := I.tuple h'
  rw [e] at e'; cases e'
  rw [d] at d'
  injection d' with d1 _
  have : its = its' := by simpa using congrArg Array.toList d1
  subst this
  exact r.inj r'
end

/-! ### another wish about exceptions -/
abbrev Cx.wish (X : Cx) (E : Value → Shared → Prop) : Cx := { X with xe := E }
/-- no exception leaves -/
abbrev Cx.nox (X : Cx) : Cx := X.wish fun _ _ => False
theorem Cx.Ok.wish {X : Cx} (ok : X.Ok) (E : Value → Shared → Prop) : (X.wish E).Ok :=
  ⟨ok.mod, ok.kind, ok.glob, ok.blt, ok.above, ok.inj, ok.has, ok.cab, ok.hd, ok.frames, ok.stk, ok.exf, ok.bs, ok.bsz, ok.noex, ok.exfs, ok.funs, ok.frf⟩
theorem Cx.Ok.unwish {X : Cx} {E : Value → Shared → Prop} (ok : (X.wish E).Ok) : X.Ok :=
  ⟨ok.mod, ok.kind, ok.glob, ok.blt, ok.above, ok.inj, ok.has, ok.cab, ok.hd, ok.frames, ok.stk, ok.exf, ok.bs, ok.bsz, ok.noex, ok.exfs, ok.funs, ok.frf⟩
section
variable {X : Cx} {pins : List (Addr × Obj)} {σ : St} {H : Hp} {s : Shared} {E : Value → Shared → Prop}
theorem Inv.wish (I : Inv X pins σ H s) (E : Value → Shared → Prop) : Inv (X.wish E) pins σ H s := ⟨I.ok.wish E, I.os, I.bare, I.base, I.loc, I.cell, I.free, I.freeC, I.pin, I.hok, I.len⟩
theorem Inv.unwish (I : Inv (X.wish E) pins σ H s) : Inv X pins σ H s := ⟨I.ok.unwish, I.os, I.bare, I.base, I.loc, I.cell, I.free, I.freeC, I.pin, I.hok, I.len⟩
theorem SP.unwish {D : Ends} {f : Flow} {s' : Shared} (h : SP (X.wish E) pins D f s') : SP X pins D f s' := by
  cases f with
  | next => obtain ⟨σ', H', I, q⟩ := h; exact ⟨σ', H', I.unwish, q⟩
  | brk => obtain ⟨σ', H', I, q⟩ := h; exact ⟨σ', H', I.unwish, q⟩
  | cont => obtain ⟨σ', H', I, q⟩ := h; exact ⟨σ', H', I.unwish, q⟩
  | ret u => obtain ⟨v, σ', H', I, r, q⟩ := h; exact ⟨v, σ', H', I.unwish, r, q⟩
theorem PSs.nox {st : List Stmt} {t : TS} (h : PSs X.nox st t) : PSs X st t := fun pins s σ H D I hw =>
  wpAny_mono (h pins s σ H D (I.wish _) hw) (fun _ _ q => q.unwish) fun _ _ z => False.elim z
end

/-! ### blocks and small statements -/
section
variable {X : Cx} {st : Stmt} {rest : List Stmt} {t u : TS} {e : Expr} {te : TE} {pos : Pos}
def tNext : TS := fun D σ H => D.nx σ H
def tSeq (t u : TS) : TS := fun D σ H => t { D with nx := u D } σ H
theorem pss_nil : PSs X [] tNext := fun _ _ σ H _ I h => wpAny_execs_nil ⟨σ, H, I, h⟩
theorem pss_cons (h1 : PS X st t) (h2 : PSs X rest u) : PSs X (st :: rest) (tSeq t u) := by
  intro pins s σ H D I h
  refine wpAny_execs_cons (thn (h1 pins s σ H { D with nx := u D } I h) fun f s1 q => ?_)
  cases f with
  | next =>
    obtain ⟨σ', H', I', q⟩ := q
    exact h2 pins s1 σ' H' D I' q
  | ret v => exact q
  | brk => exact q
  | cont => exact q
theorem pss_one (h1 : PS X st t) : PSs X [st] t := by
  intro pins s σ H D I h
  refine wpAny_execs_cons (thn (h1 pins s σ H D I h) fun f s1 q => ?_)
  cases f with
  | next => exact wpAny_execs_nil q
  | ret v => exact q
  | brk => exact q
  | cont => exact q
def tBreak : TS := fun D σ H => D.bk σ H
theorem ps_break : PS X (.Break pos) tBreak := fun _ _ σ H _ I h => wpAny_Break ⟨σ, H, I, h⟩
/-- in a def's body nothing is shown -/
theorem Inv.quiet {pins : List (Addr × Obj)} {σ : St} {H : Hp} {s : Shared} (I : Inv X pins σ H s) : interactive X.env = false := by simp [interactive, I.ok.kind]
/-- an expression whose value is dropped -/
def tDrop (te : TE) : TS := fun D σ H => te σ H fun _ H1 => D.nx σ H1
theorem ps_expr (he : PE X e te) (hs : swapsWith e none pos.line X.env = pure false := by rfl) : PS X (.Expr e pos) (tDrop te) := by
  intro pins s σ H D I h
  exact wpAny_Expr_any (thn (he pins s σ H _ I h) fun v s1 ⟨x, H1, I1, r1, q1⟩ => ⟨σ, H1, I1, q1⟩) I.quiet hs
def tRet (te : TE) : TS := fun D σ H => te σ H D.rt
theorem ps_ret (he : PE X e te) : PS X (.Return (some e) pos) (tRet te) := by
  intro pins s σ H D I h
  exact wpAny_Return_some (thn (he pins s σ H _ I h) fun v s1 ⟨x, H1, I1, r1, q1⟩ => ⟨x, σ, H1, I1, r1, q1⟩)
def tRetN : TS := fun D _ H => D.rt .non H
theorem ps_retN : PS X (.Return none pos) tRetN := fun _ _ σ H _ I h => wpAny_Return_none ⟨.non, σ, H, I, rfl, h⟩
end

/-! ### targets -/
abbrev TG := V → St → Hp → (St → Hp → Prop) → Prop
abbrev TGs := List V → St → Hp → (St → Hp → Prop) → Prop
def PG (X : Cx) (target : Expr) (t : TG) : Prop :=
  ∀ (pins : List (Addr × Obj)) (s : Shared) (σ : St) (H : Hp) (v : V) (u : Value) (Q : St → Hp → Prop), Inv X pins σ H s → RelV v u → t v σ H Q →
    wpAny (model X.prog X.w) X.A (assign target X.env u) (fun _ s' => ∃ σ' H', Inv X pins σ' H' s' ∧ Q σ' H') X.xe s
/-- several targets, one after another -/
def PGs (X : Cx) (ts : List Expr) (t : TGs) : Prop :=
  ∀ (pins : List (Addr × Obj)) (s : Shared) (σ : St) (H : Hp) (vs : List V) (us : List Value) (Q : St → Hp → Prop), Inv X pins σ H s → Vals vs us → t vs σ H Q →
    wpAny (model X.prog X.w) X.A (assignInOrder ((assignEach ts X.env).map (·.2)) us) (fun _ s' => ∃ σ' H', Inv X pins σ' H' s' ∧ Q σ' H') X.xe s
/-- o[i] = v, by values -/
abbrev TSet := V → V → V → Hp → (Hp → Prop) → Prop
def PSet (X : Cx) (t : TSet) : Prop :=
  ∀ (pins : List (Addr × Obj)) (s : Shared) (σ : St) (H : Hp) (o i v : V) (ov iv u : Value) (Q : Hp → Prop), Inv X pins σ H s → RelV o ov → RelV i iv → RelV v u → t o i v H Q →
    wpAny (model X.prog X.w) X.A (setItem ov iv u) (fun _ s' => ∃ H', Inv X pins σ H' s' ∧ Q H') X.xe s
/-- a op= b, by values -/
abbrev TIp := V → V → Hp → VK → Prop
def PIp (X : Cx) (op : Operator) (t : TIp) : Prop :=
  ∀ (pins : List (Addr × Obj)) (s : Shared) (σ : St) (H : Hp) (x y : V) (v u : Value) (Q : VK), Inv X pins σ H s → RelV x v → RelV y u → t x y H Q →
    wpAny (model X.prog X.w) X.A (inplaceOp op v u) (EP X pins σ Q) X.xe s
section
variable {X : Cx} {pos : Pos}
def gName (i : Nat) : TG := fun v σ H Q => Q (σ.set i (some v)) H
theorem pg_name {i : Nat} {x : Str} (hN : X.N.Nodup) (hi : X.N[i]? = some x) (hx : Loc X.env.scope x) (hf : X.fn x = true ∨ X.env.scope.names.lookup x = some .local := by first | exact .inl rfl | exact .inr rfl | assumption) : PG X (.Name x pos) (gName i) := by
  intro pins s σ H v u Q I r h
  exact wpAny_assign_Name (store_ok I hN hi hx r (fun s' I' => ⟨_, H, I', h⟩) hf)
def gNil : TGs := fun vs σ H Q => vs = [] ∧ Q σ H
def gCons (t : TG) (u : TGs) : TGs := fun vs σ H Q => ∃ v r, vs = v :: r ∧ t v σ H fun σ' H' => u r σ' H' Q
theorem pgs_nil : PGs X [] gNil := by
  intro pins s σ H vs us Q I r h
  obtain ⟨e, h⟩ := h
  subst e
  cases r
  exact assignInOrder_nil ⟨σ, H, I, h⟩
theorem pgs_cons {e : Expr} {es : List Expr} {t : TG} {u : TGs} (h1 : PG X e t) (h2 : PGs X es u)
    (hs : (assignEach (e :: es) X.env).map (·.2) = assign e X.env :: (assignEach es X.env).map (·.2) := by rfl) : PGs X (e :: es) (gCons t u) := by
  intro pins s σ H vs us Q I r h
  obtain ⟨v, vr, e1, h⟩ := h
  subst e1
  cases r with
  | cons r rr =>
    rw [hs]
    refine assignInOrder_cons (thn (h1 pins s σ H _ _ _ I r h) fun _ s1 ⟨σ1, H1, I1, q1⟩ => ?_)
    exact h2 pins s1 σ1 H1 _ _ Q I1 rr q1
/-- (a, b, ..) = a tuple of that length -/
def gTup (K : PySem.W.Frag) (n : Nat) (t : TGs) : TG := fun v σ H Q => ∃ a xs, v = .ref a ∧ SqT K H a xs ∧ xs.length = n ∧ t xs σ H Q
theorem pg_tup {es : List Expr} {k : Nat} {t : TGs} {n : Nat} (hc : X.calm = true) (h : PGs X es t)
    (hn : (assignEach es X.env).length = n := by rfl) (hst : (assignEach es X.env).findIdx? (·.1) = none := by rfl) : PG X (.Tuple es k pos) (gTup X.K n t) := by
  intro pins s σ H v u Q I r hw
  obtain ⟨a, xs, e1, hq, hl, hw⟩ := hw
  subst e1
  cases r
  obtain ⟨its, rv, ht, hz⟩ := I.tuple hq
  refine assign_Tuple_tuple (I.ok.hd hc) ht (by simp [hn, ← hl, rv.length]) hst fun h' hx => ?_
  have I1 : Inv X pins σ H { s with heap := h' } := I.kept (t' := s.toks) fun b o e => hx b o (Nat.ne_of_lt (Heap.lt_size e)) e
  exact h pins _ σ H xs _ Q I1 (by simpa using rv) hw
/-- o[i] = .. -/
def gSub (to ti : TE) (t : TSet) : TG := fun v σ H Q => to σ H fun o H1 => ti σ H1 fun i H2 => t o i v H2 fun H3 => Q σ H3
theorem pg_sub {o i : Expr} {to ti : TE} {t : TSet} (ho : PE X o to) (hi : PE X i ti) (hs : PSet X t)
    (ha : ∀ v, assign (.Subscript o i pos) X.env v = (do
      let ov ← holding [v] (eval o X.env)
      let iv ← holding [v, ov] (eval i X.env)
      standAt pos
      holding [v, ov, iv] (setItem ov iv v)
      release [v, ov, iv] []) := by intro _; rfl) : PG X (.Subscript o i pos) (gSub to ti t) := by
  intro pins s σ H v u Q I r h
  rw [ha]
  refine wpAny_bind (wpAny_holding (thn (ho pins s σ H _ I h) fun ov s1 ⟨x, H1, I1, r1, q1⟩ => ?_))
  refine wpAny_bind (wpAny_holding (thn (hi pins s1 σ H1 _ I1 q1) fun iv s2 ⟨y, H2, I2, r2, q2⟩ => ?_))
  refine wpAny_bind (wpAny_standAt (wpAny_bind (wpAny_holding (thn (hs pins s2 σ H2 x y v ov iv u _ I2 r1 r2 r q2) fun _ s3 ⟨H3, I3, q3⟩ => ?_))))
  exact wpAny_release ⟨σ, H3, I3, q3⟩
/-- target = value -/
def tAsg (te : TE) (g : TG) : TS := fun D σ H => te σ H fun x H1 => g x σ H1 D.nx
theorem ps_asg {tg e : Expr} {te : TE} {g : TG} (he : PE X e te) (hg : PG X tg g) (hs : swapsWithSole [tg] e pos.line X.env = pure false := by rfl) (hw : swappedStores [tg] e X.env = pure none := by rfl)
    (h1 : (assignEach [tg] X.env).map (·.2) = [assign tg X.env] := by rfl) : PS X (.Assign [tg] e pos) (tAsg te g) := by
  intro pins s σ H D I h
  refine wpAny_Assign_stores (thn (he pins s σ H _ I h) fun v s1 ⟨x, H1, I1, r1, q1⟩ => ?_) hs hw
  rw [h1]
  exact thn (hg pins s1 σ H1 x v _ I1 r1 q1) fun _ s2 q => q
/-- name = value -/
theorem ps_set {i : Nat} {x : Str} {e : Expr} {te : TE} {pos' : Pos} (hN : X.N.Nodup) (hi : X.N[i]? = some x) (hx : Loc X.env.scope x) (he : PE X e te) (hs : swapsWith e (some (.Name x pos')) pos.line X.env = pure false := by rfl) (hf : X.fn x = true ∨ X.env.scope.names.lookup x = some .local := by first | exact .inl rfl | exact .inr rfl | assumption) :
    PS X (.Assign [.Name x pos'] e pos) (tAsg te (gName i)) := by
  intro pins s σ H D I h
  refine wpAny_Assign_Name (thn (he pins s σ H _ I h) fun v s1 ⟨y, H1, I1, r1, q1⟩ => ?_) hs
  exact store_ok I1 hN hi hx r1 (fun s2 I2 => ⟨_, H1, I2, q1⟩) hf
/-- name op= e -/
def tAug (i : Nat) (te : TE) (ti : TIp) : TS := fun D σ H => ∃ x, σ[i]? = some (some x) ∧ te σ H fun y H1 => ti x y H1 fun z H2 => D.nx (σ.set i (some z)) H2
theorem ps_aug {i : Nat} {x : Str} {e : Expr} {te : TE} {op : Operator} {ti : TIp} {pos' : Pos} (hN : X.N.Nodup) (hi : X.N[i]? = some x) (hx : Loc X.env.scope x) (he : PE X e te) (ho : PIp X op ti) (hf : X.fn x = true ∨ X.env.scope.names.lookup x = some .local := by first | exact .inl rfl | exact .inr rfl | assumption) :
    PS X (.AugAssign (.Name x pos') op e pos) (tAug i te ti) := by
  intro pins s σ H D I h
  obtain ⟨v, e1, h⟩ := h
  obtain ⟨m, hn, hl⟩ := I.loc
  have vis : Vis X.env.scope x := by rcases hx with k | k; exact .inl k; exact .inr (.inl k)
  obtain ⟨u, r, l⟩ := hl i x v hi e1 vis
  refine wpAny_AugAssign_Name ?_
  have go : wpAny (model X.prog X.w) X.A (eval e X.env) (fun w s₂ => wpAny (model X.prog X.w) X.A (inplaceOp op u w) (fun r s₃ => wpAny (model X.prog X.w) X.A (storeName X.env x r) (fun _ => SP X pins D .next) X.xe s₃) X.xe s₂) X.xe s := by
    refine thn (he pins s σ H _ I h) fun w s1 ⟨y, H1, I1, r1, q1⟩ => ?_
    refine thn (ho pins s1 σ H1 v y u w _ I1 r r1 q1) fun z s2 ⟨zv, H2, I2, r2, q2⟩ => ?_
    exact store_ok I2 hN hi hx r2 (fun s3 I3 => ⟨_, H2, I3, q2⟩) hf
  rcases l with ⟨hk, hm⟩ | ⟨hk, c, hc, hcell⟩
  · exact wpAny_loadName_local I.ok.kind hk hn hm go
  · rcases hk with hk | hk
    · exact wpAny_loadName_cell I.ok.kind hk hc hcell go
    · rcases hx with k | k
      · have : X.env.scope.names.lookup x = some .free := hk
        rw [k] at this; cases this
      · have : X.env.scope.names.lookup x = some .free := hk
        rw [k] at this; cases this
/-- ints -/
def ipI (f : Int → Int → Int) : TIp := fun x y H Q => ∃ i j, x = .int i ∧ y = .int j ∧ Q (.int (f i j)) H
theorem ip_add : PIp X .Add (ipI fun i j => i + j) := by
  intro pins s σ H x y v u Q I r1 r2 h
  obtain ⟨i, j, e1, e2, q⟩ := h
  subst e1; subst e2
  obtain ⟨t, rfl⟩ := r1
  obtain ⟨t', rfl⟩ := r2
  exact iadd_int ⟨.int _, H, I.tok _, ⟨_, rfl⟩, q⟩
end

/-! ### while -/
section
variable {X : Cx} {pos : Pos}
end

/-! ### what a loop or a comprehension walks -/
/-- at turn i: it yields x (the heap may grow), or it stops -/
structure It where
  go : Nat → Hp → Prop
  yld : Nat → Hp → V → Hp → Prop
  stop : Nat → Hp → Prop
/-- the iterator's own objects may turn: they are not the frame's, not pinned, younger than the entry (or a comprehension's own) -/
def FpOk (X : Cx) (pins : List (Addr × Obj)) (H : Hp) (b : Addr) : Prop :=
  H b = none ∧ b ≠ X.env.locals ∧ b ∉ X.fs ∧ (b ∈ X.ex ∨ X.s₀.heap.objs.size ≤ b) ∧ (∀ x c, X.env.cells.lookup x = some c → c ≠ b) ∧ ∀ p ∈ X.pn ++ pins, p.1 ≠ b
theorem Inv.fpOk {X : Cx} {pins : List (Addr × Obj)} {σ : St} {H H' : Hp} {s : Shared} {b : Addr} (I : Inv X pins σ H s) (hb : s.heap.objs.size ≤ b) (hn : H' b = none) : FpOk X pins H' b := by
  refine ⟨hn, Nat.ne_of_gt (Nat.lt_of_lt_of_le I.lt hb), I.nofs hb, .inr (Nat.le_trans I.sz hb), fun x c e z => ?_, fun p hp z => ?_⟩
  · obtain ⟨v, q⟩ := I.cell x c e
    exact absurd (Nat.lt_of_lt_of_le q.lt (by rw [z]; exact hb)) (Nat.lt_irrefl _)
  · exact absurd (Nat.lt_of_lt_of_le (Heap.lt_size (I.pin p hp).1) (by rw [z]; exact hb)) (Nat.lt_irrefl _)
structure Turn (P : Program) (w : World) (K : PySem.W.Frag) (tg : Expr) (J : It) (fp : List Addr) (it : Addr) (tn : Nat → Heap → Prop) : Prop where
  mem : it ∈ fp
  obj : ∀ i h, tn i h → ∀ b ∈ fp, ∃ o, h.get? b = some o ∧ ∀ v, o.data ≠ .cell v
  keep : ∀ i h h', tn i h → (∀ b ∈ fp, ∀ o, h.get? b = some o → h'.get? b = some o) → tn i h'
  item : ∀ (X : Cx), X.prog = P → X.w = w → X.K = K → X.calm = true → ∀ (i : Nat) (pins : List (Addr × Obj)) (s : Shared) (σ : St) (H : Hp) (E : Value → Shared → Prop), Inv X pins σ H s → (∀ b ∈ fp, FpOk X pins H b) → tn i s.heap → J.go i H →
    wpAny (model P w) X.A (pyNext (.ref it)) (fun r s1 => ∃ u, r = some u ∧
      wpAny (model P w) X.A (letOwnedTupleGo tg (.ref it) u) (fun _ s2 => ∃ x H', Inv X pins σ H' s2 ∧ RelV x u ∧ J.yld i H x H' ∧ tn (i + 1) s2.heap ∧ ∀ b ∈ fp, H' b = none) E s1) E s
  done : ∀ (X : Cx), X.prog = P → X.w = w → X.K = K → X.calm = true → ∀ (i : Nat) (pins : List (Addr × Obj)) (s : Shared) (σ : St) (H : Hp) (E : Value → Shared → Prop), Inv X pins σ H s → (∀ b ∈ fp, FpOk X pins H b) → tn i s.heap → J.stop i H →
    wpAny (model P w) X.A (pyNext (.ref it)) (fun r s1 => r = none ∧ Inv X pins σ H s1) E s
  self : ∀ (A : Around) (i : Nat) (s : Shared) (Q : Value → Shared → Prop) (E : Value → Shared → Prop), tn i s.heap → Q (.ref it) s → wpAny (model P w) A (pyIter (.ref it)) Q E s
abbrev TI := St → Hp → (It → Hp → Prop) → Prop
/-- an iterator has come -/
def PIE (X : Cx) (pins : List (Addr × Obj)) (σ : St) (tg : Expr) (R : It → Hp → Prop) (itv : Value) (s2 : Shared) : Prop :=
  ∃ (it : Addr) (fp : List Addr) (tn : Nat → Heap → Prop) (J : It) (H' : Hp), itv = .ref it ∧ Inv X pins σ H' s2 ∧ Turn X.prog X.w X.K tg J fp it tn ∧ tn 0 s2.heap ∧ (∀ b ∈ fp, FpOk X pins H' b) ∧ R J H'
def PI (X : Cx) (tg iter : Expr) (wi : TI) : Prop :=
  ∀ (pins : List (Addr × Obj)) (s : Shared) (σ : St) (H : Hp) (R : It → Hp → Prop), Inv X pins σ H s → wi σ H R →
    wpAny (model X.prog X.w) X.A (eval iter X.env) (fun v s1 => wpAny (model X.prog X.w) X.A (pyIter v) (PIE X pins σ tg R) X.xe s1) X.xe s

/-- the step ahead of the store is nothing for an iterator that keeps no tuple -/
theorem go_of {M : Model} {A : Around} {E : Value → Shared → Prop} {s : Shared} {tg : Expr} {it : Addr} {u : Value} {o : Obj} {n : String} {vs : Array Value} {Q : Unit → Shared → Prop} (ho : s.heap.get? it = some o) (hc : o.cls = .type n) (hd : o.data = .fields vs)
    (hn : ["enumerate", "zip", "dict_itemiterator", "dict_reverseitemiterator", "odict_iterator", "itertools.zip_longest", "itertools.pairwise"].contains n = false) (hQ : Q () s) : wpAny M A (letOwnedTupleGo tg (.ref it) u) Q E s := by
  unfold letOwnedTupleGo
  cases tg <;> first
    | exact wpAny_pure hQ
    | (cases u <;> first
        | exact wpAny_pure hQ
        | (refine wpAny_bind (wpAny_load ho ?_)
           rw [hc, hd]
           show wpAny M A (if (["enumerate", "zip", "dict_itemiterator", "dict_reverseitemiterator", "odict_iterator", "itertools.zip_longest", "itertools.pairwise"].contains n && vs[0]? == some (rawInt _)) = true then _ else _) Q E s
           rw [if_neg (by intro h; rw [hn, Bool.false_and] at h; cases h)]
           exact wpAny_pure hQ))

/-- the list at a, as it stands at each turn (a loop may append to it) -/
def Itl (K : PySem.W.Frag) (a : Addr) : It :=
  ⟨fun i H => ∃ xs x, SqL K H a xs ∧ xs[i]? = some x, fun i H x H' => H' = H ∧ ∀ xs, SqL K H a xs → xs[i]? = some x, fun i H => ∃ xs, SqL K H a xs ∧ xs.length ≤ i⟩
def Itt (K : PySem.W.Frag) (a : Addr) : It :=
  ⟨fun i H => ∃ xs x, SqT K H a xs ∧ xs[i]? = some x, fun i H x H' => H' = H ∧ ∀ xs, SqT K H a xs → xs[i]? = some x, fun i H => ∃ xs, SqT K H a xs ∧ xs.length ≤ i⟩
/-- lo, lo + 1, .. (n of them) -/
def Itr (lo : Int) (n : Nat) : It := ⟨fun i _ => i < n, fun i H x H' => H' = H ∧ x = .int (lo + i), fun i _ => n ≤ i⟩
theorem turn_list {P : Program} {w : World} {K : PySem.W.Frag} {tg : Expr} (a it : Addr) : Turn P w K tg (Itl K a) [it] it (fun i h => h.IsListIter it a i) where
  mem := by simp
  obj := fun i h st b hb => by
    have e : b = it := by simpa using hb
    subst e
    obtain ⟨o, e, c, d⟩ := st
    exact ⟨o, e, fun v z => by rw [d] at z; cases z⟩
  keep := fun i h h' st k => st.at fun o e => k it (by simp) o e
  item := by
    intro X hP hw hK hc i pins s σ H E I hf st hg
    subst hP hw hK
    obtain ⟨xs, x, hq, hx⟩ := hg
    obtain ⟨its, rv, p, hz⟩ := I.list hq
    obtain ⟨u, hu, ru⟩ := rv.get hx
    obtain ⟨f0, f1, f2, f3, f4, f5⟩ := hf it (by simp)
    refine wpAny_pyNext_list_item st p.isList (x := u) (by simpa using hu) fun h' st' sb => ?_
    have I1 : Inv X pins σ H { s with heap := h' } := I.turned (t' := s.toks) (fun b o hb e => (sb.2 b hb).trans e) f0 f1 f3 f4 f5
    obtain ⟨o, e, c, d⟩ := id st'
    exact ⟨u, rfl, go_of (s := { s with heap := h' }) e c d (by decide) ⟨x, H, I1, ru, ⟨rfl, fun ys hy => by rw [I.list_inj hy hq]; exact hx⟩, st', fun b hb => (hf b hb).1⟩⟩
  done := by
    intro X hP hw hK hc i pins s σ H E I hf st hg
    subst hP hw hK
    obtain ⟨xs, hq, hx⟩ := hg
    obtain ⟨its, rv, p, hz⟩ := I.list hq
    obtain ⟨f0, f1, f2, f3, f4, f5⟩ := hf it (by simp)
    have hl := rv.length
    exact wpAny_pyNext_list_end (I.ok.hd hc) st p.isList (by simp; omega) fun h' eb => ⟨rfl, I.turned (t' := s.toks) (fun b o hb e => eb b o hb e) f0 f1 f3 f4 f5⟩
  self := fun _ _ _ _ _ st h => wpAny_pyIter_listiter st h
theorem turn_tuple {P : Program} {w : World} {K : PySem.W.Frag} {tg : Expr} (a it : Addr) : Turn P w K tg (Itt K a) [it] it (fun i h => h.IsTupleIter it a i) where
  mem := by simp
  obj := fun i h st b hb => by
    have e : b = it := by simpa using hb
    subst e
    obtain ⟨o, e, c, d⟩ := st
    exact ⟨o, e, fun v z => by rw [d] at z; cases z⟩
  keep := fun i h h' st k => st.at fun o e => k it (by simp) o e
  item := by
    intro X hP hw hK hc i pins s σ H E I hf st hg
    subst hP hw hK
    obtain ⟨xs, x, hq, hx⟩ := hg
    obtain ⟨its, rv, p, hz⟩ := I.tuple hq
    obtain ⟨u, hu, ru⟩ := rv.get hx
    obtain ⟨f0, f1, f2, f3, f4, f5⟩ := hf it (by simp)
    refine wpAny_pyNext_tuple_item st (show s.heap.IsTuple a its.toArray from p) (x := u) (by simpa using hu) fun h' st' sb => ?_
    have I1 : Inv X pins σ H { s with heap := h' } := I.turned (t' := s.toks) (fun b o hb e => (sb.2 b hb).trans e) f0 f1 f3 f4 f5
    obtain ⟨o, e, c, d⟩ := id st'
    exact ⟨u, rfl, go_of (s := { s with heap := h' }) e c d (by decide) ⟨x, H, I1, ru, ⟨rfl, fun ys hy => by rw [I.tuple_inj hy hq]; exact hx⟩, st', fun b hb => (hf b hb).1⟩⟩
  done := by
    intro X hP hw hK hc i pins s σ H E I hf st hg
    subst hP hw hK
    obtain ⟨xs, hq, hx⟩ := hg
    obtain ⟨its, rv, p, hz⟩ := I.tuple hq
    obtain ⟨f0, f1, f2, f3, f4, f5⟩ := hf it (by simp)
    have hl := rv.length
    exact wpAny_pyNext_tuple_end (I.ok.hd hc) st (show s.heap.IsTuple a its.toArray from p) (by simp; omega) fun h' eb => ⟨rfl, I.turned (t' := s.toks) (fun b o hb e => eb b o hb e) f0 f1 f3 f4 f5⟩
  self := fun _ _ _ _ _ st h => wpAny_pyIter_tupleiter st h
theorem turn_range {P : Program} {w : World} {K : PySem.W.Frag} {tg : Expr} (it : Addr) (lo : Int) (n : Nat) : Turn P w K tg (Itr lo n) [it] it (fun i h => IsRangeIter h it (lo + (i : Nat) * 1) ((n : Int) - (i : Nat)) 1) where
  mem := by simp
  obj := fun i h st b hb => by
    have e : b = it := by simpa using hb
    subst e
    exact ⟨_, st, fun v z => by
      have z' : Data.fields _ = Data.cell v := z
      cases z'⟩
  keep := fun i h h' st k => k it (by simp) _ st
  item := by
    intro X hP hw hK hc i pins s σ H E I hf st hg
    subst hP hw hK
    obtain ⟨f0, f1, f2, f3, f4, f5⟩ := hf it (by simp)
    have W := Walks.range (prog := X.prog) (w := X.w) (I.ok.hd hc) it lo 1 n
    refine W.item i s _ _ hg st fun v h' tk hv st' kk => ?_
    obtain ⟨t, rfl⟩ := hv
    have I1 : Inv X pins σ H { s with heap := h', toks := tk } := I.turned (fun b o hb e => kk b o (by simpa using hb) e) f0 f1 f3 f4 f5
    refine ⟨_, rfl, go_of (s := { s with heap := h', toks := tk }) (n := "range_iterator") st' rfl rfl (by decide) ⟨.int (lo + i), H, I1, ⟨t, ?_⟩, ⟨rfl, rfl⟩, st', fun b hb => (hf b hb).1⟩⟩
    rw [Int.mul_one]
  done := by
    intro X hP hw hK hc i pins s σ H E I hf st hg
    subst hP hw hK
    obtain ⟨f0, f1, f2, f3, f4, f5⟩ := hf it (by simp)
    exact wpAny_pyNext_range_end (I.ok.hd hc) st (by have : n ≤ i := hg; omega) fun h' eb => ⟨rfl, I.turned (t' := s.toks) (fun b o hb e => eb b o hb e) f0 f1 f3 f4 f5⟩
  self := fun _ _ _ _ _ st h => wpAny_pyIter_rangeiter st h
end L2

namespace L2
open PySem PySem.Spec PyProof.Rows
section
variable {X : Cx} {tg : Expr}
/-- a range object just made, walked -/
theorem range_it {pins : List (Addr × Obj)} {σ : St} {H : Hp} {s : Shared} {R : It → Hp → Prop} {E : Value → Shared → Prop} {lo hi : Int} {t u v : Tok} {tk : Nat} (I : Inv X pins σ H s) (h1 : -(2 ^ 62) ≤ lo) (h2 : lo < 2 ^ 62) (h3 : -(2 ^ 62) ≤ hi) (h4 : hi < 2 ^ 62)
    (q : R (Itr lo (hi - lo).toNat) H) : wpAny (model X.prog X.w) X.A (pyIter (.ref s.heap.objs.size)) (PIE X pins σ tg R) E { s with heap := s.heap.push { cls := .type "range", data := .fields #[.int lo t, .int hi u, .int 1 v] }, toks := tk } := by
  refine wpAny_pyIter_range (IsRange.new ..) (small_one h1 h2 h3 h4) ?_
  have I1 : Inv X pins σ H { s with heap := s.heap.push { cls := .type "range", data := .fields #[.int lo t, .int hi u, .int 1 v] }, toks := tk } := I.kept fun b o e => Heap.get?_push_of_some _ e
  refine ⟨(s.heap.push { cls := .type "range", data := .fields #[.int lo t, .int hi u, .int 1 v] }).objs.size, [(s.heap.push { cls := .type "range", data := .fields #[.int lo t, .int hi u, .int 1 v] }).objs.size], _, _, H, rfl,
    I1.kept (t' := tk) fun b o e => Heap.get?_push_of_some _ e, turn_range _ lo (hi - lo).toNat, ?_, fun b hb => ?_, q⟩
  · have e1 : lo + ((0 : Nat) : Int) * 1 = lo := by simp
    have e2 : (((hi - lo).toNat : Nat) : Int) - ((0 : Nat) : Int) = Builtin.Range.rangeSize lo hi 1 := by rw [rangeSize_one]; split <;> omega
    show IsRangeIter _ _ (lo + ((0 : Nat) : Int) * 1) ((((hi - lo).toNat : Nat) : Int) - ((0 : Nat) : Int)) 1
    rw [e1, e2]
    exact Heap.get?_push_size _ rfl
  · have e : b = (s.heap.push { cls := .type "range", data := .fields #[.int lo t, .int hi u, .int 1 v] }).objs.size := by simpa using hb
    subst e
    exact I1.fpOk (Nat.le_refl _) (I1.hok.fresh (Nat.le_refl _))
/-! ### for -/
/-- W: the invariant by the turn and a measure; N: what the body is to reach -/
def tFor (wi : TI) (g : TG) (tb : TS) : TS := fun D σ H => wi σ H fun J H1 => ∃ W : Nat → Nat → St → Hp → Prop, (∃ m, W 0 m σ H1) ∧ ∀ i m σ H, W i m σ H →
  (J.stop i H ∧ D.nx σ H) ∨ (J.go i H ∧ ∃ N : St → Hp → Prop, (∀ σ' H', N σ' H' → ∃ m', m' < m ∧ W (i + 1) m' σ' H') ∧ ∀ x H', J.yld i H x H' → g x σ H' fun σ2 H2 => tb { D with nx := N, ct := N, bk := D.nx } σ2 H2)
/-- the records at fp as they stand -/
def pinsAt (fp : List Addr) (h : Heap) : List (Addr × Obj) := fp.filterMap fun b => (h.get? b).map fun o => (b, o)
theorem mem_pinsAt {fp : List Addr} {h : Heap} {b : Addr} {o : Obj} (hb : b ∈ fp) (e : h.get? b = some o) : (b, o) ∈ pinsAt fp h := List.mem_filterMap.mpr ⟨b, hb, by rw [e]; rfl⟩
theorem of_pinsAt {fp : List Addr} {h : Heap} {p : Addr × Obj} (hp : p ∈ pinsAt fp h) : p.1 ∈ fp ∧ h.get? p.1 = some p.2 := by
  obtain ⟨b, hb, e⟩ := List.mem_filterMap.mp hp
  cases q : h.get? b with
  | none => rw [q] at e; cases e
  | some o =>
    rw [q] at e
    have e' : (b, o) = p := Option.some.inj e
    subst e'
    exact ⟨hb, q⟩
theorem Inv.pinned {pins : List (Addr × Obj)} {σ : St} {H : Hp} {s : Shared} {fp : List Addr} (I : Inv X pins σ H s) (hf : ∀ b ∈ fp, FpOk X pins H b) (ho : ∀ b ∈ fp, ∃ o, s.heap.get? b = some o ∧ ∀ v, o.data ≠ .cell v) : Inv X (pins ++ pinsAt fp s.heap) σ H s :=
  I.pins_of fun p hp => (List.mem_append.mp hp).elim (fun z => I.pin p (List.mem_append_right _ z)) fun z => by
    obtain ⟨hb, e⟩ := of_pinsAt z
    obtain ⟨f0, f1, f2, _⟩ := hf p.1 hb
    obtain ⟨o, e', d⟩ := ho p.1 hb
    rw [e] at e'; cases e'
    exact ⟨e, f0, f1, f2, d⟩
theorem Inv.unpinned {pins pl : List (Addr × Obj)} {σ : St} {H : Hp} {s : Shared} (I : Inv X (pins ++ pl) σ H s) : Inv X pins σ H s := I.pins_of fun p hp => I.pin p (List.mem_append_right _ (List.mem_append_left _ hp))
theorem ps_for {iter : Expr} {body : List Stmt} {wi : TI} {g : TG} {tb : TS} {pos : Pos} (hp : PassesOwn (model X.prog X.w) X.A X.env X.xe) (hc : X.calm = true) (hi : PI X tg iter wi) (hg : PG X tg g) (hb : PSs X body tb)
    (hs : ∀ x, foldedSetIterable iter X.env x = pure x := by intro _; rfl) : PS X (.For tg iter body [] pos) (tFor wi g tb) := by
  intro pins s σ H D I h
  refine wpAny_For (thn (hi pins s σ H _ I h) fun v s1 h1 => thn h1 fun itv s2 h2 => ?_) hs
  obtain ⟨it, fp, tn, J, H2, e, I2, T, st2, f2, W, ⟨m0, w0⟩, turn⟩ := h2
  subst e
  -- what stays true of the iterator's objects through the loop
  have stat : ∀ {H' : Hp}, (∀ b ∈ fp, H' b = none) → ∀ b ∈ fp, FpOk X pins H' b := fun hn b hb => ⟨hn b hb, (f2 b hb).2⟩
  refine codeAny_forLoop_any (fun n s' => ∃ i σ' H', Inv X pins σ' H' s' ∧ tn i s'.heap ∧ (∀ b ∈ fp, H' b = none) ∧ W i n σ' H') ?_ m0 ⟨0, σ, H2, I2, st2, fun b hb => (f2 b hb).1, w0⟩
  rintro n s3 ⟨i, σ3, H3, I3, st3, fr3, w3⟩
  rcases turn i n σ3 H3 w3 with ⟨stop, qn⟩ | ⟨go, N, hN, step⟩
  · refine wpAny_passesOwn hp (thn (T.done X rfl rfl rfl hc i pins s3 σ3 H3 X.xe I3 (stat fr3) st3 stop) fun r s4 ⟨hr, I4⟩ => ?_)
    subst hr
    exact wpAny_execs_nil ⟨σ3, H3, I4, qn⟩
  · refine wpAny_passesOwn hp (thn (T.item X rfl rfl rfl hc i pins s3 σ3 H3 X.xe I3 (stat fr3) st3 go) fun r s4 ⟨u, hr, h4⟩ => ?_)
    subst hr
    refine wpAny_passesOwn hp (thn h4 fun _ s5 ⟨x, H5, I5, r5, y5, st5, fr5⟩ => ?_)
    have I5' := I5.pinned (stat fr5) (T.obj _ _ st5)
    refine wpAny_passesOwn hp (thn (hg _ s5 σ3 H5 x u _ I5' r5 (step x H5 y5)) fun _ s6 ⟨σ6, H6, I6, q6⟩ => ?_)
    refine wpAny_passesOwn hp (thn (hb _ s6 σ6 H6 _ I6 q6) fun f s7 q7 => ?_)
    have again : ∀ {σ7 : St} {H7 : Hp}, Inv X (pins ++ pinsAt fp s5.heap) σ7 H7 s7 → N σ7 H7 → ∃ m, m < n ∧ ∃ i σ' H', Inv X pins σ' H' s7 ∧ tn i s7.heap ∧ (∀ b ∈ fp, H' b = none) ∧ W i m σ' H' := fun {σ7 H7} I7 n7 => by
      obtain ⟨m', hm, w7⟩ := hN σ7 H7 n7
      refine ⟨m', hm, i + 1, σ7, H7, I7.unpinned, T.keep _ _ _ st5 fun b hb o e => (I7.pin (b, o) (List.mem_append_right _ (List.mem_append_right _ (mem_pinsAt hb e)))).1, fun b hb => ?_, w7⟩
      obtain ⟨o, e, d⟩ := T.obj _ _ st5 b hb
      exact (I7.pin (b, o) (List.mem_append_right _ (List.mem_append_right _ (mem_pinsAt hb e)))).2.1
    cases f with
    | next => obtain ⟨σ7, H7, I7, n7⟩ := q7; exact again I7 n7
    | cont => obtain ⟨σ7, H7, I7, n7⟩ := q7; exact again I7 n7
    | brk => obtain ⟨σ7, H7, I7, q7⟩ := q7; exact ⟨σ7, H7, I7.unpinned, q7⟩
    | ret v => obtain ⟨x7, σ7, H7, I7, r7, q7⟩ := q7; exact ⟨x7, σ7, H7, I7.unpinned, r7, q7⟩
end

/-! ### the forms one uses -/
/-- over a list that the body leaves as it is -/
theorem for_list {K : PySem.W.Frag} {a : Addr} {xs : List V} {g : TG} {tb : TS} {D : Ends} {σ : St} {H : Hp} (Pv : Nat → St → Hp → Prop) (h0 : Pv 0 σ H) (hl : ∀ i σ H, i ≤ xs.length → Pv i σ H → SqL K H a xs)
    (hs : ∀ i x σ H, xs[i]? = some x → Pv i σ H → g x σ H fun σ2 H2 => tb { D with nx := Pv (i + 1), ct := Pv (i + 1), bk := D.nx } σ2 H2) (hd : ∀ σ H, Pv xs.length σ H → D.nx σ H) :
    ∃ W : Nat → Nat → St → Hp → Prop, (∃ m, W 0 m σ H) ∧ ∀ i m σ H, W i m σ H →
      ((Itl K a).stop i H ∧ D.nx σ H) ∨ ((Itl K a).go i H ∧ ∃ N : St → Hp → Prop, (∀ σ' H', N σ' H' → ∃ m', m' < m ∧ W (i + 1) m' σ' H') ∧ ∀ x H', (Itl K a).yld i H x H' → g x σ H' fun σ2 H2 => tb { D with nx := N, ct := N, bk := D.nx } σ2 H2) := by
  refine ⟨fun i m σ H => m = xs.length - i ∧ i ≤ xs.length ∧ Pv i σ H, ⟨xs.length, by simp, Nat.zero_le _, h0⟩, ?_⟩
  rintro i m σ H ⟨rfl, hi, p⟩
  have q := hl i σ H hi p
  by_cases hlt : i < xs.length
  · refine .inr ⟨⟨xs, xs[i], q, by simp [hlt]⟩, Pv (i + 1), fun σ' H' p' => ⟨xs.length - (i + 1), by omega, rfl, hlt, p'⟩, fun x H' y => ?_⟩
    obtain ⟨e, y⟩ := y
    subst e
    exact hs i x σ _ (y xs q) p
  · have e : i = xs.length := by omega
    subst e
    exact .inl ⟨⟨xs, q, Nat.le_refl _⟩, hd σ H p⟩
theorem for_tup {K : PySem.W.Frag} {a : Addr} {xs : List V} {g : TG} {tb : TS} {D : Ends} {σ : St} {H : Hp} (Pv : Nat → St → Hp → Prop) (h0 : Pv 0 σ H) (hl : ∀ i σ H, i ≤ xs.length → Pv i σ H → SqT K H a xs)
    (hs : ∀ i x σ H, xs[i]? = some x → Pv i σ H → g x σ H fun σ2 H2 => tb { D with nx := Pv (i + 1), ct := Pv (i + 1), bk := D.nx } σ2 H2) (hd : ∀ σ H, Pv xs.length σ H → D.nx σ H) :
    ∃ W : Nat → Nat → St → Hp → Prop, (∃ m, W 0 m σ H) ∧ ∀ i m σ H, W i m σ H →
      ((Itt K a).stop i H ∧ D.nx σ H) ∨ ((Itt K a).go i H ∧ ∃ N : St → Hp → Prop, (∀ σ' H', N σ' H' → ∃ m', m' < m ∧ W (i + 1) m' σ' H') ∧ ∀ x H', (Itt K a).yld i H x H' → g x σ H' fun σ2 H2 => tb { D with nx := N, ct := N, bk := D.nx } σ2 H2) := by
  refine ⟨fun i m σ H => m = xs.length - i ∧ i ≤ xs.length ∧ Pv i σ H, ⟨xs.length, by simp, Nat.zero_le _, h0⟩, ?_⟩
  rintro i m σ H ⟨rfl, hi, p⟩
  have q := hl i σ H hi p
  by_cases hlt : i < xs.length
  · refine .inr ⟨⟨xs, xs[i], q, by simp [hlt]⟩, Pv (i + 1), fun σ' H' p' => ⟨xs.length - (i + 1), by omega, rfl, hlt, p'⟩, fun x H' y => ?_⟩
    obtain ⟨e, y⟩ := y
    subst e
    exact hs i x σ _ (y xs q) p
  · have e : i = xs.length := by omega
    subst e
    exact .inl ⟨⟨xs, q, Nat.le_refl _⟩, hd σ H p⟩
theorem for_range {lo : Int} {n : Nat} {g : TG} {tb : TS} {D : Ends} {σ : St} {H : Hp} (Pv : Nat → St → Hp → Prop) (h0 : Pv 0 σ H)
    (hs : ∀ i σ H, i < n → Pv i σ H → g (.int (lo + i)) σ H fun σ2 H2 => tb { D with nx := Pv (i + 1), ct := Pv (i + 1), bk := D.nx } σ2 H2) (hd : ∀ σ H, Pv n σ H → D.nx σ H) :
    ∃ W : Nat → Nat → St → Hp → Prop, (∃ m, W 0 m σ H) ∧ ∀ i m σ H, W i m σ H →
      ((Itr lo n).stop i H ∧ D.nx σ H) ∨ ((Itr lo n).go i H ∧ ∃ N : St → Hp → Prop, (∀ σ' H', N σ' H' → ∃ m', m' < m ∧ W (i + 1) m' σ' H') ∧ ∀ x H', (Itr lo n).yld i H x H' → g x σ H' fun σ2 H2 => tb { D with nx := N, ct := N, bk := D.nx } σ2 H2) := by
  refine ⟨fun i m σ H => m = n - i ∧ i ≤ n ∧ Pv i σ H, ⟨n, by simp, Nat.zero_le _, h0⟩, ?_⟩
  rintro i m σ H ⟨rfl, hi, p⟩
  by_cases hlt : i < n
  · refine .inr ⟨hlt, Pv (i + 1), fun σ' H' p' => ⟨n - (i + 1), by omega, rfl, hlt, p'⟩, fun x H' y => ?_⟩
    obtain ⟨e, y⟩ := y
    subst e y
    exact hs i σ _ hlt p
  · have e : i = n := by omega
    subst e
    exact .inl ⟨Nat.le_refl _, hd σ H p⟩
end L2

namespace L2
open PySem PySem.Spec PyProof.Rows

abbrev R2 := V → V → Hp → VK → Prop
/-- a two-place operation on values: f is binaryOp op, inplaceOp op or compareOp op -/
def OpR (X : Cx) (f : Value → Value → Sem Value) (r : R2) : Prop :=
  ∀ (pins : List (Addr × Obj)) (s : Shared) (σ : St) (H : Hp) (x y : V) (v u : Value) (Q : VK), Inv X pins σ H s → RelV x v → RelV y u → r x y H Q →
    wpAny (model X.prog X.w) X.A (f v u) (EP X pins σ Q) X.xe s
/-- a one-place operation -/
def UnR (X : Cx) (f : Value → Sem Value) (r : V → Hp → VK → Prop) : Prop :=
  ∀ (pins : List (Addr × Obj)) (s : Shared) (σ : St) (H : Hp) (x : V) (v : Value) (Q : VK), Inv X pins σ H s → RelV x v → r x H Q →
    wpAny (model X.prog X.w) X.A (f v) (EP X pins σ Q) X.xe s
/-- a call of a value that is known (a builtin, a type) with values -/
def CallR (X : Cx) (f : Value) (r : List V → Hp → VK → Prop) : Prop :=
  ∀ (pins : List (Addr × Obj)) (s : Shared) (σ : St) (H : Hp) (xs : List V) (us : List Value) (Q : VK), Inv X pins σ H s → Vals xs us → r xs H Q →
    wpAny (model X.prog X.w) X.A (call f us) (EP X pins σ Q) X.xe s
def tOp (r : R2) (ta tb : TE) : TE := fun σ H Q => ta σ H fun x H1 => tb σ H1 fun y H2 => r x y H2 Q
def tUn (r : V → Hp → VK → Prop) (ta : TE) : TE := fun σ H Q => ta σ H fun x H1 => r x H1 Q
/-- ints in, under C, and a value out -/
def rI (C : Int → Int → Prop) (g : Int → Int → V) : R2 := fun x y H Q => ∃ i j, x = .int i ∧ y = .int j ∧ C i j ∧ Q (g i j) H
def rI0 (g : Int → Int → V) : R2 := fun x y H Q => ∃ i j, x = .int i ∧ y = .int j ∧ Q (g i j) H
def rU (g : Int → V) : V → Hp → VK → Prop := fun x H Q => ∃ i, x = .int i ∧ Q (g i) H

section
variable {X : Cx} {a b c : Expr} {ta tb tc : TE} {pos : Pos}

theorem binT (ha : PE X a ta) (hb : PE X b tb) {pins : List (Addr × Obj)} {s : Shared} {σ : St} {H : Hp} {R : V → V → Hp → Prop} (I : Inv X pins σ H s)
    (h : ta σ H fun x H1 => tb σ H1 fun y H2 => R x y H2) {Q : Value → Shared → Prop} {f : Value → Value → Sem Value}
    (hf : ∀ v u s2 x y H2, Inv X pins σ H2 s2 → RelV x v → RelV y u → R x y H2 → wpAny (model X.prog X.w) X.A (f v u) Q X.xe s2) :
    wpAny (model X.prog X.w) X.A (eval a X.env) (fun v s₁ => wpAny (model X.prog X.w) X.A (eval b X.env) (fun u s₂ => wpAny (model X.prog X.w) X.A (f v u) Q X.xe s₂) X.xe s₁) X.xe s := by
  refine thn (ha pins s σ H _ I h) fun v s1 ⟨x, H1, I1, r1, q1⟩ => ?_
  refine thn (hb pins s1 σ H1 _ I1 q1) fun u s2 ⟨y, H2, I2, r2, q2⟩ => ?_
  exact hf v u s2 x y H2 I2 r1 r2 q2

theorem pe_op {op : Operator} {r : R2} (ho : OpR X (binaryOp op) r) (ha : PE X a ta) (hb : PE X b tb) : PE X (.BinOp a op b pos) (tOp r ta tb) := by
  intro pins s σ H Q I h
  exact wpAny_BinOp (binT ha hb I h fun v u s2 x y H2 I2 rx ry q => ho pins s2 σ H2 x y v u Q I2 rx ry q)
theorem pe_un {op : UnaryOp} {r : V → Hp → VK → Prop} (ho : UnR X (unaryOp op) r) (ha : PE X a ta) : PE X (.UnaryOp op a pos) (tUn r ta) := by
  intro pins s σ H Q I h
  exact UnaryOp_ (thn (ha pins s σ H _ I h) fun v s1 ⟨x, H1, I1, r1, q1⟩ => ho pins s1 σ H1 x v Q I1 r1 q1)
/-! ### ints -/
theorem opI {f : Value → Value → Sem Value} {C : Int → Int → Prop} {g : Int → Int → Int}
    (rule : ∀ (i j : Int) (t u : Tok) (s : Shared) (Q : Value → Shared → Prop) (E : Value → Shared → Prop), C i j → Q (.int (g i j) s.toks) { s with toks := s.toks + 1 } → wpAny (model X.prog X.w) X.A (f (.int i t) (.int j u)) Q E s) :
    OpR X f (rI C fun i j => .int (g i j)) := by
  intro pins s σ H x y v u Q I rx ry h
  obtain ⟨i, j, rfl, rfl, hc, q⟩ := h
  obtain ⟨t, rfl⟩ := rx
  obtain ⟨t', rfl⟩ := ry
  exact rule i j t t' s _ _ hc ⟨.int (g i j), H, I.tok _, ⟨_, rfl⟩, q⟩
theorem opI0 {f : Value → Value → Sem Value} {g : Int → Int → Int}
    (rule : ∀ (i j : Int) (t u : Tok) (s : Shared) (Q : Value → Shared → Prop) (E : Value → Shared → Prop), Q (.int (g i j) s.toks) { s with toks := s.toks + 1 } → wpAny (model X.prog X.w) X.A (f (.int i t) (.int j u)) Q E s) :
    OpR X f (rI0 fun i j => .int (g i j)) := by
  intro pins s σ H x y v u Q I rx ry h
  obtain ⟨i, j, rfl, rfl, q⟩ := h
  obtain ⟨t, rfl⟩ := rx
  obtain ⟨t', rfl⟩ := ry
  exact rule i j t t' s _ _ ⟨.int (g i j), H, I.tok _, ⟨_, rfl⟩, q⟩
theorem opB0 {f : Value → Value → Sem Value} {g : Int → Int → Bool}
    (rule : ∀ (i j : Int) (t u : Tok) (s : Shared) (Q : Value → Shared → Prop) (E : Value → Shared → Prop), Q (.bool (g i j)) s → wpAny (model X.prog X.w) X.A (f (.int i t) (.int j u)) Q E s) :
    OpR X f (rI0 fun i j => .bl (g i j)) := by
  intro pins s σ H x y v u Q I rx ry h
  obtain ⟨i, j, rfl, rfl, q⟩ := h
  obtain ⟨t, rfl⟩ := rx
  obtain ⟨t', rfl⟩ := ry
  exact rule i j t t' s _ _ ⟨.bl (g i j), H, I, rfl, q⟩

def CPow (i j : Int) : Prop := 0 ≤ j ∧ j ≤ 1000000 ∧ i.natAbs < 2 ^ 64
def CMul (i j : Int) : Prop := (-(2 ^ 64) < i ∧ i < 2 ^ 64) ∨ (-(2 ^ 64) < j ∧ j < 2 ^ 64)
theorem CMul.ok {i j : Int} (h : CMul i j) : IntMulOk i j := by
  rcases h with ⟨h1, h2⟩ | ⟨h1, h2⟩
  · exact .of_left (intBits_le_64 h1 h2)
  · exact .of_right (intBits_le_64 h1 h2)
theorem op_add : OpR X (binaryOp .Add) (rI0 fun i j => .int (i + j)) := opI0 fun _ _ _ _ _ _ _ q => add_int q
theorem op_sub : OpR X (binaryOp .Sub) (rI0 fun i j => .int (i - j)) := opI0 fun _ _ _ _ _ _ _ q => sub_int q
theorem op_mul : OpR X (binaryOp .Mult) (rI CMul fun i j => .int (i * j)) := opI fun _ _ _ _ _ _ _ hc q => mul_int q hc.ok
/-- % by a positive divisor of any size -/
theorem op_mod : OpR X (binaryOp .Mod) (rI (fun _ j => 0 < j) fun i j => .int (i % j)) := opI fun i j _ _ _ _ _ hc q => by
  have h1 : (0 : Int) < j := hc
  exact mod_int' (by omega) (by rw [Int.fmod_eq_emod_of_nonneg i (by omega)]; exact q)
theorem op_pow : OpR X (binaryOp .Pow) (rI CPow fun i j => .int (i ^ j.toNat)) := opI fun _ _ _ _ _ _ _ hc q => pow_int_small hc.1 hc.2.1 hc.2.2 q
theorem unI {f : Value → Sem Value} {g : Int → Int}
    (rule : ∀ (i : Int) (t : Tok) (s : Shared) (Q : Value → Shared → Prop) (E : Value → Shared → Prop), Q (.int (g i) s.toks) { s with toks := s.toks + 1 } → wpAny (model X.prog X.w) X.A (f (.int i t)) Q E s) :
    UnR X f (rU fun i => .int (g i)) := by
  intro pins s σ H x v Q I rx h
  obtain ⟨i, rfl, q⟩ := h
  obtain ⟨t, rfl⟩ := rx
  exact rule i t s _ _ ⟨.int (g i), H, I.tok _, ⟨_, rfl⟩, q⟩
theorem un_neg : UnR X (unaryOp .USub) (rU fun i => .int (-i)) := unI fun _ _ _ _ _ q => neg_int q
/-! ### bools among ints: n += (a < b) -/
end

/-! ### comparisons -/
section
variable {X : Cx} {a b c : Expr} {ta tb tc : TE} {pos : Pos}
theorem fin_bl {pins : List (Addr × Obj)} {σ : St} {H : Hp} {s : Shared} {Q : VK} {k k' : Bool} (I : Inv X pins σ H s) (q : Q (.bl k) H) (e : k = k') : EP X pins σ Q (.bool k') s := by
  subst e
  exact ⟨.bl k, H, I, rfl, q⟩
theorem op_lt : OpR X (compareOp .Lt) (rI0 fun i j => .bl (decide (i < j))) := opB0 fun _ _ _ _ _ _ _ q => lt_int q
theorem op_le : OpR X (compareOp .LtE) (rI0 fun i j => .bl (decide (i ≤ j))) := opB0 fun _ _ _ _ _ _ _ q => le_int q
theorem op_gt : OpR X (compareOp .Gt) (rI0 fun i j => .bl (decide (j < i))) := opB0 fun _ _ _ _ _ _ _ q => gt_int q
theorem nomark (b : Expr) {op : CmpOp} (h : op ≠ .In := by decide) (h2 : op ≠ .NotIn := by decide) : behindInMarks op b = false := by
  have e1 : (op == CmpOp.In) = false := by cases op <;> first | rfl | exact absurd rfl h
  have e2 : (op == CmpOp.NotIn) = false := by cases op <;> first | rfl | exact absurd rfl h2
  cases b <;> simp [behindInMarks, e1, e2]
/-- a comparison as a value; hm: nomark b, or (for in, not in) by with_unfolding_all rfl -/
theorem pe_cmpR {op : CmpOp} {r : R2} (ho : OpR X (compareOp op) r) (ha : PE X a ta) (hb : PE X b tb) (hm : behindInMarks op b = false) : PE X (.Compare a [op] [b] pos) (tOp r ta tb) := by
  intro pins s σ H Q I h
  exact wpAny_Compare1 (binT ha hb I h fun v u s2 x y H2 I2 rx ry q => ho pins s2 σ H2 x y v u Q I2 rx ry q) hm
/-! ### truth -/
theorem line63 : (sizeLine : Nat) < 2 ^ 63 := by rw [sizeLine_eq]; decide
/-! ### strs and bytes -/
/-! ### scalar builtins, by CallR -/
theorem vals1 {x : V} {us : List Value} (r : Vals [x] us) : ∃ u, us = [u] ∧ RelV x u := by
  cases r with
  | cons r1 r2 => cases r2; exact ⟨_, rfl, r1⟩
theorem vals2 {x y : V} {us : List Value} (r : Vals [x, y] us) : ∃ u w', us = [u, w'] ∧ RelV x u ∧ RelV y w' := by
  cases r with
  | cons r1 r2 =>
    cases r2 with
    | cons r3 r4 => cases r4; exact ⟨_, _, rfl, r1, r3⟩
theorem call_max2 (hc : X.calm = true) : CallR X (.builtin "max") (fun xs H Q => ∃ i j, xs = [.int i, .int j] ∧ Q (.int (if j > i then j else i)) H) := by
  intro pins s σ H xs us Q I r h
  obtain ⟨i, j, rfl, q⟩ := h
  obtain ⟨u, w', rfl, ⟨t, rfl⟩, ⟨t', rfl⟩⟩ := vals2 r
  refine max_two_ints (I.ok.hd hc) fun h' tk k => ⟨_, H, I.kept k, ?_, q⟩
  by_cases hj : j > i
  · rw [if_pos hj, if_pos hj]; exact ⟨_, rfl⟩
  · rw [if_neg hj, if_neg hj]; exact ⟨_, rfl⟩
theorem call_int1 : CallR X (.type "int") (fun xs H Q => (∃ i, xs = [.int i] ∧ Q (.int i) H) ∨ ∃ k, xs = [.bl k] ∧ Q (.int (if k then 1 else 0)) H) := by
  intro pins s σ H xs us Q I r h
  rcases h with ⟨i, rfl, q⟩ | ⟨k, rfl, q⟩
  · obtain ⟨u, rfl, t, rfl⟩ := vals1 r
    exact call_int_int ⟨.int i, H, I, ⟨_, rfl⟩, q⟩
  · obtain ⟨u, rfl, r1⟩ := vals1 r
    cases r1
    exact call_int_bool ⟨.int (if k then 1 else 0), H, I.tok _, ⟨_, rfl⟩, q⟩
end
end L2

namespace L2
open PySem PySem.Spec PyProof.Rows

/-! ### an instance, its attributes a map -/
structure ObjM (h : Heap) (x dx C : Addr) (mA : Str → Option Value) : Prop where
  obj : h.get? x = some (PySem.W.instObj C dx)
  ns : h.Ns1 dx mA
  ne : dx ≠ x

theorem lookIn_ns {h : Heap} {dx : Addr} {mA : Str → Option Value} (n : h.Ns1 dx mA) : ∃ od, h.get? dx = some od ∧ ∀ name, PySem.W.lookIn name od = some (mA name) := by
  obtain ⟨o, es, ep, ho, hd, hk, _, hm⟩ := n
  refine ⟨o, ho, fun name => ?_⟩
  have e := hm name
  unfold nsFind findBy at e
  rw [← Array.find?_toList] at e
  unfold PySem.W.lookIn
  rw [hd]
  dsimp only
  split
  · rename_i y q
    rw [q] at e
    exact congrArg some e
  · rename_i q
    rw [q] at e
    have a : es.toList.any (·.refKey) = false := by
      rw [List.any_eq_false]
      intro y hy
      obtain ⟨z, t, hkey⟩ := hk y (Array.mem_toList_iff.mp hy)
      simp [DictEntry.refKey, hkey]
    have a' : ¬ es.toList.any (·.refKey) = true := by rw [a]; exact Bool.false_ne_true
    rw [if_neg a']
    exact congrArg some e

theorem ObjM.look {h : Heap} {x dx C : Addr} {mA : Str → Option Value} (I : ObjM h x dx C mA) : ∃ od, PySem.W.InstAt h x (PySem.W.instObj C dx) C (some od) ∧ ∀ name, PySem.W.lookIn name od = some (mA name) :=
  let ⟨od, ho, hl⟩ := lookIn_ns I.ns
  ⟨od, ⟨I.obj, rfl, rfl, ho⟩, hl⟩

section
variable {prog : Program} {w : World} {A : Around} {E : Value → Shared → Prop} {s : Shared} {K : PySem.W.Frag} {x dx C f : Addr} {mA : Str → Option Value} {name : Str} {v : Value}

theorem get_map {expr : Bool} {Q : Value → Shared → Prop} (X : K.In s.heap) (I : ObjM s.heap x dx C mA) (hg : PySem.W.plainGet K C name = true) (hh : PySem.W.hasDictIn K C = true)
    (ha : PySem.W.findIn K (.ref C) name = some none) (hv : mA name = some v) (hv' : PySem.W.handedIn v = true) (h : Q v { s with toks := s.toks + 1 }) :
    wpAny (model prog w) A (getAttr (.ref x) name expr) Q E s := by
  obtain ⟨od, J, hl⟩ := I.look
  exact PySem.W.get_value X J (PySem.W.plainGet_of hg).1 (PySem.W.findObj_own hh ha rfl (by rw [hl, hv])) hv' h

theorem get_meth {pl : Sem Bool} {Q : Value × List Value → Shared → Prop} (X : K.In s.heap) (I : ObjM s.heap x dx C mA) (hg : PySem.W.plainGet K C name = true)
    (hf : PySem.W.findIn K (.ref C) name = some (some (.ref f))) (ht : PySem.W.isFn K (.ref f) = true) (hv : mA name = none) (h : Q (.ref f, [.ref x]) s) :
    wpAny (model prog w) A (getMethod (.ref x) name pl) Q E s := by
  obtain ⟨od, J, hl⟩ := I.look
  exact PySem.W.method_fn X J (PySem.W.plainGet_of hg).1 (PySem.W.plainGet_of hg).2 hf (beq_iff_eq.mp ht) (by show (PySem.W.lookIn name od).map (·.isSome) = some false; rw [hl, hv]; rfl) h

theorem set_map {ns : List Str} {Q : Unit → Shared → Prop} (X : K.In s.heap) (I : ObjM s.heap x dx C mA)
    (hs : PySem.W.findIn K (.ref C) "__setattr__" = some (some (.builtin "object.__setattr__"))) (hp : PySem.W.plainOver K C = true) (ht : PySem.W.takerIn K C name = some none) (hh : PySem.W.hasDictIn K C = true)
    (hw : PySem.Within mA ns) (hsz : ns.length ≤ sizeLine)
    (h : ∀ h', ObjM h' x dx C (fun y => if y = name then some v else mA y) → Heap.SameBut dx s.heap h' → Q () { s with heap := h', toks := s.toks + 2 }) :
    wpAny (model prog w) A (setAttr (.ref x) name v) Q E s := by
  obtain ⟨od, J, hl⟩ := I.look
  refine PySem.W.set_plain X J hs (PySem.W.osa_open (s := { s with toks := s.toks + 1 }) (r := none) X J hp ht fun b => ?_)
  obtain ⟨cd, hc, hd'⟩ := PySem.W.any_some hh
  have hx : s.heap.get? x = some ⟨.ref C, some dx, .plain, #[]⟩ := I.obj
  refine wpAny_bind (wpAny_pure (wpAny_bind (wpAny_bind (wpAny_loadPart hx (wpAny_bind (PySem.W.Looks.here (s := { s with toks := s.toks + 1 }) (PySem.W.looks_clsIn X hc) ?_))))))
  rw [hd']
  refine wpAny_pure (a := some dx) (wpAny_bind (wpAny_pure (wpAny_bind ?_)))
  refine wpAny_nsSet1 (s := { s with toks := s.toks + 1 }) I.ns fun h' hn2 hs2 => ?_
  obtain ⟨oD, esD, epD, hoD, hdD, hcD⟩ := hn2.count (PySem.Within.cons name v hw)
  refine wpAny_bind (wpAny_lookBehind hoD (by rw [hdD]; exact pastItsLine_dict (Nat.le_trans hcD (by rw [List.length_cons]; omega))) ?_)
  exact wpAny_pure (h _ ⟨(hs2.2 _ (Ne.symm I.ne)).trans I.obj, hn2, I.ne⟩ hs2)

/-- C(..): the dict at the heap's end, the instance behind it; then its __init__ -/
theorem make_map {R : Result → Shared → Prop} {vs : List Value} {kw : List (Str × Value)} (X : K.In s.heap) (hm : PySem.W.makesIn K C = true)
    (hi : PySem.W.findIn K (.ref C) "__init__" = some (some (.ref f))) (hf : PySem.W.typeIn K (.ref f) = some (.type "function"))
    (h : codeAny (model prog w) (A.under (.builtin "type.__call__" ⟨.ref C :: vs, kw⟩)) (.call (.ref f) ⟨.ref (s.heap.objs.size + 1) :: vs, kw⟩) (PySem.W.InitBack (s.heap.objs.size + 1) R)
      { s with heap := (s.heap.push PySem.W.emptyDict).push (PySem.W.instObj C s.heap.objs.size) }) :
    codeAny (model prog w) A (.call (.ref C) ⟨vs, kw⟩) R s := by
  obtain ⟨hh, g, d, t, os⟩ := s
  exact PySem.W.make_core (PySem.W.makes_of X hm) (PySem.W.looks_findIn X hi) (fun self => PySem.W.bind_fn X self hf) (.inl rfl) h
end

/-! ### the attributes as a list of pairs -/
def putF (f : Str) (v : V) : List (Str × V) → List (Str × V)
  | [] => [(f, v)]
  | (g, x) :: r => if g = f then (g, v) :: r else (g, x) :: putF f v r
theorem lookup_putF (f g : Str) (v : V) : ∀ fs : List (Str × V), (putF f v fs).lookup g = if g = f then some v else fs.lookup g
  | [] => by
    show List.lookup g [(f, v)] = _
    by_cases h : g = f
    · have hb : (g == f) = true := beq_iff_eq.mpr h
      simp only [List.lookup, hb, if_pos h]
    · have hb : (g == f) = false := beq_eq_false_iff_ne.mpr h
      simp only [List.lookup, hb, if_neg h]
  | (k, x) :: r => by
    have ih := lookup_putF f g v r
    rw [show putF f v ((k, x) :: r) = (if k = f then (k, v) :: r else (k, x) :: putF f v r) from rfl]
    by_cases hk : k = f
    · rw [if_pos hk]
      by_cases h : g = k
      · have hb : (g == k) = true := beq_iff_eq.mpr h
        simp only [List.lookup, hb, if_pos (h.trans hk)]
      · have hb : (g == k) = false := beq_eq_false_iff_ne.mpr h
        simp only [List.lookup, hb, if_neg (fun e : g = f => h (e.trans hk.symm))]
    · rw [if_neg hk]
      by_cases h : g = k
      · have hb : (g == k) = true := beq_iff_eq.mpr h
        simp only [List.lookup, hb, if_neg (fun e : g = f => hk (h.symm.trans e))]
      · have hb : (g == k) = false := beq_eq_false_iff_ne.mpr h
        simp only [List.lookup, hb]
        exact ih
theorem keys_putF (f : Str) (v : V) : ∀ fs : List (Str × V), f ∈ (putF f v fs).map (·.1) ∧ ∀ g, g ∈ fs.map (·.1) → g ∈ (putF f v fs).map (·.1)
  | [] => ⟨by simp [putF], fun g h => by simp at h⟩
  | (k, x) :: r => by
    obtain ⟨i1, i2⟩ := keys_putF f v r
    rw [show putF f v ((k, x) :: r) = (if k = f then (k, v) :: r else (k, x) :: putF f v r) from rfl]
    by_cases hk : k = f
    · rw [if_pos hk]
      subst hk
      exact ⟨by simp, fun g h => by simpa using h⟩
    · rw [if_neg hk]
      refine ⟨?_, fun g h => ?_⟩
      · rw [List.map_cons]
        exact List.mem_cons_of_mem _ i1
      · rw [List.map_cons] at h ⊢
        rcases List.mem_cons.mp h with e | e
        · exact List.mem_cons.mpr (.inl e)
        · exact List.mem_cons_of_mem _ (i2 g e)
theorem length_putF (f : Str) (v : V) : ∀ fs : List (Str × V), (putF f v fs).length ≤ fs.length + 1
  | [] => by simp [putF]
  | (k, x) :: r => by
    have ih := length_putF f v r
    rw [show putF f v ((k, x) :: r) = (if k = f then (k, v) :: r else (k, x) :: putF f v r) from rfl]
    by_cases hk : k = f
    · rw [if_pos hk, List.length_cons, List.length_cons]; omega
    · rw [if_neg hk, List.length_cons, List.length_cons]; omega

theorem RelO.some_of {v : V} {o : Option Value} (r : RelO (some v) o) : ∃ u, o = some u ∧ RelV v u := by
  cases o with
  | none => exact (show False from r).elim
  | some u => exact ⟨u, rfl, r⟩
theorem RelO.none_of {o : Option Value} (r : RelO none o) : o = none := by
  cases o with
  | none => rfl
  | some u => exact (show False from r).elim
theorem handed_of {v : V} {u : Value} (r : RelV v u) : PySem.W.handedIn u = true := by
  cases v with
  | non => cases (show u = Value.none from r); rfl
  | bl b => cases (show u = Value.bool b from r); rfl
  | int i => obtain ⟨t, e⟩ := (show ∃ t, u = Value.int i t from r); cases e; rfl
  | str x => obtain ⟨t, e⟩ := (show ∃ t, u = Value.str x t from r); cases e; rfl
  | byt b => obtain ⟨t, e⟩ := (show ∃ t, u = Value.bytes b t from r); cases e; rfl
  | flt b => obtain ⟨t, e⟩ := (show ∃ t, u = Value.float b t from r); cases e; rfl
  | ref a => cases (show u = Value.ref a from r); rfl
  | ty n => cases (show u = Value.type n from r); rfl

section
variable {P : Program} {w : World} {H H' : Hp} {h h' : Heap} {a C dx : Addr} {fs fs' : List (Str × V)}
theorem ins_get (hok : HOk P w H h) (e : H a = some (.ins C dx fs)) : ∃ mA, ObjM h a dx C mA ∧ (∀ f, RelO (fs.lookup f) (mA f)) ∧ PySem.Within mA (fs.map (·.1)) ∧ fs.length ≤ 1000 ∧ H dx = some (.own a) := by
  obtain ⟨d, z, ne, ob, mA, n, r, q⟩ := (show ObjOk P w H h a (.ins C dx fs) from hok a _ e)
  exact ⟨mA, ⟨ob, n, ne⟩, r, q, z, d⟩
end

/-! ### what of the text a class must have -/
structure Cls (K : PySem.W.Frag) (C : Addr) : Prop where
  pg : PySem.W.plainGet K C Str.empty = true
  hd : PySem.W.hasDictIn K C = true
  po : PySem.W.plainOver K C = true
  sa : PySem.W.findIn K (.ref C) "__setattr__" = some (some (.builtin "object.__setattr__"))
theorem Cls.get {K : PySem.W.Frag} {C : Addr} (c : Cls K C) (f : Str) : PySem.W.plainGet K C f = true := c.pg
/-- no class of it has the name -/
def NoAttr (K : PySem.W.Frag) (C : Addr) (f : Str) : Prop := PySem.W.findIn K (.ref C) f = some none
theorem NoAttr.taker {K : PySem.W.Frag} {C : Addr} {f : Str} (n : NoAttr K C f) : PySem.W.takerIn K C f = some none := by
  unfold PySem.W.takerIn
  rw [show PySem.W.findIn K (.ref C) f = some none from n]
  rfl
/-- a method: a plain def of the class or of one above it -/
structure Meth (K : PySem.W.Frag) (C : Addr) (m : Str) (f : Addr) : Prop where
  at_ : PySem.W.findIn K (.ref C) m = some (some (.ref f))
  fn : PySem.W.isFn K (.ref f) = true
  kp : PySem.W.keepIn K (.ref f) = true

section
variable {X : Cx} {pins : List (Addr × Obj)} {σ : St} {H : Hp} {s : Shared} {a C dx : Addr} {fs : List (Str × V)} {f : Str} {v : V} {A : Around} {E : Value → Shared → Prop}

theorem getattr_ok {b : Bool} {Q : Value → Shared → Prop} (I : Inv X pins σ H s) (e : H a = some (.ins C dx fs)) (c : Cls X.K C) (n : NoAttr X.K C f) (l : fs.lookup f = some v)
    (h : ∀ u s', Inv X pins σ H s' → RelV v u → Q u s') : wpAny (model X.prog X.w) A (getAttr (.ref a) f b) Q E s := by
  obtain ⟨mA, O, r, _, _, _⟩ := ins_get I.hok e
  obtain ⟨u, hu, ru⟩ := RelO.some_of (v := v) (o := mA f) (by rw [← l]; exact r f)
  exact get_map I.kIn O (c.get f) c.hd n hu (handed_of ru) (h u _ (I.tok _) ru)

theorem getmeth_ok {m : Str} {g : Addr} {pl : Sem Bool} {Q : Value × List Value → Shared → Prop} (I : Inv X pins σ H s) (e : H a = some (.ins C dx fs)) (c : Cls X.K C) (k : Meth X.K C m g) (l : fs.lookup m = none)
    (h : Q (.ref g, [.ref a]) s) : wpAny (model X.prog X.w) A (getMethod (.ref a) m pl) Q E s := by
  obtain ⟨mA, O, r, _, _, _⟩ := ins_get I.hok e
  have hn : mA m = none := RelO.none_of (by rw [← l]; exact r m)
  exact get_meth I.kIn O (c.get m) k.at_ k.fn hn h

theorem setattr_ok {y : V} {u : Value} {Q : Unit → Shared → Prop} (I : Inv X pins σ H s) (e : H a = some (.ins C dx fs)) (c : Cls X.K C) (n : NoAttr X.K C f) (hl : fs.length < 1000) (ry : RelV y u)
    (h : ∀ s', Inv X pins σ (upd H a (.ins C dx (putF f y fs))) s' → Q () s') : wpAny (model X.prog X.w) A (setAttr (.ref a) f u) Q E s := by
  obtain ⟨mA, O, r, wi, _, ho⟩ := ins_get I.hok e
  have hz : (fs.map (·.1)).length ≤ sizeLine := by rw [List.length_map, sizeLine_eq]; omega
  refine set_map I.kIn O c.sa c.po n.taker c.hd wi hz fun h' O' sb => h _ ?_
  have hd : ∃ o, h'.get? dx = some o := let ⟨o, _, _, e', _⟩ := O'.ns; ⟨o, e'⟩
  refine I.write (x := a) (e := dx) (by rw [e]; exact True.intro) (.inr ho) (fun b q hb z => (sb.2 b hb).trans z) hd ?_
  refine ⟨by rw [upd_ne O.ne]; exact ho, ?_, O.ne, O'.obj, _, O'.ns, fun g => ?_, fun g hg => ?_⟩
  · have := length_putF f y fs; omega
  · show RelO ((putF f y fs).lookup g) (if g = f then some u else mA g)
    rw [lookup_putF]
    by_cases q : g = f
    · rw [if_pos q, if_pos q]; exact ry
    · rw [if_neg q, if_neg q]; exact r g
  · by_cases q : g = f
    · rw [q]; exact (keys_putF f y fs).1
    · refine (keys_putF f y fs).2 g (wi g fun z => hg ?_)
      show (if g = f then some u else mA g) = none
      rw [if_neg q]; exact z

/-- a new instance, tracked, without attributes -/
theorem Inv.made (I : Inv X pins σ H s) : Inv X pins σ (upd (upd H s.heap.objs.size (.own (s.heap.objs.size + 1))) (s.heap.objs.size + 1) (.ins C s.heap.objs.size []))
    { s with heap := (s.heap.push PySem.W.emptyDict).push (PySem.W.instObj C s.heap.objs.size) } := by
  have e1 : (s.heap.push PySem.W.emptyDict).get? s.heap.objs.size = some PySem.W.emptyDict := Heap.get?_push_size s.heap rfl
  have e2 : ((s.heap.push PySem.W.emptyDict).push (PySem.W.instObj C s.heap.objs.size)).get? (s.heap.objs.size + 1) = some (PySem.W.instObj C s.heap.objs.size) := by
    have := Heap.get?_push_size (s.heap.push PySem.W.emptyDict) (o := PySem.W.instObj C s.heap.objs.size) rfl
    rwa [Heap.size_push] at this
  have e3 : (s.heap.push PySem.W.emptyDict).Ns s.heap.objs.size (fun _ => none) := ⟨PySem.W.emptyDict, #[], _, e1, rfl, (fun e he => absurd he (by simp)), fun _ => rfl⟩
  have I1 := I.laid (a := s.heap.objs.size) (o := .own (s.heap.objs.size + 1)) (h' := s.heap.push PySem.W.emptyDict) (t' := s.toks) (fun b u q => Heap.get?_push_of_some _ q) (Nat.le_refl _) ⟨_, e1⟩
  refine I1.laid (a := s.heap.objs.size + 1) (o := .ins C s.heap.objs.size []) (t' := s.toks) (fun b u q => Heap.get?_push_of_some _ q) (Nat.le_of_eq (Heap.size_push _ _)) ?_
  have ne : s.heap.objs.size ≠ s.heap.objs.size + 1 := Nat.ne_of_lt (Nat.lt_succ_self _)
  refine ⟨by rw [upd_ne ne, upd_same], Nat.zero_le _, ne, e2, fun _ => none, (Heap.Ns1.of_empty e3).at fun o q => Heap.get?_push_of_some _ q, fun _ => True.intro, fun y hy => absurd rfl hy⟩

/-- e.f where nothing but the object is asked: through attributeBase (super) and the last hold -/
theorem attr_of {prog : Program} {w : World} {env : Env} {e : Expr} {f : Str} {pos : Pos} {s : Shared} {Q : Value → Shared → Prop} (hb : attributeBase e f env (eval e env) = eval e env)
    (h : wpAny (model prog w) A (eval e env) (fun o s₁ => wpAny (model prog w) A (getAttr o f true) Q E s₁) E s) : wpAny (model prog w) A (eval (.Attribute e f pos) env) Q E s :=
  Attribute_any_ h (by rw [arm_eval_Attribute, hb])
end

/-! ### readings and rules -/
/-- e.f, an attribute of the instance -/
def tFld (K : PySem.W.Frag) (ta : TE) (f : Str) : TE := fun σ H Q => ta σ H fun x H1 => ∃ a C dx fs v, x = .ref a ∧ H1 a = some (.ins C dx fs) ∧ Cls K C ∧ NoAttr K C f ∧ fs.lookup f = some v ∧ Q v H1
/-- e.f = value -/
def sFld (K : PySem.W.Frag) (ta tv : TE) (f : Str) : TS := fun D σ H => tv σ H fun y H1 => ta σ H1 fun x H2 => ∃ a C dx fs, x = .ref a ∧ H2 a = some (.ins C dx fs) ∧ Cls K C ∧ NoAttr K C f ∧ fs.length < 1000 ∧
  D.nx σ (upd H2 a (.ins C dx (putF f y fs)))
/-- an augmented operator on two values -/
def InOp (X : Cx) (op : Operator) (rd : V → V → Hp → VK → Prop) : Prop :=
  ∀ (pins : List (Addr × Obj)) (s : Shared) (σ : St) (H : Hp) (x y : V) (u v : Value) (Q : VK), Inv X pins σ H s → RelV x u → RelV y v → rd x y H Q → wpAny (model X.prog X.w) X.A (inplaceOp op u v) (EP X pins σ Q) X.xe s
/-- e.f op= value -/
def sFldAug (K : PySem.W.Frag) (ta tv : TE) (rd : V → V → Hp → VK → Prop) (f : Str) : TS := fun D σ H => ta σ H fun x H1 => ∃ a C dx fs v, x = .ref a ∧ H1 a = some (.ins C dx fs) ∧ Cls K C ∧ NoAttr K C f ∧ fs.lookup f = some v ∧
  tv σ H1 fun y H2 => rd v y H2 fun z H3 => ∃ dx' fs', H3 a = some (.ins C dx' fs') ∧ fs'.length < 1000 ∧ D.nx σ (upd H3 a (.ins C dx' (putF f z fs')))

section
variable {X : Cx} {o e value : Expr} {f : Str} {pos pos' tpos : Pos} {ta tv : TE}
theorem pe_fld (he : PE X e ta) (hb : attributeBase e f X.env (eval e X.env) = eval e X.env) : PE X (.Attribute e f pos) (tFld X.K ta f) := by
  intro pins s σ H Q I h
  refine attr_of hb (thn (he pins s σ H _ I h) fun u s1 ⟨x, H1, I1, rx, a, C, dx, fs, v, ex, ea, c, n, l, q⟩ => ?_)
  subst ex
  obtain rfl : u = Value.ref a := rx
  exact getattr_ok I1 ea c n l fun u' s2 I2 ru => ⟨v, H1, I2, ru, q⟩
theorem ps_fld (ha : PE X o ta) (hv : PE X value tv) (hs : swapsWith value (some (.Attribute o f pos')) pos.line X.env = pure false) : PS X (.Assign [.Attribute o f pos'] value pos) (sFld X.K ta tv f) := by
  intro pins s σ H D I h
  refine plainObj_wpAny_Assign_Attribute (thn (hv pins s σ H _ I h) fun u s1 ⟨y, H1, I1, ry, q⟩ => thn (ha pins s1 σ H1 _ I1 q) fun ov s2 ⟨x, H2, I2, rx, a, C, dx, fs, ex, ea, c, n, l, q2⟩ => ?_) hs
  subst ex
  obtain rfl : ov = Value.ref a := rx
  exact setattr_ok I2 ea c n l ry fun s3 I3 => ⟨σ, _, I3, q2⟩
theorem ps_fldaug {op : Operator} {rd : V → V → Hp → VK → Prop} (ha : PE X o ta) (hv : PE X value tv) (hop : InOp X op rd) : PS X (.AugAssign (.Attribute o f tpos) op value pos) (sFldAug X.K ta tv rd f) := by
  intro pins s σ H D I h
  refine wpAny_AugAssign_AttributeAny (thn (ha pins s σ H _ I h) fun ov s1 ⟨x, H1, I1, rx, a, C, dx, fs, v, ex, ea, c, n, l, q⟩ => ?_)
  subst ex
  obtain rfl : ov = Value.ref a := rx
  refine getattr_ok I1 ea c n l fun u s2 I2 ru => thn (hv pins s2 σ H1 _ I2 q) fun w3 s3 ⟨y, H2, I3, ry, q3⟩ => thn (hop pins s3 σ H2 v y u w3 _ I3 ru ry q3) fun w4 s4 ⟨z, H3, I4, rz, dx', fs', ea', l', q4⟩ => ?_
  exact setattr_ok I4 ea' c n l' rz fun s5 I5 => ⟨σ, _, I5, q4⟩
def rAdd : V → V → Hp → VK → Prop := fun x y H Q => ∃ i j, x = .int i ∧ y = .int j ∧ Q (.int (i + j)) H
theorem in_add : InOp X .Add rAdd := by
  rintro pins s σ H x y u v Q I rx ry ⟨i, j, rfl, rfl, q⟩
  obtain ⟨t, rfl⟩ := (show ∃ t, u = Value.int i t from rx)
  obtain ⟨t', rfl⟩ := (show ∃ t', v = Value.int j t' from ry)
  exact PyProof.Rows.iadd_int ⟨.int (i + j), H, I.tok _, ⟨_, rfl⟩, q⟩
end

/-! ### isinstance -/
section
variable {X : Cx} {pins : List (Addr × Obj)} {σ : St} {H : Hp} {s : Shared} {A : Around} {E : Value → Shared → Prop} {Q : Value → Shared → Prop} {c : Value} {b : Bool}
/-- the type of a value, as the fragment's deciders take it; for an instance its class -/
inductive TyOf (K : PySem.W.Frag) (H : Hp) : V → Value → Prop where
  | non : TyOf K H .non (.type "NoneType")
  | bl (x : Bool) : TyOf K H (.bl x) (.type "bool")
  | int (i : Int) : TyOf K H (.int i) (.type "int")
  | str (x : Str) : TyOf K H (.str x) (.type "str")
  | flt (x : UInt64) : TyOf K H (.flt x) (.type "float")
  | lst {a : Addr} {xs : List V} (e : H a = some (.lst xs)) : TyOf K H (.ref a) (.type "list")
  | frz {a : Addr} {o : Obj} {xs : List V} (e : H a = some (.frz o (.lst xs))) : TyOf K H (.ref a) (.type "list")
  | tup {a : Addr} {xs : List V} (e : H a = some (.tup xs)) : TyOf K H (.ref a) (.type "tuple")
  | dK {a : Addr} {kvs : List (Key × V)} (e : H a = some (.dK kvs)) : TyOf K H (.ref a) (.type "dict")
  | dT {a : Addr} {kvs : List (List Key × V)} (e : H a = some (.dT kvs)) : TyOf K H (.ref a) (.type "dict")
  | ins {a C dx : Addr} {fs : List (Str × V)} (e : H a = some (.ins C dx fs)) (cl : Cls K C) (ha : PySem.W.findIn K (.ref C) "__class__" = some (some (.builtin "object.__class__")))
      (hn : PySem.W.specialIn K (.builtin "object.__class__") "__get__" = some (some (.builtin "getset_descriptor.__get__"))) (htk : PySem.W.takesIn K (.builtin "object.__class__") = some true)
      (hm : PySem.W.mroIn K C (.type "object") = some true) : TyOf K H (.ref a) (.ref C)
/-- isinstance(x, c) for one class c, a built-in or an own one: kitOne's answer -/
theorem isinst_ok {x : V} {u t : Value} (I : Inv X pins σ H s) (rx : RelV x u) (ty : TyOf X.K H x t) (e : PySem.W.kitOne X.K t c = some b) (h : ∀ tk, Q (.bool b) { s with toks := tk }) :
    wpAny (model X.prog X.w) A (call (.builtin "isinstance") [u, c]) Q E s := by
  cases ty with
  | non => cases (show u = Value.none from rx); exact PySem.W.kia_one PySem.W.kitx_none I.kIn True.intro e (fun z => nomatch z) h
  | bl y => cases (show u = Value.bool y from rx); exact PySem.W.kia_one PySem.W.kitx_bool I.kIn True.intro e (fun z => nomatch z) h
  | int i => obtain ⟨t, q⟩ := (show ∃ t, u = Value.int i t from rx); cases q; exact PySem.W.kia_one PySem.W.kitx_int I.kIn True.intro e (fun z => nomatch z) h
  | str y => obtain ⟨t, q⟩ := (show ∃ t, u = Value.str y t from rx); cases q; exact PySem.W.kia_one PySem.W.kitx_str I.kIn True.intro e (fun z => nomatch z) h
  | flt y => obtain ⟨t, q⟩ := (show ∃ t, u = Value.float y t from rx); cases q; exact PySem.W.kia_one PySem.W.kitx_float I.kIn True.intro e (fun z => nomatch z) h
  | @lst a xs ea =>
    cases (show u = Value.ref a from rx)
    obtain ⟨_, _, n, _, h1⟩ := (show ObjOk X.prog X.w H s.heap a (.lst xs) from I.hok a _ ea)
    exact PySem.W.kia_one PySem.W.kitx_list I.kIn ⟨_, h1, rfl⟩ e (fun z => nomatch z) h
  | @frz a ob xs ea =>
    cases (show u = Value.ref a from rx)
    obtain ⟨_, _, _, n, _, h1⟩ := (show ObjOk X.prog X.w H s.heap a (.frz ob (.lst xs)) from I.hok a _ ea)
    exact PySem.W.kia_one PySem.W.kitx_list I.kIn ⟨_, h1, rfl⟩ e (fun z => nomatch z) h
  | @tup a xs ea =>
    cases (show u = Value.ref a from rx)
    obtain ⟨_, _, _, p⟩ := (show ObjOk X.prog X.w H s.heap a (.tup xs) from I.hok a _ ea)
    obtain ⟨o, h1, h2, _⟩ := p
    exact PySem.W.kia_one PySem.W.kitx_tuple I.kIn ⟨o, h1, h2⟩ e (fun z => nomatch z) h
  | @dK a kvs ea =>
    cases (show u = Value.ref a from rx)
    obtain ⟨_, _, vs, _, p⟩ := (show ObjOk X.prog X.w H s.heap a (.dK kvs) from I.hok a _ ea)
    obtain ⟨o, es, ep, h1, h2, _⟩ := p
    exact PySem.W.kia_one PySem.W.kitx_dict I.kIn ⟨o, h1, h2.1⟩ e (fun z => nomatch z) h
  | @dT a kvs ea =>
    cases (show u = Value.ref a from rx)
    obtain ⟨_, _, xs, _, o, es, ep, h1, h2, _⟩ := (show ObjOk X.prog X.w H s.heap a (.dT kvs) from I.hok a _ ea)
    exact PySem.W.kia_one PySem.W.kitx_dict I.kIn ⟨o, h1, h2.1⟩ e (fun z => nomatch z) h
  | @ins a C dx fs ea cl ha hn htk hm =>
    cases (show u = Value.ref a from rx)
    obtain ⟨mA, O, _⟩ := ins_get I.hok ea
    obtain ⟨od, J, _⟩ := O.look
    exact PySem.W.kia_one (PySem.W.kitx_own (cl.get _) cl.hd ha hn htk hm) I.kIn J e (fun z => nomatch z) h
end
end L2

namespace L2
open PySem PySem.Spec PyProof.Rows

/-! ### room -/
structure Room (k : Nat) (A : Around) : Prop where
  hd : A.handled = none
  dp : A.depth + 3 * k + 5 < recursionLimit
  un : A.units + 16 * k + 200 < cLine
theorem Room.mono {j k : Nat} {A : Around} (r : Room k A) (h : j ≤ k) : Room j A := ⟨r.hd, by have := r.dp; omega, by have := r.un; omega⟩
theorem Room.deeper {k : Nat} {A : Around} (r : Room (k + 1) A) (env : Env) : Room k (A.deeper env) :=
  ⟨r.hd, by have := r.dp; show A.depth + 1 + 3 * k + 5 < _; omega, by have := r.un; show A.units + 3 + 16 * k + 200 < _; omega⟩
theorem make_depth {A : Around} {C : Addr} {us : List Value} {kw : List (Str × Value)} : (A.under (.builtin "type.__call__" ⟨.ref C :: us, kw⟩)).depth = A.depth + 1 := by
  first | rfl | simp [Around.under, Code.weight, Code.isCreation, Code.isGuard, Code.isCaller, Code.frames, Code.isFrame, guardIds]
theorem make_units {A : Around} {C : Addr} {us : List Value} {kw : List (Str × Value)} : (A.under (.builtin "type.__call__" ⟨.ref C :: us, kw⟩)).units = A.units + 1 := by
  first | rfl | simp [Around.under, Code.cUnits, Code.frames, Code.isFrame]
theorem Room.make {k : Nat} {A : Around} (r : Room (k + 1) A) (C : Addr) (us : List Value) (kw : List (Str × Value)) : Room k (A.under (.builtin "type.__call__" ⟨.ref C :: us, kw⟩)) :=
  ⟨r.hd, by have := r.dp; rw [make_depth]; omega, by have := r.un; rw [make_units]; omega⟩
theorem Room.depth {k : Nat} {A : Around} (r : Room k A) : A.depth < recursionLimit := by have := r.dp; omega
theorem Room.units {k : Nat} {A : Around} (r : Room k A) : A.units + 64 < cLine := by have := r.un; omega
/-! ### argument lists and displays -/
def tNil : TA := fun _ H Q => Q [] H
def tCons (ta : TE) (tr : TA) : TA := fun σ H Q => ta σ H fun x H1 => tr σ H1 fun xs H2 => Q (x :: xs) H2
section
variable {X : Cx} {e : Expr} {es : List Expr} {te : TE} {t : TA} {pos : Pos}
theorem pa_nil : PA X [] tNil := fun _ _ _ _ H Q I h => Calls.spliced_nil ⟨[], H, I, .nil, h⟩
theorem pa_cons (ha : PE X e te) (hr : PA X es t) (hs : starEach (e :: es) X.env = (false, eval e X.env) :: starEach es X.env := by rfl) : PA X (e :: es) (tCons te t) := by
  intro pos pins s σ H Q I h
  rw [hs]
  show wpAny _ _ (spliced ((false, eval e X.env) :: backTo pos (starEach es X.env))) _ _ s
  refine Calls.spliced_cons (thn (ha pins s σ H _ I h) fun u s1 ⟨x, H1, I1, r1, q1⟩ => ?_)
  exact thn (hr pos pins s1 σ H1 _ I1 q1) fun us s2 ⟨xs, H2, I2, r2, q2⟩ => ⟨x :: xs, H2, I2, .cons r1 r2, q2⟩

/-- a tuple, a list of written items -/
def tTup (t : TA) : TE := fun σ H Q => t σ H fun xs H1 => xs.length ≤ sizeLine ∧ ∀ p, H1 p = none → Q (.ref p) (upd H1 p (.tup xs))
def tLst (t : TA) : TE := fun σ H Q => t σ H fun xs H1 => xs.length ≤ sizeLine ∧ ∀ p, H1 p = none → Q (.ref p) (upd H1 p (.lst xs))
theorem pe_tup {x1} (h : PA X es t) : PE X (.Tuple es x1 pos) (tTup t) := by
  intro pins s σ H Q I hq
  refine wpAny_Tuple_spliced (thn (h pos pins s σ H _ I hq) fun us s1 ⟨xs, H1, I1, r, z, q⟩ => ⟨by rw [← r.length]; exact z, ?_⟩)
  have hf : H1 s1.heap.objs.size = none := I1.hok.fresh (Nat.le_refl _)
  refine ⟨.ref s1.heap.objs.size, upd H1 s1.heap.objs.size (.tup xs), I1.laid (t' := s1.toks) (fun b u e => Heap.get?_push_of_some _ e) (Nat.le_refl _) ?_, rfl, q _ hf⟩
  exact ⟨z, us, r, ⟨_, Heap.get?_push_size _ rfl, rfl, _, rfl⟩⟩
theorem pe_lst (h : PA X es t) : PE X (.List es pos) (tLst t) := by
  intro pins s σ H Q I hq
  refine wpAny_List_spliced (thn (h pos pins s σ H _ I hq) fun us s1 ⟨xs, H1, I1, r, z, q⟩ => ⟨by rw [← r.length]; exact z, ?_⟩)
  have hf : H1 s1.heap.objs.size = none := I1.hok.fresh (Nat.le_refl _)
  refine ⟨.ref s1.heap.objs.size, upd H1 s1.heap.objs.size (.lst xs), I1.laid (t' := s1.toks) (fun b u e => Heap.get?_push_of_some _ e) (Nat.le_refl _) ?_, rfl, q _ hf⟩
  exact ⟨z, us, 0, r, Heap.get?_push_size _ rfl⟩
end

/-! ### what a def promises -/
/-- a def's promise: the bound arguments in the parameters' order, the heap, the wanted end, the wanted exception -/
abbrev Sp := List V → Hp → VK → XK → Prop
/-- how an exception lies behind a call (file 08 gives it): the callers' frames, abstract heap and state ahead of the call, the wish, the exception, the state -/
abbrev CXT := List Env → Hp → Shared → XK → Value → Shared → Prop

/-- the state at a call -/
structure Env0 (P : Program) (w : World) (K : PySem.W.Frag) (mg : Str → Option Value) (base : Heap) (A : Around) (outer : List Env) (s : Shared) (H : Hp) : Prop where
  frames : A.frames = some outer
  mod : Mod K mg base
  bs : ∀ b o, base.get? b = some o → s.heap.get? b = some o ∧ H b = none
  bsz : base.objs.size ≤ s.heap.objs.size
  funs : s.heap.FunFrames base outer
  frf : ∀ b ∈ frs outer, H b = none
  hok : HOk P w H s.heap
  bare : AllBare s.gens
/-- a call's end -/
def CE (outer : List Env) (P : Program) (w : World) (H : Hp) (s : Shared) (Q : VK) (u : Value) (s' : Shared) : Prop :=
  ∃ v H', s'.os = s.os ∧ AllBare s'.gens ∧ Un (frs outer) [] H H' s.heap s'.heap ∧ HOk P w H' s'.heap ∧ RelV v u ∧ Q v H'
def CR (CX : CXT) (outer : List Env) (P : Program) (w : World) (H : Hp) (s : Shared) (Q : VK) (E : XK) (r : Result) (s' : Shared) : Prop :=
  match r with
  | .ok (.ret u) => CE outer P w H s Q u s'
  | .ok _ => False
  | .error e => CX outer H s E e s'
structure FnOk (P : Program) (w : World) (K : PySem.W.Frag) (mg : Str → Option Value) (base : Heap) (CX : CXT) (k : Nat) (f : Addr) (fd : FuncData) (ps : List Str) (sp : Sp) : Prop where
  len : ∀ vs H Q E, sp vs H Q E → vs.length = ps.length
  run : ∀ (A : Around) (outer : List Env) (s : Shared) (H : Hp) (args : Args) (us : List Value) (vs : List V) (Q : VK) (E : XK), Room k A → Env0 P w K mg base A outer s H → BindsTo s fd args (ps.zip us) → Vals vs us → sp vs H Q E →
    codeAny (model P w) A (.call (.ref f) args) (CR CX outer P w H s Q E) s
theorem Env0.make {P : Program} {w : World} {K : PySem.W.Frag} {mg : Str → Option Value} {base : Heap} {A : Around} {outer : List Env} {s : Shared} {H : Hp} (e : Env0 P w K mg base A outer s H) (C : Addr) (us : List Value) (kw : List (Str × Value)) :
    Env0 P w K mg base (A.under (.builtin "type.__call__" ⟨.ref C :: us, kw⟩)) outer s H := ⟨by first | exact e.frames | (simpa [Around.under, Code.envs, Code.isFrame, pushEnvs] using e.frames), e.mod, e.bs, e.bsz, e.funs, e.frf, e.hok, e.bare⟩
section
variable {X : Cx} {pins : List (Addr × Obj)} {σ : St} {H : Hp} {s s' : Shared}
/-- from a body: what a callee wants -/
theorem Inv.env0 (I : Inv X pins σ H s) : Env0 X.prog X.w X.K X.mg X.base X.A X.stack s H :=
  ⟨I.ok.frames, I.ok.mod, I.bs, Nat.le_trans I.ok.bsz I.sz, I.stack, I.stkFree, I.hok, I.bare⟩
/-- behind a call -/
theorem Inv.after {Q : VK} {u : Value} (I : Inv X pins σ H s) (h : CE X.stack X.prog X.w H s Q u s') : EP X pins σ Q u s' := by
  obtain ⟨v, H', os, bare, un, hok, r, q⟩ := h
  obtain ⟨hh, g, d, t, os'⟩ := s'
  obtain rfl : os' = s.os := os
  exact ⟨v, H', I.call (h' := hh) (g' := g) (d' := d) (t' := t) (ch := []) un hok bare (fun b z => absurd z (by simp)), r, q⟩
end

/-! ### calls -/
/-- f(..): the written arguments, then the defaults dvs; E: what is wanted of an exception -/
def tCall (sp : Sp) (dvs : List V) (E : XK) (t : TA) : TE := fun σ H Q => t σ H fun vs H1 => sp (vs ++ dvs) H1 Q E
/-- o.m(..) of an instance of the class at C -/
def tMeth (C : Addr) (m : Str) (sp : Sp) (dvs : List V) (E : XK) (ta : TE) (t : TA) : TE := fun σ H Q => ta σ H fun x H1 => ∃ a dx fs, x = .ref a ∧ H1 a = some (.ins C dx fs) ∧ fs.lookup m = none ∧
  t σ H1 fun vs H2 => sp (x :: (vs ++ dvs)) H2 Q E
/-- C(..): a new instance and its dict, then __init__ -/
def tMake (C : Addr) (sp : Sp) (dvs : List V) (E : XK) (t : TA) : TE := fun σ H Q => t σ H fun vs H1 => ∀ x dx, H1 x = none → H1 dx = none → dx ≠ x →
  sp (.ref x :: (vs ++ dvs)) (upd (upd H1 dx (.own x)) x (.ins C dx [])) (fun v H2 => v = .non ∧ Q (.ref x) H2) E

/-- how the parameters are bound: us the positional arguments, kw the keywords' values by name, ds the defaults that fill up -/
def Binds (K : PySem.W.Frag) (fd : FuncData) (ps : List Str) (ds : List Value) : Prop :=
  ∀ (s : Shared) (us : List Value), K.In s.heap → (us ++ ds).length = ps.length → BindsTo s fd ⟨us, []⟩ (ps.zip (us ++ ds))
/-- every parameter is given -/
theorem Binds.all {K : PySem.W.Frag} {fd : FuncData} {ps : List Str} (h : ∀ us : List Value, us.length = ps.length → bindArgs fd ⟨us, []⟩ = pure (ps.zip us)) : Binds K fd ps [] := fun s us _ hl => by
  rw [List.append_nil] at hl ⊢
  exact .of_eq (h us hl)

/-- an exception of a callee reaches what this body wants of exceptions -/
def Passes (CX : CXT) (X : Cx) (E : XK) : Prop := ∀ (pins : List (Addr × Obj)) (σ : St) (H : Hp) (s : Shared) (e : Value) (s' : Shared), Inv X pins σ H s → CX X.stack H s E e s' → X.xe e s'

section
variable {X : Cx} {CX : CXT} {k : Nat} {f C : Addr} {fd : FuncData} {ps : List Str} {sp : Sp} {dvs : List V} {ds : List Value} {E : XK} {x m : Str} {p pos apos : Pos} {e o : Expr} {es : List Expr} {ta : TE} {t : TA}

/-- the callee runs -/
theorem run_fn {pins : List (Addr × Obj)} {σ : St} {H : Hp} {s : Shared} {Q : VK} {us : List Value} {vs : List V} (F : FnOk X.prog X.w X.K X.mg X.base CX k f fd ps sp) (hr : Room k X.A) (hb : Binds X.K fd ps ds) (hd : Vals dvs ds) (hx : Passes CX X E)
    (I : Inv X pins σ H s) (r : Vals vs us) (h : sp (vs ++ dvs) H Q E) : wpAny (model X.prog X.w) X.A (call (.ref f) us) (EP X pins σ Q) X.xe s := by
  have r2 : Vals (vs ++ dvs) (us ++ ds) := r.append hd
  have hl : (us ++ ds).length = ps.length := by rw [← r2.length]; exact F.len _ _ _ _ h
  refine wpAny_call (codeAny_mono (F.run X.A X.stack s H ⟨us, []⟩ (us ++ ds) (vs ++ dvs) Q E hr I.env0 (hb s us I.kIn hl) r2 h) fun r s' hq => ?_)
  cases r with
  | error e => exact hx pins σ H s e s' I hq
  | ok fl =>
    cases fl with
    | ret u => exact I.after hq
    | next => exact False.elim hq
    | brk => exact False.elim hq
    | cont => exact False.elim hq

theorem pe_call (F : FnOk X.prog X.w X.K X.mg X.base CX k f fd ps sp) (hr : Room k X.A) (hg : Gl X x) (hm : X.mg x = some (.ref f)) (hk : PySem.W.keepIn X.K (.ref f) = true) (hb : Binds X.K fd ps ds) (hd : Vals dvs ds) (hx : Passes CX X E)
    (ha : PA X (e :: es) t) (hdb : (x == ("__debug__" : Str)) = false := by decide) (he : starEach (e :: es) X.env = (false, eval e X.env) :: starEach es X.env := by rfl) (hpl : (backTo pos (starEach es X.env)).any (·.1) = false := by rfl) :
    PE X (.Call (.Name x p) (e :: es) [] pos) (tCall sp dvs E t) := by
  intro pins s σ H Q I h
  refine wpAny_Call_Name_kw (ld_glob I hg hm ?_ hdb)
  refine PySem.W.callWith_K (h₀ := X.base) I.ok.mod.kin hk (thn (ha pos pins s σ H _ I h) fun us s1 ⟨vs, H1, I1, r, q⟩ => ⟨I1.kIn, ?_⟩) he hpl
  exact run_fn F hr hb hd hx I1 r q
/-- o.m(e, ..) -/
theorem pe_meth {pl : Sem Bool} (he : PE X o ta) (c : Cls X.K C) (hm : Meth X.K C m f) (F : FnOk X.prog X.w X.K X.mg X.base CX k f fd ps sp) (hr : Room k X.A) (hb : Binds X.K fd ps ds) (hd : Vals dvs ds) (hx : Passes CX X E) (ha : PA X (e :: es) t)
    (hst : starEach (e :: es) X.env = (false, eval e X.env) :: starEach es X.env := by rfl) (hpl : (backTo pos (starEach es X.env)).any (·.1) = false := by rfl)
    (ht : eval (.Call (.Attribute o m apos) (e :: es) [] pos) X.env = (do
      let ov ← eval o X.env
      standAt apos.atName
      let (f, first) ← holding [ov] (getMethod ov m pl)
      callWith pos f first (backTo pos (starEach (e :: es) X.env)) (backToKw pos (keywordEach [] X.env))) := by rfl) :
    PE X (.Call (.Attribute o m apos) (e :: es) [] pos) (tMeth C m sp dvs E ta t) := by
  intro pins s σ H Q I h
  refine PySem.W.methodCall_KW (pl := pl) (thn (he pins s σ H _ I h) fun u s1 ⟨x, H1, I1, rx, a, dx, fs, ex, ea, l, q⟩ => ?_) ht
  subst ex
  obtain rfl : u = Value.ref a := rx
  refine getmeth_ok I1 ea c hm l ?_
  refine PySem.W.callWith_K (first := [.ref a]) (h₀ := X.base) I.ok.mod.kin hm.kp (thn (ha pos pins s1 σ H1 _ I1 q) fun us s2 ⟨vs, H2, I2, r, q2⟩ => ⟨I2.kIn, ?_⟩) hst hpl
  exact run_fn (us := .ref a :: us) (vs := .ref a :: vs) F hr hb hd hx I2 (.cons rfl r) q2
/-- o.m() -/
theorem pe_meth0 {pl : Sem Bool} (he : PE X o ta) (c : Cls X.K C) (hm : Meth X.K C m f) (F : FnOk X.prog X.w X.K X.mg X.base CX k f fd ps sp) (hr : Room k X.A) (hb : Binds X.K fd ps ds) (hd : Vals dvs ds) (hx : Passes CX X E)
    (ht : eval (.Call (.Attribute o m apos) [] [] pos) X.env = (do
      let ov ← eval o X.env
      standAt apos.atName
      let (f, first) ← holding [ov] (getMethod ov m pl)
      callWith pos f first (backTo pos (starEach [] X.env)) (backToKw pos (keywordEach [] X.env))) := by rfl) :
    PE X (.Call (.Attribute o m apos) [] [] pos) (tMeth C m sp dvs E ta tNil) := by
  intro pins s σ H Q I h
  refine PySem.W.methodCall_KW (pl := pl) (thn (he pins s σ H _ I h) fun u s1 ⟨x, H1, I1, rx, a, dx, fs, ex, ea, l, q⟩ => ?_) ht
  subst ex
  obtain rfl : u = Value.ref a := rx
  refine getmeth_ok I1 ea c hm l ?_
  exact PySem.W.callWith_K0 (first := [.ref a]) I1.kIn hm.kp (run_fn (us := [.ref a]) (vs := [.ref a]) F hr hb hd hx I1 (.cons rfl .nil) q)

/-- what a class must have to be made -/
structure Mk (K : PySem.W.Frag) (C f : Addr) : Prop where
  makes : PySem.W.makesIn K C = true
  init : PySem.W.findIn K (.ref C) "__init__" = some (some (.ref f))
  fn : PySem.W.isFn K (.ref f) = true
  kp : PySem.W.keepIn K (.ref C) = true

theorem run_make {pins : List (Addr × Obj)} {σ : St} {H : Hp} {s : Shared} {Q : VK} {us : List Value} {vs : List V} (M : Mk X.K C f) (F : FnOk X.prog X.w X.K X.mg X.base CX k f fd ps sp) (hr : Room (k + 1) X.A) (hb : Binds X.K fd ps ds) (hd : Vals dvs ds)
    (hx : Passes CX X E) (I : Inv X pins σ H s) (r : Vals vs us)
    (h : ∀ x dx, H x = none → H dx = none → dx ≠ x → sp (.ref x :: (vs ++ dvs)) (upd (upd H dx (.own x)) x (.ins C dx [])) (fun v H2 => v = .non ∧ Q (.ref x) H2) E) :
    wpAny (model X.prog X.w) X.A (call (.ref C) us) (EP X pins σ Q) X.xe s := by
  have hq := h (s.heap.objs.size + 1) s.heap.objs.size (I.hok.fresh (Nat.le_succ _)) (I.hok.fresh (Nat.le_refl _)) (Nat.ne_of_lt (Nat.lt_succ_self _))
  have I2 := Inv.made (C := C) I
  have r2 : Vals (V.ref (s.heap.objs.size + 1) :: (vs ++ dvs)) (Value.ref (s.heap.objs.size + 1) :: (us ++ ds)) := .cons rfl (r.append hd)
  have hl : (Value.ref (s.heap.objs.size + 1) :: us ++ ds).length = ps.length := by
    have e := r2.length
    rw [F.len _ _ _ _ hq] at e
    exact e.symm
  refine wpAny_call (make_map (f := f) I.kIn M.makes M.init (beq_iff_eq.mp M.fn) (codeAny_mono (F.run _ X.stack _ _ ⟨Value.ref (s.heap.objs.size + 1) :: us, []⟩ (Value.ref (s.heap.objs.size + 1) :: (us ++ ds)) _ _ E (hr.make C us [])
    (I2.env0.make C us []) (hb _ (Value.ref (s.heap.objs.size + 1) :: us) I2.kIn hl) r2 hq) fun r s' hq' => ?_))
  cases r with
  | error e => exact hx pins σ _ _ e s' I2 hq'
  | ok fl =>
    cases fl with
    | ret u =>
      obtain ⟨v, H', I3, rv, ev, q3⟩ := I2.after hq'
      subst ev
      exact ⟨rv, ⟨V.ref (s.heap.objs.size + 1), H', I3, rfl, q3⟩⟩
    | next => exact False.elim hq'
    | brk => exact False.elim hq'
    | cont => exact False.elim hq'
theorem pe_make (M : Mk X.K C f) (F : FnOk X.prog X.w X.K X.mg X.base CX k f fd ps sp) (hr : Room (k + 1) X.A) (hg : Gl X x) (hm : X.mg x = some (.ref C)) (hb : Binds X.K fd ps ds) (hd : Vals dvs ds) (hx : Passes CX X E)
    (ha : PA X (e :: es) t) (hdb : (x == ("__debug__" : Str)) = false := by decide) (he : starEach (e :: es) X.env = (false, eval e X.env) :: starEach es X.env := by rfl) (hpl : (backTo pos (starEach es X.env)).any (·.1) = false := by rfl) :
    PE X (.Call (.Name x p) (e :: es) [] pos) (tMake C sp dvs E t) := by
  intro pins s σ H Q I h
  refine wpAny_Call_Name_kw (ld_glob I hg hm ?_ hdb)
  refine PySem.W.callWith_K (h₀ := X.base) I.ok.mod.kin M.kp (thn (ha pos pins s σ H _ I h) fun us s1 ⟨vs, H1, I1, r, q⟩ => ⟨I1.kIn, ?_⟩) he hpl
  exact run_make M F hr hb hd hx I1 r q
end

/-! ### keywords -/
section
variable {X : Cx} {CX : CXT} {k : Nat} {f C : Addr} {fd : FuncData} {ps ks : List Str} {sp : Sp} {E : XK} {x m : Str} {p pos apos kpos : Pos} {e o : Expr} {es : List Expr} {kws : List Keyword} {te ta : TE} {t tk : TA} {nm : Option Str}
variable {g : List Value → List Value → List Value} {gV : List V → List V → List V}
end

/-! ### a def's body keeps its promise -/
/-- names: the parameters first -/
structure FnScope (N P : List Str) (sc : Scope) : Prop where
  kind : sc.kind = .function
  co : sc.isCoroutine = false
  gen : sc.isGenerator = false
  nd : N.Nodup
  pre : N.take P.length = P
  par : ∀ x ∈ P, sc.names.lookup x = some .local ∨ sc.names.lookup x = some .cell
  nofree : ∀ y ∈ sc.names, y.2 ≠ .free

theorem bindL_out {kindOf : Str → Option NameKind} {x : Str} : ∀ {binds : List (Str × Value)} {m : Str → Option Value}, (∀ v, (x, v) ∉ binds) → bindL kindOf binds m x = m x
  | [], _, _ => rfl
  | (n, v) :: r, m, h => by
    unfold bindL
    rw [bindL_out fun w hw => h w (List.mem_cons_of_mem _ hw)]
    split
    · have : x ≠ n := by rintro rfl; exact h v List.mem_cons_self
      simp [this]
    · rfl
theorem bindC_out {kindOf : Str → Option NameKind} {x : Str} : ∀ {binds : List (Str × Value)} {m : Str → Option Value}, (∀ v, (x, v) ∉ binds) → bindC kindOf binds m x = m x
  | [], _, _ => rfl
  | (n, v) :: r, m, h => by
    unfold bindC
    rw [bindC_out fun w hw => h w (List.mem_cons_of_mem _ hw)]
    split
    · rfl
    · have : x ≠ n := by rintro rfl; exact h v List.mem_cons_self
      simp [this]
theorem bindL_get {kindOf : Str → Option NameKind} {x : Str} {v : Value} : ∀ {P : List Str} {vs : List Value} {i : Nat} {m : Str → Option Value}, P.Nodup → P[i]? = some x → vs[i]? = some v → kindOf x = some .local →
    bindL kindOf (P.zip vs) m x = some v
  | [], _, _, _, _, h, _, _ => by simp at h
  | _ :: _, [], _, _, _, _, h, _ => by simp at h
  | p :: P, w :: vs, 0, m, nd, h1, h2, hk => by
    simp at h1 h2; subst h1; subst h2
    show bindL kindOf ((p, w) :: P.zip vs) m p = _
    unfold bindL
    rw [bindL_out fun v hv => (List.nodup_cons.mp nd).1 (List.of_mem_zip hv).1, if_pos hk]
    simp
  | p :: P, w :: vs, i + 1, m, nd, h1, h2, hk => by
    show bindL kindOf ((p, w) :: P.zip vs) m x = _
    unfold bindL
    exact bindL_get (i := i) (List.nodup_cons.mp nd).2 (by simpa using h1) (by simpa using h2) hk
theorem bindC_get {kindOf : Str → Option NameKind} {x : Str} {v : Value} : ∀ {P : List Str} {vs : List Value} {i : Nat} {m : Str → Option Value}, P.Nodup → P[i]? = some x → vs[i]? = some v → kindOf x ≠ some .local →
    bindC kindOf (P.zip vs) m x = some v
  | [], _, _, _, _, h, _, _ => by simp at h
  | _ :: _, [], _, _, _, _, h, _ => by simp at h
  | p :: P, w :: vs, 0, m, nd, h1, h2, hk => by
    simp at h1 h2; subst h1; subst h2
    show bindC kindOf ((p, w) :: P.zip vs) m p = _
    unfold bindC
    rw [bindC_out fun v hv => (List.nodup_cons.mp nd).1 (List.of_mem_zip hv).1, if_neg hk]
    simp
  | p :: P, w :: vs, i + 1, m, nd, h1, h2, hk => by
    show bindC kindOf ((p, w) :: P.zip vs) m x = _
    unfold bindC
    exact bindC_get (i := i) (List.nodup_cons.mp nd).2 (by simpa using h1) (by simpa using h2) hk

/-- the names' values at the entry -/
def start (N : List Str) (vs : List V) : St := vs.map some ++ List.replicate (N.length - vs.length) none

/-- the context of a def's body, at its entry; an exception leaves the frame, then lies as CX says -/
def cxOf (CX : CXT) (P : Program) (w : World) (K : PySem.W.Frag) (mg : Str → Option Value) (base : Heap) (N : List Str) (qual : Str) (scope : Scope) (f : Addr) (cd : Value) (A : Around) (outer : List Env) (s : Shared) (H : Hp) (E : XK) : Cx where
  prog := P
  w := w
  K := K
  mg := mg
  base := base
  A := A.deeper (envOfC qual scope s.heap.objs.size f cd)
  N := N
  s₀ := s
  H₀ := H
  env := envOfC qual scope s.heap.objs.size f cd
  outer := outer
  stack := envOfC qual scope s.heap.objs.size f cd :: outer
  ex := []
  calm := true
  fn := fun _ => true
  pn := []
  xe := fun e s' => wpAny (model P w) (A.deeper (envOfC qual scope s.heap.objs.size f cd)) (leaving (envOfC qual scope s.heap.objs.size f cd) e) (fun _ s'' => CX outer H s E e s'') (fun e' s'' => CX outer H s E e' s'') s'

theorem cell_has {sc : Scope} {n : Nat} {x : Str} (h : sc.names.lookup x = some .cell) : ∃ c, (cellsFrom n sc.names []).lookup x = some c := by
  have q := PySem.W.cellsFrom_some sc.names n [] (.inl h)
  exact Option.isSome_iff_exists.mp q

theorem inv_start {CX : CXT} {P : Program} {w : World} {K : PySem.W.Frag} {mg : Str → Option Value} {base : Heap} {N ps : List Str} {qual : Str} {scope : Scope} {f : Addr} {cd : Value} {A : Around} {outer : List Env} {s s1 : Shared} {H : Hp} {E : XK} {us : List Value} {vs : List V}
    (S : FnScope N ps scope) (hd : A.handled = none) (e0 : Env0 P w K mg base A outer s H) (hl : vs.length = ps.length) (r : Vals vs us)
    (x : InCallC s s.heap.objs.size (bindL (envOfC qual scope s.heap.objs.size f cd).kindOf (ps.zip us) fun _ => none) (cellsFrom (s.heap.objs.size + 1) scope.names []) (bindC (envOfC qual scope s.heap.objs.size f cd).kindOf (ps.zip us) fun _ => none) s1) :
    Inv (cxOf CX P w K mg base N qual scope f cd A outer s H E) [] (start N vs) H s1 := by
  have hpl : ps.length ≤ N.length := by have := congrArg List.length S.pre; rw [List.length_take] at this; omega
  obtain ⟨h1, tk, rfl, hk⟩ := x.done
  have noA : ∀ b : Addr, b ∉ (cxOf CX P w K mg base N qual scope f cd A outer s H E).ex := fun b z => absurd (show b ∈ ([] : List Addr) from z) (by simp)
  refine ⟨⟨e0.mod, S.kind, rfl, rfl, Nat.le_refl _, fun y z c h1 h2 => ?_, fun y hy => ?_, fun y c _ h => ?_, fun _ => hd, Around.frames_deeper e0.frames, .inr ⟨rfl, rfl⟩, fun b z => absurd z (noA b), e0.bs, e0.bsz, fun b _ _ => noA b, fun b z => absurd z (noA b), e0.funs, e0.frf⟩,
    rfl, e0.bare, Un.kept hk, ⟨_, x.toInCall.ns, fun i y v h1 h2 h3 => ?_⟩, fun y c h => ⟨_, x.cell y c h⟩, e0.hok.fresh (Nat.le_refl _), fun y c h => ?_, fun p hp => absurd (show p ∈ ([] : List (Addr × Obj)) from hp) (by simp), e0.hok.kept hk, ?_⟩
  · exact name_of_addr x.apart (PySem.mem_of_lookup h1) (PySem.mem_of_lookup h2)
  · have hy : scope.names.lookup y = some .cell ∨ scope.names.lookup y = some .free := hy
    rcases hy with hy | hy
    · exact cell_has hy
    · exact absurd rfl (S.nofree _ (PySem.mem_of_lookup hy))
  · exact Nat.le_of_lt (x.above y c (PySem.mem_of_lookup h))
  · have hi : i < vs.length := by
      unfold start at h2
      by_cases hi : i < vs.length
      · exact hi
      · rw [List.getElem?_append_right (by simpa using hi)] at h2
        rw [List.getElem?_replicate] at h2
        split at h2 <;> cases h2
    have ha : vs[i]? = some v := by
      unfold start at h2
      rw [List.getElem?_append_left (by simpa using hi), List.getElem?_map] at h2
      cases e : vs[i]? with
      | none => rw [e] at h2; cases h2
      | some a => rw [e] at h2; cases h2; rfl
    obtain ⟨u, hu, rv⟩ := r.get ha
    have hp : ps[i]? = some y := by
      rw [← S.pre, List.getElem?_take_of_lt (by omega)]; exact h1
    have ndP : ps.Nodup := by rw [← S.pre]; exact S.nd.sublist (List.take_sublist _ _)
    refine ⟨u, rv, ?_⟩
    rcases S.par y (List.mem_of_getElem? hp) with k | k
    · exact .inl ⟨k, bindL_get ndP hp hu k⟩
    · obtain ⟨c, e⟩ := cell_has (n := s.heap.objs.size + 1) k
      refine .inr ⟨.inl k, c, e, ?_⟩
      have q := x.cell y c e
      rw [bindC_get ndP hp hu (by show scope.names.lookup y ≠ _; rw [k]; decide)] at q
      exact q
  · exact e0.hok.fresh (Nat.le_of_lt (x.above y c (PySem.mem_of_lookup h)))
  · unfold start
    show _ = N.length
    rw [List.length_append, List.length_map, List.length_replicate]
    omega

/-- THE RULE: a def (or a method) of the text, by its body. The body's reading t is chosen for each entry; it is run at the parameters' values -/
theorem fn_of {CX : CXT} {P : Program} {w : World} {K : PySem.W.Frag} {mg : Str → Option Value} {base : Heap} {k : Nat} {f : Addr} {name qual : Str} {params : Arguments} {body : List Stmt} {scope : Scope} {dV kV doc pm cdv ct oc : Value} {an od : Option Addr}
    {osl : Array (Option Value)} {N ps : List Str} {sp : Sp} (lk : K.lookup f = some ⟨oc, od, .func (PySem.W.fnOf name qual params body scope dV kV doc pm an cdv ct), osl⟩) (hcd : PySem.W.codeIn K cdv qual = true) (S : FnScope N ps scope)
    (len : ∀ vs H Q E, sp vs H Q E → vs.length = ps.length)
    (hbody : ∀ (A : Around) (outer : List Env) (s : Shared) (H : Hp) (vs : List V) (Q : VK) (E : XK), Room k (A.deeper (envOfC qual scope s.heap.objs.size f cdv)) → sp vs H Q E →
      ∃ t, PSs (cxOf CX P w K mg base N qual scope f cdv A outer s H E) body t ∧ t { nx := fun _ H' => Q .non H', rt := Q } (start N vs) H) :
    FnOk P w K mg base CX (k + 1) f (PySem.W.fnOf name qual params body scope dV kV doc pm an cdv ct) ps sp := by
  refine ⟨len, fun A outer s H args us vs Q E hr e0 hb r hsp => ?_⟩
  have hl := len _ _ _ _ hsp
  have KX : K.In s.heap := e0.mod.kin.keeps fun b o e => (e0.bs b o e).1
  have lim : s.heap.NoLimit := e0.mod.nolimit.keeps fun b o e => (e0.bs b o e).1
  have hkind : ∀ y ∈ ps.zip us, scope.names.lookup y.1 = some .local ∨ (scope.names.lookup y.1 = some .cell ∧ ((cellsFrom (s.heap.objs.size + 1) scope.names []).lookup y.1).isSome = true) := fun ⟨n, v⟩ hy => by
    rcases S.par n (List.of_mem_zip hy).1 with q | q
    · exact .inl q
    · exact .inr ⟨q, PySem.W.cellsFrom_some _ _ _ (.inl q)⟩
  refine codeAny_call_function hr.depth (KX _ _ lk) rfl S.co S.gen rfl (PySem.W.codeRec_of KX hcd) (hb _ _ _ _ ?_)
  refine wpAny_newFunctionEnv_cells S.kind hkind fun env he s1 x => ?_
  subst he
  refine ⟨lim.keeps x.toInCall.keep, codeAny_func ?_⟩
  obtain ⟨t, ht, hq⟩ := hbody A outer s H vs Q E (hr.deeper _) hsp
  have I : Inv (cxOf CX P w K mg base N qual scope f cdv A outer s H E) [] (start N vs) H s1 := inv_start S hr.hd e0 hl r x
  refine wpAny_mono (ht [] s1 (start N vs) H _ I hq) (fun fl s' hs => ?_) fun e s' hs => hs
  have fin : ∀ {σ' : St} {H' : Hp} {v : V} {u : Value}, Inv (cxOf CX P w K mg base N qual scope f cdv A outer s H E) [] σ' H' s' → RelV v u → Q v H' → CE outer P w H s Q u s' :=
    fun {σ' H' v u} J rv q => ⟨v, H', J.os, J.bare, J.base, J.hok, rv, q⟩
  cases fl with
  | ret u =>
    obtain ⟨v, σ', H', J, rv, q⟩ := hs
    exact fin J rv q
  | next =>
    obtain ⟨σ', H', J, q⟩ := hs
    exact fin (v := V.non) (u := Value.none) J rfl q
  | brk =>
    obtain ⟨_, _, _, q⟩ := hs
    exact False.elim q
  | cont =>
    obtain ⟨_, _, _, q⟩ := hs
    exact False.elim q
end L2

namespace L2
open PySem PySem.Spec PyProof.Rows
section
variable {X : Cx} {x : Str} {p pos : Pos} {e : Expr} {es : List Expr} {t : TA} {id T : String} {r : List V → Hp → VK → Prop}

def tCB (r : List V → Hp → VK → Prop) (t : TA) : TE := fun σ H Q => t σ H fun vs H1 => r vs H1 Q
/-- f(e, ..), f a built-in function -/
theorem pe_callB (hc : CallR X (.builtin id) r) (hg : Gl X x) (hm : X.mg x = none) (hv : bootBuiltins x = some (.builtin id)) (ha : PA X (e :: es) t) (hn : x ≠ "__name__" := by decide) (hdb : (x == ("__debug__" : Str)) = false := by decide)
    (he : starEach (e :: es) X.env = (false, eval e X.env) :: starEach es X.env := by rfl) (hpl : (backTo pos (starEach es X.env)).any (·.1) = false := by rfl) : PE X (.Call (.Name x p) (e :: es) [] pos) (tCB r t) := by
  intro pins s σ H Q I h
  refine wpAny_Call_Name_kw (ld_blt I hg hm hv ?_ hn hdb)
  exact PyProof.Rows.callWith_builtin1 (thn (ha pos pins s σ H _ I h) fun us s1 ⟨vs, H1, I1, r1, q1⟩ => hc pins s1 σ H1 vs us Q I1 r1 q1) he hpl
/-- T(e, ..), T a built-in type -/
theorem pe_callTy (hc : CallR X (.type T) r) (hg : Gl X x) (hm : X.mg x = none) (hv : bootBuiltins x = some (.type T)) (ha : PA X (e :: es) t) (hn : x ≠ "__name__" := by decide) (hdb : (x == ("__debug__" : Str)) = false := by decide)
    (he : starEach (e :: es) X.env = (false, eval e X.env) :: starEach es X.env := by rfl) (hpl : (backTo pos (starEach es X.env)).any (·.1) = false := by rfl) : PE X (.Call (.Name x p) (e :: es) [] pos) (tCB r t) := by
  intro pins s σ H Q I h
  refine wpAny_Call_Name_kw (ld_blt I hg hm hv ?_ hn hdb)
  exact PyProof.Rows.callWith_type1 (thn (ha pos pins s σ H _ I h) fun us s1 ⟨vs, H1, I1, r1, q1⟩ => hc pins s1 σ H1 vs us Q I1 r1 q1) he hpl
end
end L2

namespace HT
open PySem PyProof.Rows

section
open PySem.SeqAt
open PySem.AutoSeq1 (wpAny_loadPart')
open PySem.MeetsSeq PySem.MeetsSeq2 PySem.MeetsSeq3

end

section
variable {prog : Program} {w : World} {A : Around} {E : Value → Shared → Prop} {s : Shared}

/-! ### t[a:b], not the whole -/
/-- a slice's bound as a place among n (d where it is left out) -/
def sIx (n d : Nat) : Option Int → Nat
  | none => d
  | some v => if v < 0 then (v + (n : Int)).toNat else min v.toNat n
theorem sIx_nat (n d k : Nat) : sIx n d (some (k : Int)) = min k n := by
  show (if (k : Int) < 0 then ((k : Int) + (n : Int)).toNat else min (k : Int).toNat n) = min k n
  rw [if_neg (by omega), Int.toNat_natCast]
end
end HT

namespace L2
open PySem PySem.Spec PyProof.Rows

/-! ### the parts of a slice -/
abbrev TO := St → Hp → (Option Int → Hp → Prop) → Prop
/-- a slice's part (left out, or an int) -/
def PO (X : Cx) (e : Option Expr) (t : TO) : Prop :=
  ∀ (pins : List (Addr × Obj)) (s : Shared) (σ : St) (H : Hp) (Q : Option Int → Hp → Prop), Inv X pins σ H s → t σ H Q →
    wpAny (model X.prog X.w) X.A (evalPart e X.env) (fun u s' => ∃ o H', Inv X pins σ H' s' ∧ IsPart u o ∧ Q o H') X.xe s
def tNoPart : TO := fun _ H Q => Q none H
section
variable {X : Cx} {e : Expr} {te : TE} {lo hi : Option Expr} {tl th : TO} {pos p2 : Pos}

theorem po_none : PO X none tNoPart := by
  intro pins s σ H Q I h
  rw [evalPart_none]
  exact wpAny_pure ⟨none, H, I, .none, h⟩
/-- what a slice of a value is, by values: the slice object stands at sl -/
def SlR (X : Cx) (r : V → Option Int → Option Int → Hp → VK → Prop) : Prop :=
  ∀ (pins : List (Addr × Obj)) (s : Shared) (σ : St) (H : Hp) (x : V) (v vl vu : Value) (lo hi : Option Int) (sl : Addr) (Q : VK), Inv X pins σ H s → RelV x v → s.heap.IsSliceOf sl vl vu .none → IsPart vl lo → IsPart vu hi → r x lo hi H Q →
    ∃ T id, typeLookup (.type T) "__getitem__" = pure (some (.builtin id)) ∧ s.TypeIs v T ∧ wpAny (model X.prog X.w) X.A (getItem v (.ref sl)) (EP X pins σ Q) X.xe s
def tSl (r : V → Option Int → Option Int → Hp → VK → Prop) (te : TE) (tl th : TO) : TE := fun σ H Q => te σ H fun x H1 => tl σ H1 fun l H2 => th σ H2 fun u H3 => r x l u H3 Q
/-- a[lo:hi], any a -/
theorem pe_slice {r : V → Option Int → Option Int → Hp → VK → Prop} (hr : SlR X r) (he : PE X e te) (hl : PO X lo tl) (hu : PO X hi th) : PE X (.Subscript e (.Slice lo hi none p2) pos) (tSl r te tl th) := by
  intro pins s σ H Q I h
  refine Subscript_ (thn (he pins s σ H _ I h) fun v s1 ⟨x, H1, I1, r1, q1⟩ => ?_)
  refine wpAny_Slice (thn (hl pins s1 σ H1 _ I1 q1) fun vl s2 ⟨l, H2, I2, pl, q2⟩ => thn (hu pins s2 σ H2 _ I2 q2) fun vu s3 ⟨u, H3, I3, pu, q3⟩ => ?_)
  rw [evalPart_none]
  refine wpAny_pure ?_
  have I4 : Inv X pins σ H3 { s3 with heap := s3.heap.push { cls := .type "slice", data := .fields #[vl, vu, .none] } } := I3.kept (t' := s3.toks) fun b ob q => Heap.get?_push_of_some _ q
  obtain ⟨T, id, hT, ht, hg⟩ := hr pins { s3 with heap := s3.heap.push { cls := .type "slice", data := .fields #[vl, vu, .none] } } σ H3 x v vl vu l u s3.heap.objs.size Q I4 r1 (Heap.IsSliceOf.new ..) pl pu q3
  show wpAny (model X.prog X.w) X.A (subscriptTail e (.Slice lo hi none p2) v (.ref s3.heap.objs.size)) (EP X pins σ Q) X.xe { s3 with heap := s3.heap.push { cls := .type "slice", data := .fields #[vl, vu, .none] } }
  exact tail_any (ops := [.ref s3.heap.objs.size, v]) ht hT hg (by with_unfolding_all rfl)

/-- the items of xs[lo:hi] -/
def cutV (xs : List V) (lo hi : Option Int) : List V := (xs.drop (HT.sIx xs.length 0 lo)).take (HT.sIx xs.length xs.length hi - HT.sIx xs.length 0 lo)
theorem cutV_length (xs : List V) (lo hi : Option Int) : (cutV xs lo hi).length ≤ xs.length := by
  unfold cutV
  rw [List.length_take, List.length_drop]
  omega
/-! ### t < u, t + u -/
end
end L2

namespace L2
open PySem PySem.Spec PyProof.Rows

/-! ### places -/
/-- the place that an index of any sign means -/
def ixN (n : Nat) (i : Int) : Option Nat := if 0 ≤ i then (if i < n then some i.toNat else none) else if -(n : Int) ≤ i then some (i + n).toNat else none
def atI {α : Type} (xs : List α) (i : Int) : Option α := (ixN xs.length i).bind fun j => xs[j]?
theorem ixN_seq {n : Nat} {i : Int} {j : Nat} (h : ixN n i = some j) : seqIndex? i n = some j ∧ j < n ∧ -(n : Int) ≤ i ∧ i < n := by
  unfold ixN at h
  by_cases h0 : 0 ≤ i
  · rw [if_pos h0] at h
    by_cases h1 : i < n
    · rw [if_pos h1] at h
      have e : i.toNat = j := Option.some.inj h
      exact ⟨by rw [seqIndex_of h0 h1, e], by omega, by omega, h1⟩
    · rw [if_neg h1] at h; cases h
  · rw [if_neg h0] at h
    by_cases h1 : -(n : Int) ≤ i
    · rw [if_pos h1] at h
      have e : (i + n).toNat = j := Option.some.inj h
      exact ⟨by rw [seqIndex_neg (by omega) h1, e], by omega, h1, by omega⟩
    · rw [if_neg h1] at h; cases h
theorem atI_get {α : Type} {xs : List α} {i : Int} {v : α} (h : atI xs i = some v) : ∃ j, seqIndex? i xs.length = some j ∧ xs[j]? = some v ∧ j < xs.length ∧ -(xs.length : Int) ≤ i ∧ i < xs.length := by
  unfold atI at h
  cases e : ixN xs.length i with
  | none => rw [e] at h; cases h
  | some j =>
    rw [e] at h
    obtain ⟨h1, h2, h3, h4⟩ := ixN_seq e
    exact ⟨j, h1, h, h2, h3, h4⟩
theorem atI_nat {α : Type} {xs : List α} {j : Nat} {v : α} (h : xs[j]? = some v) : atI xs (j : Int) = some v := by
  have hj : j < xs.length := (List.getElem?_eq_some_iff.mp h).1
  have e : ixN xs.length (j : Int) = some j := by
    unfold ixN
    rw [if_pos (by omega), if_pos (by omega)]; simp
  unfold atI; rw [e]; exact h
/-! ### what may be subscripted -/
/-- what stands as an index of a plain subscript -/
def PlainIx (b : Expr) : Prop := ∀ o i, subscripted b false o i = operate [o, i] (getItem o i)
/-- a subscript by values -/
def IxR (X : Cx) (r : R2) : Prop :=
  ∀ (value slice : Expr) (pins : List (Addr × Obj)) (s : Shared) (σ : St) (H : Hp) (x y : V) (v u : Value) (Q : VK), Inv X pins σ H s → RelV x v → RelV y u → r x y H Q →
    subscripted slice false v u = operate [v, u] (getItem v u) → wpAny (model X.prog X.w) X.A (subscriptTail value slice v u) (EP X pins σ Q) X.xe s
/-- a call of a builtin's method by values: the receiver, the arguments -/
def MtR (X : Cx) (id : String) (r : V → List V → Hp → VK → Prop) : Prop :=
  ∀ (pins : List (Addr × Obj)) (s : Shared) (σ : St) (H : Hp) (x : V) (xs : List V) (v : Value) (us : List Value) (Q : VK), Inv X pins σ H s → RelV x v → Vals xs us → r x xs H Q →
    wpAny (model X.prog X.w) X.A (call (.builtin id) (v :: us)) (EP X pins σ Q) X.xe s
section
variable {X : Cx} {a b : Expr} {ta tb : TE} {pos : Pos}
/-- a[b] -/
theorem pe_ix {r : R2} (hr : IxR X r) (ha : PE X a ta) (hb : PE X b tb) (hs : PlainIx b) : PE X (.Subscript a b pos) (tOp r ta tb) := by
  intro pins s σ H Q I h
  exact Subscript_ (binT ha hb I h fun v u s2 x y H2 I2 rx ry q => hr a b pins s2 σ H2 x y v u Q I2 rx ry q (hs _ _))

def rIxL (K : PySem.W.Frag) : R2 := fun x y H Q => ∃ p xs i v, x = .ref p ∧ y = .int i ∧ SqL K H p xs ∧ atI xs i = some v ∧ Q v H
def rIxT (K : PySem.W.Frag) : R2 := fun x y H Q => ∃ p xs i v, x = .ref p ∧ y = .int i ∧ SqT K H p xs ∧ atI xs i = some v ∧ Q v H
theorem ix_list : IxR X (rIxL X.K) := by
  intro value slice pins s σ H x y v u Q I rx ry h hs
  obtain ⟨p, xs, i, z, rfl, rfl, hq, he, q⟩ := h
  cases rx
  obtain ⟨t, rfl⟩ := ry
  obtain ⟨its, r, pl, hz⟩ := I.list hq
  obtain ⟨j, h1, h2, h3, h4, h5⟩ := atI_get he
  obtain ⟨w, ew, rw'⟩ := r.get h2
  have hl := r.length
  have hn := line63
  have fin : EP X pins σ Q w s := ⟨z, H, I, rw', q⟩
  by_cases h0 : 0 ≤ i
  · have hj : i.toNat = j := by
      rw [seqIndex_of h0 h5] at h1
      exact Option.some.inj h1
    exact item_listR pl.isList h0 (by omega) (by rw [hj]; simpa using ew) fin hs
  · have hj : (i + (its.toArray.size : Int)).toNat = j := by
      rw [seqIndex_neg (by omega) h4] at h1
      rw [List.size_toArray, ← hl]
      exact Option.some.inj h1
    exact subscriptTail_builtinR (x := w) pl.isList.typeIs slot_list_getitem.lookup
      (wpAny_getItem_list_neg (Q := fun r s' => r = w ∧ EP X pins σ Q r s') pl.isList (by omega) (by rw [List.size_toArray] <;> omega) (by omega) (by rw [hj]; simpa using ew) ⟨rfl, fin⟩) hs
theorem ix_tup : IxR X (rIxT X.K) := by
  intro value slice pins s σ H x y v u Q I rx ry h hs
  obtain ⟨p, xs, i, z, rfl, rfl, hq, he, q⟩ := h
  cases rx
  obtain ⟨t, rfl⟩ := ry
  obtain ⟨its, r, pl, hz⟩ := I.tuple hq
  obtain ⟨j, h1, h2, h3, h4, h5⟩ := atI_get he
  obtain ⟨w, ew, rw'⟩ := r.get h2
  have hl := r.length
  have hn := line63
  have fin : EP X pins σ Q w s := ⟨z, H, I, rw', q⟩
  exact subscriptTail_builtinR (x := w) pl.typeIs slot_tuple_getitem.lookup
    (getItem_tuple (j := j) (Q := fun r s' => r = w ∧ EP X pins σ Q r s') pl (by omega) (by omega) (by rw [List.size_toArray, ← hl]; exact h1) (by simpa using ew) ⟨rfl, fin⟩) hs
/-! ### xs[i] = v, any sign -/
/-- the list's object behind a store -/
theorem mapSeq_set (its : List Value) (n j : Nat) (u : Value) : Obj.mapSeq (·.setIfInBounds j u) { cls := .type "list", data := .seq its.toArray n } = { cls := .type "list", data := .seq (its.set j u).toArray n } := by
  simp [Obj.mapSeq]
theorem Inv.lst {pins : List (Addr × Obj)} {σ : St} {H : Hp} {s : Shared} {p : Addr} {xs : List V} (I : Inv X pins σ H s) (h : H p = some (.lst xs)) :
    ∃ (its : List Value) (n : Nat), Vals xs its ∧ s.heap.get? p = some { cls := .type "list", data := .seq its.toArray n } ∧ xs.length ≤ sizeLine := by
  obtain ⟨z, its, n, r, e⟩ := I.hok p _ h
  exact ⟨its, n, r, e, z⟩
/-- the list at p is written by an update of its object -/
theorem Inv.lstUpd {pins : List (Addr × Obj)} {σ : St} {H : Hp} {s : Shared} {p : Addr} {xs ys : List V} {its its' : List Value} {n n' : Nat} {f : Obj → Obj} (I : Inv X pins σ H s) (h : H p = some (.lst xs))
    (ho : s.heap.get? p = some { cls := .type "list", data := .seq its.toArray n }) (hf : f { cls := .type "list", data := .seq its.toArray n } = { cls := .type "list", data := .seq its'.toArray n' }) (r : Vals ys its') (hz : ys.length ≤ sizeLine) (t : Nat) :
    Inv X pins σ (upd H p (.lst ys)) { s with heap := s.heap.update p f, toks := t } := by
  have e : (s.heap.update p f).get? p = some { cls := .type "list", data := .seq its'.toArray n' } := by
    rw [Heap.get?_update_self f ho (by rw [hf] <;> rfl), hf]
  refine I.write (x := p) (e := p) (by rw [h]; trivial) (.inl rfl) (fun b u hb q => (Heap.get?_update_other _ _ (Ne.symm hb)).trans q) ⟨_, e⟩ ?_
  exact ⟨hz, its', n', r, e⟩
def rSetL : V → V → V → Hp → (Hp → Prop) → Prop := fun o i v H Q => ∃ p xs k j, o = .ref p ∧ i = .int k ∧ H p = some (.lst xs) ∧ ixN xs.length k = some j ∧ Q (upd H p (.lst (xs.set j v)))
theorem set_list : PSet X rSetL := by
  intro pins s σ H o i v ov iv u Q I ro ri rv h
  obtain ⟨p, xs, k, j, rfl, rfl, hp, hj, q⟩ := h
  cases ro
  obtain ⟨t, rfl⟩ := ri
  obtain ⟨its, n, r, ho, hz⟩ := I.lst hp
  obtain ⟨h1, h2, h3, h4⟩ := ixN_seq hj
  have hl := r.length
  have hn := line63
  have I' : Inv X pins σ (upd H p (.lst (xs.set j v))) { s with heap := s.heap.update p (Obj.mapSeq (·.setIfInBounds j u)) } :=
    I.lstUpd hp ho (mapSeq_set its n j u) (r.set rv j) (by rw [List.length_set]; exact hz) s.toks
  by_cases h0 : 0 ≤ k
  · have hk : k.toNat = j := by
      rw [seqIndex_of h0 h4] at h1
      exact Option.some.inj h1
    exact PySem.W.ki_setAt ho h0 (by omega) (by rw [List.size_toArray, ← hl]; exact h4) (by rw [hk]; exact ⟨_, I', q⟩)
  · have hk : (k + (its.toArray.size : Int)).toNat = j := by
      rw [seqIndex_neg (by omega) h3] at h1
      rw [List.size_toArray, ← hl]
      exact Option.some.inj h1
    exact PySem.W.ki_setBack ho (by omega) (by rw [List.size_toArray, ← hl]; exact h3) (by omega) (by rw [hk]; exact ⟨_, I', q⟩)

/-! ### slices -/
theorem slice_bounds (lo hi : Option Int) (n : Nat) : (sliceBounds lo hi none n).1 = ((HT.sIx n 0 lo : Nat) : Int) ∧ (sliceBounds lo hi none n).2.1 = ((HT.sIx n n hi : Nat) : Int) ∧ (sliceBounds lo hi none n).2.2 = 1 := by
  refine ⟨?_, ?_, rfl⟩
  · cases lo with
    | none => simp [sliceBounds, HT.sIx]
    | some i =>
      simp only [sliceBounds, HT.sIx, Option.getD_none, show (1 : Int) > 0 by decide, if_true]
      by_cases h : i < 0
      · simp only [h, if_true] <;> omega
      · simp only [h, if_false] <;> omega
  · cases hi with
    | none => simp [sliceBounds, HT.sIx]
    | some i =>
      simp only [sliceBounds, HT.sIx, Option.getD_none, show (1 : Int) > 0 by decide, if_true]
      by_cases h : i < 0
      · simp only [h, if_true] <;> omega
      · simp only [h, if_false] <;> omega
theorem slicePick_cut (its : List Value) (lo hi : Option Int) : slicePick its.toArray lo hi none = ((its.drop (HT.sIx its.length 0 lo)).take (HT.sIx its.length its.length hi - HT.sIx its.length 0 lo)).toArray := by
  obtain ⟨h1, h2, h3⟩ := slice_bounds lo hi its.toArray.size
  unfold slicePick
  rw [h1, h2, h3]
  simp only [sliceRange_one, pick_run, List.size_toArray] <;> rfl
/-- xs[lo:hi] of a list: a new list -/
def rSlL (K : PySem.W.Frag) : V → Option Int → Option Int → Hp → VK → Prop := fun x lo hi H Q => ∃ a xs, x = .ref a ∧ SqL K H a xs ∧ ∀ p, H p = none → Q (.ref p) (upd H p (.lst (cutV xs lo hi)))
theorem sl_list : SlR X (rSlL X.K) := by
  intro pins s σ H x v vl vu lo hi sl Q I rx hs pl pu h
  obtain ⟨a, xs, rfl, hx, q⟩ := h
  cases rx
  obtain ⟨its, r, ht, hz⟩ := I.list hx
  have hlen := r.length
  refine ⟨"list", _, slot_list_getitem.lookup, ht.isList.typeIs, ?_⟩
  refine wpAny_getItem_list_slice ht.isList hs pl pu .none (by simp) ?_ (by rw [List.size_toArray] <;> omega)
  rw [slicePick_cut, ← hlen]
  refine ⟨.ref s.heap.objs.size, _, I.laid (t' := s.toks) (o := .lst (cutV xs lo hi)) (fun b ob q => Heap.get?_push_of_some _ q) (Nat.le_refl _) ?_, rfl, q _ (I.hok.fresh (Nat.le_refl _))⟩
  exact ⟨Nat.le_trans (cutV_length xs lo hi) hz, _, 0, (r.drop (HT.sIx xs.length 0 lo)).take (HT.sIx xs.length xs.length hi - HT.sIx xs.length 0 lo), Heap.get?_push_size _ rfl⟩

/-! ### in, not in: flat items -/
def flatV : V → Bool
  | .non => true
  | .bl _ => true
  | .int _ => true
  | .str _ => true
  | _ => false
/-- == of flat values -/
def eqV : V → V → Bool
  | .non, .non => true
  | .bl a, .bl b => a == b
  | .bl a, .int b => (if a then 1 else 0) == b
  | .int a, .bl b => a == (if b then 1 else 0)
  | .int a, .int b => a == b
  | .str a, .str b => a == b
  | _, _ => false
theorem eqAt_V {A : Around} {s : Shared} {y x : V} {u v : Value} (ry : RelV y u) (rx : RelV x v) (fy : flatV y = true) (fx : flatV x = true) : SeqAt.EqAt A s u v (eqV y x) := by
  cases y with
  | non =>
    cases ry
    cases x with
    | non => cases rx; exact SeqAt.EqAt.same _
    | bl b => cases rx; exact SeqAt.EqAt.none_bool b
    | int b => obtain ⟨t, rfl⟩ := rx; exact SeqAt.EqAt.none_int b t
    | str b => obtain ⟨t, rfl⟩ := rx; exact SeqAt.EqAt.none_str b t
    | _ => exact absurd (show false = true from fx) Bool.false_ne_true
  | bl a =>
    cases ry
    cases x with
    | non => cases rx; exact SeqAt.EqAt.bool_none a
    | bl b => cases rx; exact SeqAt.EqAt.bool_bool a b
    | int b => obtain ⟨t, rfl⟩ := rx; exact SeqAt.EqAt.bool_int a b t
    | str b => obtain ⟨t, rfl⟩ := rx; exact SeqAt.EqAt.bool_str a b t
    | _ => exact absurd (show false = true from fx) Bool.false_ne_true
  | int a =>
    obtain ⟨t', rfl⟩ := ry
    cases x with
    | non => cases rx; exact SeqAt.EqAt.int_none a t'
    | bl b => cases rx; exact SeqAt.EqAt.int_bool a t' b
    | int b => obtain ⟨t, rfl⟩ := rx; exact SeqAt.EqAt.int_int a t' b t
    | str b => obtain ⟨t, rfl⟩ := rx; exact SeqAt.EqAt.int_str a t' b t
    | _ => exact absurd (show false = true from fx) Bool.false_ne_true
  | str a =>
    obtain ⟨t', rfl⟩ := ry
    cases x with
    | non => cases rx; exact SeqAt.EqAt.str_none a t'
    | bl b => cases rx; exact SeqAt.EqAt.str_bool a t' b
    | int b => obtain ⟨t, rfl⟩ := rx; exact SeqAt.EqAt.str_int a t' b t
    | str b => obtain ⟨t, rfl⟩ := rx; exact SeqAt.EqAt.str_str a t' b t
    | _ => exact absurd (show false = true from fx) Bool.false_ne_true
  | _ => exact absurd (show false = true from fy) Bool.false_ne_true
/-- the items' answers, read off the values (a value's own answer does not lean on its token) -/
def eqU (x : V) (u : Value) : Bool := match u with
  | .none => eqV .non x
  | .bool b => eqV (.bl b) x
  | .int i _ => eqV (.int i) x
  | .str z _ => eqV (.str z) x
  | _ => false
theorem eqU_of {x y : V} {u : Value} (r : RelV y u) (f : flatV y = true) : eqU x u = eqV y x := by
  cases y with
  | non => cases r; rfl
  | bl b => cases r; rfl
  | int i => obtain ⟨t, rfl⟩ := r; rfl
  | str z => obtain ⟨t, rfl⟩ := r; rfl
  | _ => exact absurd (show false = true from f) Bool.false_ne_true
theorem any_eqU {x : V} : ∀ {xs : List V} {us : List Value}, Vals xs us → xs.all flatV = true → us.any (eqU x) = xs.any fun y => eqV y x
  | _, _, .nil, _ => rfl
  | y :: xs, u :: us, .cons r t, f => by
    rw [List.all_cons, Bool.and_eq_true] at f
    rw [List.any_cons, List.any_cons, eqU_of r f.1, any_eqU t f.2]
theorem mem_eqAt {A : Around} {s : Shared} {x : V} {v : Value} (rx : RelV x v) (fx : flatV x = true) : ∀ {xs : List V} {us : List Value}, Vals xs us → xs.all flatV = true → ∀ u ∈ us, SeqAt.EqAt A s u v (eqU x u)
  | _, _, .nil, _ => fun u hu => by cases hu
  | y :: xs, u :: us, .cons r t, f => fun u' hu => by
    rw [List.all_cons, Bool.and_eq_true] at f
    rcases List.mem_cons.mp hu with rfl | hu
    · rw [eqU_of r f.1]; exact eqAt_V r rx f.1 fx
    · exact mem_eqAt rx fx t f.2 u' hu
def inV (x : V) (xs : List V) : Bool := xs.any fun y => eqV y x
/-- x in a list or tuple of flat items -/
def rIn (K : PySem.W.Frag) (neg : Bool) : R2 := fun x y H Q => ∃ p xs, y = .ref p ∧ (SqL K H p xs ∨ SqT K H p xs) ∧ flatV x = true ∧ xs.all flatV = true ∧ Q (.bl (if neg then !inV x xs else inV x xs)) H
theorem op_in_seq : OpR X (compareOp .In) (rIn X.K false) := by
  intro pins s σ H x y v u Q I rx ry h
  obtain ⟨p, xs, rfl, hq, fx, fs, q⟩ := h
  cases ry
  rcases hq with hq | hq
  · obtain ⟨its, r, pl, hz⟩ := I.list hq
    refine SeqAt.in_listAt (eqU x) pl.isList (fun w hw => mem_eqAt rx fx r fs w (by simpa using hw)) ⟨.bl _, H, I, rfl, ?_⟩
    rw [show its.toArray.any (eqU x) = its.any (eqU x) by simp, any_eqU r fs]
    exact q
  · obtain ⟨its, r, pl, hz⟩ := I.tuple hq
    refine SeqAt.in_tupleAt (eqU x) pl (fun w hw => mem_eqAt rx fx r fs w (by simpa using hw)) ⟨.bl _, H, I, rfl, ?_⟩
    rw [show its.toArray.any (eqU x) = its.any (eqU x) by simp, any_eqU r fs]
    exact q
/-! ### len, list(x), tuple(x) of any list or tuple that is read -/
theorem call_len_seq : CallR X (.builtin "len") (fun xs H Q => ∃ p ys, xs = [.ref p] ∧ (SqL X.K H p ys ∨ SqT X.K H p ys) ∧ Q (.int ys.length) H) := by
  intro pins s σ H xs us Q I r h
  obtain ⟨p, ys, rfl, hq, q⟩ := h
  obtain ⟨u, rfl, rx⟩ := vals1 r
  cases rx
  have hn := line63
  rcases hq with hq | hq
  · obtain ⟨its, r', pl, hz⟩ := I.list hq
    have hlen := r'.length
    exact Calls.call_len_list pl.isList (by simp only [List.size_toArray] <;> omega) ⟨.int ys.length, H, I.tok _, ⟨s.toks + 1, by rw [List.size_toArray, hlen]⟩, q⟩
  · obtain ⟨its, r', pl, hz⟩ := I.tuple hq
    have hlen := r'.length
    exact len_tuple pl (by simp only [List.size_toArray] <;> omega) ⟨.int ys.length, H, I.tok _, ⟨s.toks + 1, by rw [List.size_toArray, hlen]⟩, q⟩
theorem call_list_of : CallR X (.type "list") (fun xs H Q => ∃ p ys, xs = [.ref p] ∧ (SqL X.K H p ys ∨ SqT X.K H p ys) ∧ ∀ l, H l = none → Q (.ref l) (upd H l (.lst ys))) := by
  intro pins s σ H xs us Q I r h
  obtain ⟨p, ys, rfl, hq, q⟩ := h
  obtain ⟨u, rfl, rx⟩ := vals1 r
  cases rx
  have fin : ∀ (its : List Value), Vals ys its → ys.length ≤ sizeLine → ∀ (h' : Heap) (c' : Nat), (∀ b o', s.heap.get? b = some o' → h'.get? b = some o') →
      h'.get? s.heap.objs.size = some { cls := .type "list", dict := none, data := .seq its.toArray c', slots := #[] } → EP X pins σ Q (.ref s.heap.objs.size) { s with heap := h' } := fun its r' hz h' c' kp e =>
    ⟨.ref s.heap.objs.size, _, I.laid (t' := s.toks) kp (Nat.le_refl _) (show ObjOk X.prog X.w _ h' _ (.lst ys) from ⟨hz, its, c', r', e⟩), rfl, q _ (I.hok.fresh (Nat.le_refl _))⟩
  rcases hq with hq | hq
  · obtain ⟨its, r', pl, hz⟩ := I.list hq
    have hlen := r'.length
    obtain ⟨o, ho, hc, n, hd⟩ := pl.isList
    exact call_list_seq p (.inl rfl) ho hc hd (fun h' c' kp e => fin its r' hz h' c' kp e) (by simp only [List.size_toArray] <;> omega)
  · obtain ⟨its, r', pl, hz⟩ := I.tuple hq
    have hlen := r'.length
    obtain ⟨o, ho, hc, n, hd⟩ := pl
    exact call_list_seq p (.inr rfl) ho hc hd (fun h' c' kp e => fin its r' hz h' c' kp e) (by simp only [List.size_toArray] <;> omega)
/-! ### the call of a builtin's method: o.m(..) -/
/-- the value is of that builtin type -/
def tyV (K : PySem.W.Frag) (T : String) (x : V) (H : Hp) : Prop := match x with
  | .str _ => T = "str"
  | .int _ => T = "int"
  | .ref p => (T = "list" ∧ ∃ xs, SqL K H p xs) ∨ (T = "tuple" ∧ ∃ o, K.lookup p = some o ∧ o.cls = .type "tuple" ∧ o.dict = none) ∨
      (T = "dict" ∧ ((∃ kvs, H p = some (.dK kvs)) ∨ ∃ kvs, H p = some (.dT kvs))) ∨ (T = "set" ∧ ∃ S n, H p = some (.set S n))
  | _ => False
theorem tyV_is {pins : List (Addr × Obj)} {σ : St} {H : Hp} {s : Shared} {T : String} {x : V} {v : Value} (I : Inv X pins σ H s) (r : RelV x v) (ty : tyV X.K T x H) :
    s.TypeIs v T ∧ ∀ a, v = .ref a → ∃ ob, s.heap.get? a = some ob ∧ ob.dict = none := by
  cases x with
  | str z =>
    obtain ⟨t, rfl⟩ := r
    cases (show T = "str" from ty)
    exact ⟨typeIs_str s z t, fun _ e => nomatch e⟩
  | int i =>
    obtain ⟨t, rfl⟩ := r
    cases (show T = "int" from ty)
    exact ⟨typeIs_int s i t, fun _ e => nomatch e⟩
  | ref p =>
    cases r
    rcases ty with ⟨rfl, xs, hq⟩ | ⟨rfl, o, hk, hc, hd⟩ | ⟨rfl, hk⟩ | ⟨rfl, S, n, hk⟩
    · obtain ⟨its, _, pl, _⟩ := I.list hq
      refine ⟨pl.isList.typeIs, fun a e => ?_⟩
      cases e
      obtain ⟨o, n, e, c, hd, _⟩ := pl
      exact ⟨o, e, hd⟩
    · refine ⟨⟨o, I.kIn p o hk, hc⟩, fun a e => ?_⟩
      cases e
      exact ⟨o, I.kIn _ o hk, hd⟩
    · have z : ∃ o, s.heap.get? p = some o ∧ o.ExactDict := by
        rcases hk with ⟨kvs, hk⟩ | ⟨kvs, hk⟩
        · obtain ⟨_, _, _, _, o, _, _, e, ex, _⟩ := I.hok p _ hk
          exact ⟨o, e, ex⟩
        · obtain ⟨_, _, _, _, o, _, _, e, ex, _⟩ := I.hok p _ hk
          exact ⟨o, e, ex⟩
      obtain ⟨o, e, ex⟩ := z
      refine ⟨⟨o, e, ex.1⟩, fun a e2 => ?_⟩
      cases e2
      exact ⟨o, e, ex.2.1⟩
    · obtain ⟨o, _, _, _, e, ex, _⟩ := I.hok p _ hk
      refine ⟨⟨o, e, ex.1⟩, fun a e2 => ?_⟩
      cases e2
      exact ⟨o, e, ex.2.1⟩
  | _ => exact False.elim ty
def tBM0 (K : PySem.W.Frag) (T : String) (r : V → List V → Hp → VK → Prop) (to : TE) : TE := fun σ H Q => to σ H fun x H1 => tyV K T x H1 ∧ r x [] H1 Q
def tBM (K : PySem.W.Frag) (T : String) (r : V → List V → Hp → VK → Prop) (to : TE) (t : TA) : TE := fun σ H Q => to σ H fun x H1 => tyV K T x H1 ∧ t σ H1 fun xs H2 => r x xs H2 Q
variable {o e : Expr} {es : List Expr} {to : TE} {t : TA} {name : Str} {apos cpos : Pos} {T id : String} {r : V → List V → Hp → VK → Prop}
theorem pe_bm0 (pa : PlainAttrs T) (slot : Slot T name id) (hty : typeOf (.builtin id) = pure (.type "method_descriptor")) (hm : MtR X id r) (ho : PE X o to)
    (hbase : attributeBase o name X.env (eval o X.env) = eval o X.env := by rfl) (hline : (apos.endLine == cpos.line) = true := by rfl) : PE X (.Call (.Attribute o name apos) [] [] cpos) (tBM0 X.K T r to) := by
  intro pins s σ H Q I h
  refine wpAny_Call_method0_late hbase hline (thn (ho pins s σ H _ I h) fun v s1 ⟨x, H1, I1, r1, ty, q1⟩ => ?_)
  obtain ⟨h1, h2⟩ := tyV_is I1 r1 ty
  exact ⟨T, id, pa, slot, hty, h1, h2, Calls.callWith_builtin rfl (PySem.evalArgs_none (hm pins s1 σ H1 x [] v [] Q I1 r1 .nil q1))⟩
theorem pe_bm (pa : PlainAttrs T) (slot : Slot T name id) (hty : typeOf (.builtin id) = pure (.type "method_descriptor")) (hm : MtR X id r) (ho : PE X o to) (ha : PA X (e :: es) t)
    (hbase : attributeBase o name X.env (eval o X.env) = eval o X.env := by rfl)
    (hfew : ((backTo cpos (starEach (e :: es) X.env)).all (fun x => !x.1) && (backToKw cpos (keywordEach [] X.env)).all (fun x => x.1.isSome)
      && decide ((e :: es).length + ([] : List Keyword).length + (if ([] : List Keyword).isEmpty then 0 else 1) < 30)) = true := by rfl)
    (hline : (apos.endLine == cpos.line) = true := by rfl) (hs : starEach (e :: es) X.env = (false, eval e X.env) :: starEach es X.env := by rfl) (hplain : (backTo cpos (starEach es X.env)).any (·.1) = false := by rfl) :
    PE X (.Call (.Attribute o name apos) (e :: es) [] cpos) (tBM X.K T r to t) := by
  intro pins s σ H Q I h
  refine wpAny_Call_method_late hbase hfew hline rfl (thn (ho pins s σ H _ I h) fun v s1 ⟨x, H1, I1, r1, ty, q1⟩ => ?_)
  obtain ⟨h1, h2⟩ := tyV_is I1 r1 ty
  refine ⟨T, id, pa, slot, hty, h1, h2, ?_⟩
  have hA := ha cpos pins s1 σ H1 _ I1 q1
  rw [hs] at hA ⊢
  refine Calls.callWith_builtin (by show (false || (backTo cpos (starEach es X.env)).any (·.1)) = false; rw [hplain] <;> rfl) (Calls.evalArgs_plain ?_)
  exact thn hA fun us s2 ⟨vs, H2, I2, r2, q2⟩ => hm pins s2 σ H2 x vs v us Q I2 r1 r2 q2
/- xs.append(e), list.index on a module's tuple .. are MtR facts of 06m -/
end
end L2

namespace L2
open PySem PySem.Spec PyProof.Rows

def MtM (X : Cx) (id : String) (r : V → List V → Hp → VK → Prop) : Prop :=
  ∀ (pins : List (Addr × Obj)) (s : Shared) (σ : St) (H : Hp) (x : V) (xs : List V) (v : Value) (us : List Value) (Q : VK), Inv X pins σ H s → RelV x v → Vals xs us → r x xs H Q →
    wpAny (model X.prog X.w) X.A (call (.builtin id) (v :: us)) (EP X pins σ Q) X.xe s

/-! ### lists of values -/
theorem Vals.one : ∀ {x : V} {us : List Value}, Vals [x] us → ∃ u, us = [u] ∧ RelV x u
  | _, _, .cons r .nil => ⟨_, rfl, r⟩
theorem Vals.zero : ∀ {us : List Value}, Vals [] us → us = []
  | _, .nil => rfl
theorem Vals.dropLast {xs : List V} {us : List Value} (h : Vals xs us) : Vals xs.dropLast us.dropLast := by
  induction h with
  | nil => exact .nil
  | cons r t ih =>
    cases t with
    | nil => exact .nil
    | cons q t' => exact .cons r ih
theorem Vals.reverse {xs : List V} {us : List Value} (h : Vals xs us) : Vals xs.reverse us.reverse := by
  induction h with
  | nil => exact .nil
  | cons r t ih => rw [List.reverse_cons, List.reverse_cons]; exact Vals.append ih (.cons r .nil)
theorem erase_last {α : Type} (l : List α) : l.eraseIdx (l.length - 1) = l.dropLast := by
  induction l with
  | nil => rfl
  | cons a r ih =>
    cases r with
    | nil => rfl
    | cons b r =>
      have e : (a :: b :: r).length - 1 = ((b :: r).length - 1) + 1 := by
        have h1 : (a :: b :: r).length = r.length + 2 := rfl
        have h2 : (b :: r).length = r.length + 1 := rfl
        omega
      rw [e, List.eraseIdx_cons_succ, ih]
      all_goals rfl
section
variable {X : Cx} {pins : List (Addr × Obj)} {σ : St} {H : Hp} {s : Shared} {l b : Addr} {xs ys zs : List V}

/-! ### the two steps: a tracked list is rewritten, a new list is laid -/
theorem Inv.lset {its its' : List Value} {n : Nat} {f : Array Value → Array Value} {t' : Nat} (I : Inv X pins σ H s) (hH : H l = some (.lst xs))
    (e : s.heap.get? l = some { cls := .type "list", data := .seq its.toArray n }) (hf : f its.toArray = its'.toArray) (hv : Vals ys its') (hz : ys.length ≤ sizeLine) :
    Inv X pins σ (upd H l (.lst ys)) { s with heap := s.heap.update l (Obj.mapSeq f), toks := t' } := by
  have q := PySem.IsL.update e f
  rw [hf] at q
  refine I.write (x := l) (e := l) (by rw [hH]; exact trivial) (.inl rfl) (fun b' u hb hu => (Heap.get?_update_other s.heap (Obj.mapSeq f) (Ne.symm hb)).trans hu) ⟨_, q⟩ ?_
  exact ⟨hz, its', _, hv, q⟩
theorem Inv.lnew {its : List Value} {t' : Nat} (I : Inv X pins σ H s) (hv : Vals ys its) (hz : ys.length ≤ sizeLine) :
    Inv X pins σ (upd H s.heap.objs.size (.lst ys)) { s with heap := s.heap.push { cls := .type "list", data := .seq its.toArray }, toks := t' } :=
  I.laid (fun _ _ q => Heap.get?_push_of_some _ q) (Nat.le_refl _) ⟨hz, its, 0, hv, Heap.get?_push_size _ rfl⟩
theorem Inv.fresh (I : Inv X pins σ H s) : H s.heap.objs.size = none := I.hok.fresh (Nat.le_refl _)
theorem Inv.lstM (I : Inv X pins σ H s) (hH : H l = some (.lst xs)) : xs.length ≤ sizeLine ∧ ∃ (its : List Value) (n : Nat), Vals xs its ∧ xs.length = its.length ∧ s.heap.get? l = some { cls := .type "list", data := .seq its.toArray n } := by
  obtain ⟨z, its, n, r, e⟩ := I.hok l _ hH
  exact ⟨z, its, n, r, r.length, e⟩

end

section
variable {X : Cx}

/-! ### methods -/
def rAppend : V → List V → Hp → VK → Prop := fun x vs H Q => ∃ l xs y, x = .ref l ∧ vs = [y] ∧ H l = some (.lst xs) ∧ xs.length < sizeLine ∧ Q .non (upd H l (.lst (xs ++ [y])))
theorem mt_append : MtM X "list.append" rAppend := by
  intro pins s σ H x vs v us Q I rx rv h
  obtain ⟨l, xs, y, rfl, rfl, hH, hz, q⟩ := h
  cases rx
  obtain ⟨u, rfl, ru⟩ := rv.one
  obtain ⟨z, its, n, r, hl, e⟩ := I.lstM hH
  refine call_meets F.slot_list_append ⟨_, e, rfl⟩ F.entry_list_append (F.args_list_append_2 _ _) (PySem.list_append l its.toArray n u (by rw [List.size_toArray]; omega)) ⟨e, ?_⟩
  refine ⟨.non, _, I.lset (its' := its ++ [u]) hH e (by simp) (r.append (.cons ru .nil)) ?_, rfl, q⟩
  rw [List.length_append, List.length_singleton]
  omega

def rPop : V → List V → Hp → VK → Prop := fun x vs H Q => ∃ l xs y, x = .ref l ∧ vs = [] ∧ H l = some (.lst xs) ∧ xs[xs.length - 1]? = some y ∧ Q y (upd H l (.lst xs.dropLast))
theorem mt_pop : MtM X "list.pop" rPop := by
  intro pins s σ H x vs v us Q I rx rv h
  obtain ⟨l, xs, y, rfl, rfl, hH, hy, q⟩ := h
  cases rx
  have hus := rv.zero
  subst hus
  obtain ⟨z, its, n, r, hl, e⟩ := I.lstM hH
  obtain ⟨u, hu, ru⟩ := r.get hy
  have hy' : its.toArray[its.toArray.size - 1]? = some u := by
    show its.toArray[its.length - 1]? = some u
    rw [← Array.getElem?_toList, ← hl]
    exact hu
  refine call_meets F.slot_list_pop ⟨_, e, rfl⟩ F.entry_list_pop (F.args_list_pop_1 _) (MeetsSeq.list_pop_last l its.toArray n u hy' (by rw [List.size_toArray]; omega)) ⟨e, ?_⟩
  refine ⟨y, _, I.lset (its' := its.dropLast) hH e ?_ r.dropLast ?_, ru, q⟩
  · show its.toArray.eraseIdxIfInBounds (its.toArray.size - 1) = its.dropLast.toArray
    rw [List.size_toArray, List.eraseIdxIfInBounds_toArray, erase_last]
  · rw [List.length_dropLast]
    omega

/-! ### list + list, list += list, list * int -/
def rCat : R2 := fun x y H Q => ∃ l b xs zs, x = .ref l ∧ y = .ref b ∧ H l = some (.lst xs) ∧ H b = some (.lst zs) ∧ xs.length + zs.length ≤ sizeLine ∧ ∀ p, H p = none → Q (.ref p) (upd H p (.lst (xs ++ zs)))
theorem op_cat : OpR X (binaryOp .Add) rCat := by
  intro pins s σ H x y v u Q I rx ry h
  obtain ⟨l, b, xs, zs, rfl, rfl, hH, hB, hz, q⟩ := h
  cases rx
  cases ry
  obtain ⟨z, its, n, r, hl, e⟩ := I.lstM hH
  obtain ⟨z2, its2, n2, r2, hl2, e2⟩ := I.lstM hB
  refine PySem.P.add_list e e2 ?_ (by rw [List.size_toArray, List.size_toArray]; omega)
  have ea : its.toArray ++ its2.toArray = (its ++ its2).toArray := by simp
  rw [ea]
  exact ⟨.ref _, _, I.lnew (t' := s.toks) (r.append r2) (by rw [List.length_append]; omega), rfl, q _ I.fresh⟩
/-! ### del xs[i] -/
end

/-! ### xs[a:b] = ys -/
section
variable {prog : Program} {w : World} {A : Around} {E : Value → Shared → Prop} {s : Shared}
end

section
variable {X : Cx}
end
end L2

namespace L2
open PySem PySem.Spec PyProof.Rows

/-! ### lists of pairs as tables -/
section
variable {κ : Type} [DecidableEq κ]
def valV (kvs : List (κ × V)) (k : κ) : Option V := (kvs.find? fun kv => decide (kv.1 = k)).map (·.2)
/-- in its place, or at the end -/
def putK (kvs : List (κ × V)) (k : κ) (v : V) : List (κ × V) :=
  if (kvs.any fun kv => decide (kv.1 = k)) = true then kvs.map (fun kv => if kv.1 = k then (kv.1, v) else kv) else kvs ++ [(k, v)]
theorem valV_pos {p : κ × V} {r : List (κ × V)} {k : κ} (e : p.1 = k) : valV (p :: r) k = some p.2 := by simp [valV, List.find?_cons, e]
theorem valV_neg {p : κ × V} {r : List (κ × V)} {k : κ} (e : ¬ p.1 = k) : valV (p :: r) k = valV r k := by simp [valV, List.find?_cons, e]
theorem length_putK (kvs : List (κ × V)) (k : κ) (v : V) : (putK kvs k v).length ≤ kvs.length + 1 := by
  unfold putK
  split
  · rw [List.length_map]; omega
  · rw [List.length_append, List.length_cons, List.length_nil]; omega
/-- raw tables of the same keys -/
theorem KV.val {kvs : List (κ × V)} {vs : List (κ × Value)} (r : KV kvs vs) (k : κ) : RelO (valV kvs k) (valueAt vs k) := by
  unfold KV at r
  induction r with
  | nil => exact True.intro
  | @cons p q ps qs h t ih =>
    obtain ⟨h1, h2⟩ := h
    by_cases e : p.1 = k
    · have e' : q.1 = k := h1.symm.trans e
      have b : valueAt (q :: qs) k = some q.2 := by simp [valueAt, List.find?_cons, e']
      rw [valV_pos e, b]; exact h2
    · have e' : ¬ q.1 = k := fun z => e (h1.trans z)
      have b : valueAt (q :: qs) k = valueAt qs k := by simp [valueAt, List.find?_cons, e']
      rw [valV_neg e, b]; exact ih
theorem KV.any {kvs : List (κ × V)} {vs : List (κ × Value)} (r : KV kvs vs) (k : κ) : (kvs.any fun kv => decide (kv.1 = k)) = vs.any fun kv => decide (kv.1 = k) := by
  unfold KV at r
  induction r with
  | nil => rfl
  | cons h t ih => rw [List.any_cons, List.any_cons, ih, h.1]
theorem KV.repl {kvs : List (κ × V)} {vs : List (κ × Value)} (r : KV kvs vs) (k : κ) {y : V} {u : Value} (ry : RelV y u) :
    KV (kvs.map fun kv => if kv.1 = k then (kv.1, y) else kv) (vs.map fun kv => if kv.1 = k then (kv.1, u) else kv) := by
  unfold KV at r ⊢
  induction r with
  | nil => exact .nil
  | @cons p q ps qs h t ih =>
    rw [List.map_cons, List.map_cons]
    refine .cons ?_ ih
    obtain ⟨h1, h2⟩ := h
    by_cases e : p.1 = k
    · rw [if_pos e, if_pos (h1.symm.trans e)]; exact ⟨h1, ry⟩
    · rw [if_neg e, if_neg (fun z => e (h1.trans z))]; exact ⟨h1, h2⟩
theorem KV.put {kvs : List (κ × V)} {vs : List (κ × Value)} (r : KV kvs vs) (k : κ) {y : V} {u : Value} (ry : RelV y u) : KV (putK kvs k y) (stored vs k u) := by
  unfold putK stored
  rw [r.any k]
  by_cases e : (vs.any fun kv => decide (kv.1 = k)) = true
  · rw [if_pos e, if_pos e]; exact r.repl k ry
  · rw [if_neg e, if_neg e]; exact Paired.snoc r ⟨rfl, ry⟩
end


/-! ### a tracked dict, its keys ints and texts or tuples of these -/
theorem kV_is {P : Program} {w : World} {k : Key} {u : Value} (r : RelV (kV k) u) : (mixKind P w).is k u = true := by
  cases k with
  | inl i => obtain ⟨t, e⟩ := (show ∃ t, u = Value.int i t from r); subst e; exact mixKind_int P w i t
  | inr x => obtain ⟨t, e⟩ := (show ∃ t, u = Value.str x t from r); subst e; exact mixKind_str P w x t
theorem items_are {P : Program} {w : World} : ∀ {ks : List Key} {us : List Value}, Vals (ks.map kV) us → ItemsAre (mixKind P w) ks us
  | [], _, r => by rw [List.map_nil] at r; cases r; exact .nil
  | k :: ks, _, r => by
    rw [List.map_cons] at r
    cases r with
    | cons h t => exact .cons (kV_is h) (items_are t)

/-- raw entries of a dict with tuple keys -/
abbrev KT (H : Hp) : List (List Key × V) → List (List Key × Addr × Value) → Prop := Paired fun p q => p.1 = q.1 ∧ H q.2.1 = some (.tup (p.1.map kV)) ∧ RelV p.2 q.2.2
theorem KT.val {H : Hp} {kvs : List (List Key × V)} {xs : List (List Key × Addr × Value)} (r : KT H kvs xs) (k : List Key) : RelO (valV kvs k) ((atKey xs k).map (·.2)) := by
  induction r with
  | nil => exact True.intro
  | @cons p q ps qs h t ih =>
    obtain ⟨h1, _, h2⟩ := h
    by_cases e : p.1 = k
    · have e' : q.1 = k := h1.symm.trans e
      have b : atKey (q :: qs) k = some q.2 := by simp [atKey, List.find?_cons, e']
      rw [valV_pos e, b]; exact h2
    · have e' : ¬ q.1 = k := fun z => e (h1.trans z)
      have b : atKey (q :: qs) k = atKey qs k := by simp [atKey, List.find?_cons, e']
      rw [valV_neg e, b]; exact ih
section
variable {P : Program} {w : World} {H : Hp} {h : Heap} {a : Addr}
theorem rd_of {u : HO} (ok : HOk P w H h) (e : Rd H a u) : ObjOk P w H h a u := e.ok ok
theorem dk_rd {kvs : List (Key × V)} (ok : HOk P w H h) (e : Rd H a (.dK kvs)) : kvs.length ≤ sizeLine ∧ (a == sysModules) = false ∧ ∃ vs, KV kvs vs ∧ h.DictOf (mixKind P w) a vs :=
  show ObjOk P w H h a (.dK kvs) from rd_of ok e
theorem dk_of {kvs : List (Key × V)} (ok : HOk P w H h) (e : H a = some (.dK kvs)) : kvs.length ≤ sizeLine ∧ (a == sysModules) = false ∧ ∃ vs, KV kvs vs ∧ h.DictOf (mixKind P w) a vs := dk_rd ok (.inl e)
/-- a tracked tuple of ints and texts is a key -/
theorem key_of {ks : List Key} (ok : HOk P w H h) (e : H a = some (.tup (ks.map kV))) : (tupleKind (mixKind P w)).is h ks a := by
  obtain ⟨_, its, r, o, h1, h2, n, h3⟩ := (show ObjOk P w H h a (.tup (ks.map kV)) from ok a _ e)
  exact ⟨o, its.toArray, n, h1, h2, h3, by simpa using items_are r⟩
theorem dt_rd {kvs : List (List Key × V)} (ok : HOk P w H h) (e : Rd H a (.dT kvs)) : kvs.length ≤ sizeLine ∧ (a == sysModules) = false ∧
    ∃ xs, KT H kvs xs ∧ h.DictOfH (tupleKind (mixKind P w)) a xs := by
  obtain ⟨z, y, xs, r, o, es, ep, h1, h2, h3, h4, h5⟩ := (show ObjOk P w H h a (.dT kvs) from rd_of ok e)
  refine ⟨z, y, xs, r, o, es, ep, h1, h2, h3, h4, fun x hx => ?_, h5⟩
  have all : ∀ {l : List (List Key × V)} {m : List (List Key × Addr × Value)}, KT H l m → ∀ x ∈ m, (tupleKind (mixKind P w)).is h x.1 x.2.1 := by
    intro l m q
    induction q with
    | nil => intro x hx; exact nomatch hx
    | @cons p q ps qs hq t ih =>
      intro x hx
      rcases List.mem_cons.mp hx with e | hx
      · subst e
        exact key_of ok (by rw [← hq.1]; exact hq.2.1)
      · exact ih x hx
  exact all r x hx
end

/-- what the dict at a holds at the key y -/
def DGet (H : Hp) (a : Addr) (y : V) (r : Option V) : Prop :=
  (∃ kvs k, Rd H a (.dK kvs) ∧ y = kV k ∧ r = valV kvs k) ∨ ∃ kvs k b, Rd H a (.dT kvs) ∧ y = .ref b ∧ H b = some (.tup (k.map kV)) ∧ r = valV kvs k
theorem DGet.k {H : Hp} {a : Addr} {kvs : List (Key × V)} {k : Key} (e : H a = some (.dK kvs)) : DGet H a (kV k) (valV kvs k) := .inl ⟨kvs, k, .inl e, rfl, rfl⟩
section
variable {X : Cx} {pins : List (Addr × Obj)} {σ : St} {H : Hp} {s : Shared} {a : Addr} {y v : V} {u r : Value} {o : Option V} {A : Around} {E : Value → Shared → Prop}

theorem Inv.big (I : Inv X pins σ H s) : sysModules < s.heap.objs.size := by
  have h : mainGlobals < s.heap.objs.size := (I.mod.glob.keeps I.bk).lt
  exact Nat.lt_trans (by decide) h

/-- d[y], there -/
theorem d_getItem {Q : Value → Shared → Prop} (hu : A.units + 1 < cLine) (I : Inv X pins σ H s) (g : DGet H a y (some v)) (ry : RelV y u) (h : ∀ w' s', Inv X pins σ H s' → RelV v w' → Q w' s') :
    wpAny (model X.prog X.w) A (getItem (.ref a) u) Q E s := by
  rcases g with ⟨kvs, k, e, ey, l⟩ | ⟨kvs, k, b, e, ey, eb, l⟩
  · subst ey
    obtain ⟨z, hd, vs, rel, dd⟩ := dk_rd I.hok e
    obtain ⟨w', hw, rw'⟩ := RelO.some_of (v := v) (o := valueAt vs k) (by rw [l]; exact rel.val k)
    exact wpAny_getItem_of (kV_is ry) dd.mapOf hw (h w' _ (I.tok _) rw')
  · subst ey
    cases (show u = Value.ref b from ry)
    obtain ⟨z, hd, xs, rel, dd⟩ := dt_rd I.hok e
    obtain ⟨w', hw, rw'⟩ := RelO.some_of (v := v) (o := (atKey xs k).map (·.2)) (by rw [l]; exact rel.val k)
    obtain ⟨p, hp, hp2⟩ := Option.map_eq_some_iff.mp hw
    refine wpAny_getItem_heap (tupleKind_room_in1 hu) (key_of I.hok eb) dd hp ?_
    rw [hp2]
    exact h w' _ (I.tok _) rw'
/-- a dict's object is replaced -/
theorem d_write {h' : Heap} {t' : Nat} {ob : HO} (I : Inv X pins σ H s) (mu : Mut (H a)) (hs : Heap.SameBut a s.heap h') (he : ∃ q, h'.get? a = some q) (new : ObjOk X.prog X.w (upd H a ob) h' a ob) :
    Inv X pins σ (upd H a ob) { s with heap := h', toks := t' } :=
  I.write (x := a) (e := a) mu (.inl rfl) (fun b q hb z => (hs.2 b hb).trans z) he new
theorem dk_new {P : Program} {w : World} {H' : Hp} {h' : Heap} {kvs : List (Key × V)} {vs : List (Key × Value)} (z : kvs.length ≤ sizeLine) (hd : (a == sysModules) = false) (rel : KV kvs vs) (dd : h'.DictOf (mixKind P w) a vs) :
    ObjOk P w H' h' a (.dK kvs) := ⟨z, hd, vs, rel, dd⟩
end

section
variable {X : Cx} {pins : List (Addr × Obj)} {σ : St} {H : Hp} {s : Shared} {a : Addr} {kvs : List (Key × V)} {k : Key} {u : Value} {A : Around} {E : Value → Shared → Prop}
end


/-! ### readings and rules -/
/-- the element of a subscription, not a slice -/
def NoSl (i : Expr) : Prop := ∀ ov iv, subscripted i false ov iv = operate [ov, iv] (getItem ov iv)
theorem subD_of {prog : Program} {w : World} {A : Around} {E : Value → Shared → Prop} {s : Shared} {env : Env} {value slice : Expr} {pos : Pos} {T id : String} {Q : Value → Shared → Prop}
    (hl : typeLookup (.type T) "__getitem__" = pure (some (.builtin id))) (hs : NoSl slice)
    (h : wpAny (model prog w) A (eval value env) (fun o s₁ => wpAny (model prog w) A (eval slice env) (fun i s₂ => s₂.TypeIs o T ∧ wpAny (model prog w) A (getItem o i) Q E s₂) E s₁) E s) :
    wpAny (model prog w) A (eval (.Subscript value slice pos) env) Q E s := by
  refine Subscript_ (wpAny_mono h (fun o s₁ h₁ => wpAny_mono h₁ (fun i s₂ h₂ => ?_) fun _ _ x => x) fun _ _ x => x)
  obtain ⟨hT, h₂⟩ := h₂
  unfold subscriptTail
  refine wpAny_bind ?_
  rw [getitemInPython_of_ne hT.not_modules]
  refine wpAny_bind (wpAny_specialOf hT hl ?_)
  have fin : wpAny (model prog w) A (subscripted slice false o i) (fun r s₃ => wpAny (model prog w) A (letTemporaryGo value o r >>= fun _ => pure r) Q E s₃) E s₂ := by
    rw [hs o i]
    exact wpAny_operating (wpAny_mono h₂ (fun r s₃ h₃ => wpAny_bind (wpAny_letTemporaryGo (wpAny_pure h₃))) fun _ _ x => x)
  first
    | exact wpAny_pure (wpAny_bind fin)
    | exact wpAny_bind (wpAny_pure (wpAny_bind fin))
    | exact wpAny_bind fin

theorem dict_typeIs {X : Cx} {pins : List (Addr × Obj)} {σ : St} {H : Hp} {s : Shared} {a : Addr} {y : V} {o : Option V} (I : Inv X pins σ H s) (g : DGet H a y o) : s.TypeIs (.ref a) "dict" := by
  rcases g with ⟨kvs, k, e, _, _⟩ | ⟨kvs, k, b, e, _, _, _⟩
  · obtain ⟨_, _, vs, _, dd⟩ := dk_rd I.hok e
    exact dd.typeIs
  · obtain ⟨_, _, xs, _, dd⟩ := dt_rd I.hok e
    exact dd.typeIs
/-- d[y] -/
def tDGet (td ty : TE) : TE := fun σ H Q => td σ H fun x H1 => ty σ H1 fun y H2 => ∃ a v, x = .ref a ∧ DGet H2 a y (some v) ∧ Q v H2
section
variable {X : Cx} {o i e value : Expr} {pos pos' tpos : Pos} {td ty tv : TE}
theorem pe_dget (hu : X.A.units + 1 < cLine) (ho : PE X o td) (hi : PE X i ty) (hs : NoSl i) : PE X (.Subscript o i pos) (tDGet td ty) := by
  intro pins s σ H Q I h
  refine subD_of PySem.F.slot_dict_getitem.lookup hs (thn (ho pins s σ H _ I h) fun u s1 ⟨x, H1, I1, rx, q1⟩ => thn (hi pins s1 σ H1 _ I1 q1) fun iv s2 ⟨y, H2, I2, ry, a, v, ex, g, q2⟩ => ?_)
  subst ex
  obtain rfl : u = Value.ref a := rx
  exact ⟨dict_typeIs I2 g, d_getItem hu I2 g ry fun w' s3 I3 rw' => ⟨v, H2, I3, rw', q2⟩⟩
end


/-! ### displays -/
theorem dk_empty {P : Program} {w : World} {H : Hp} (h : Heap) (hb : sysModules < h.objs.size) : ObjOk P w H (h.push { cls := .type "dict", data := .dict #[] }) h.objs.size (.dK []) :=
  ⟨Nat.zero_le _, beq_eq_false_iff_ne.mpr (Ne.symm (Nat.ne_of_lt hb)), [], .nil, Heap.DictOf.new h⟩
section
variable {X : Cx} {pos : Pos}
end

/-- the pairs of a display, from the left -/
def tPairs : List (TE × TE) → St → Hp → (List (V × V) → Hp → Prop) → Prop
  | [], _, H, Q => Q [] H
  | (tk, tv) :: r, σ, H, Q => tk σ H fun x H1 => tv σ H1 fun y H2 => tPairs r σ H2 fun ps H3 => Q ((x, y) :: ps) H3
abbrev VV : List (V × V) → List (Value × Value) → Prop := Paired fun p q => RelV p.1 q.1 ∧ RelV p.2 q.2
def PPs (X : Cx) (pos : Pos) (keys : List (Option Expr)) (values : List Expr) (trs : List (TE × TE)) : Prop :=
  ∀ (pins : List (Addr × Obj)) (s : Shared) (σ : St) (H : Hp) (Q : List (V × V) → Hp → Prop), Inv X pins σ H s → tPairs trs σ H Q →
    wpAny (model X.prog X.w) X.A (evalPairs (pairTrees keys values X.env pos)) (fun vs s' => ∃ ps H', Inv X pins σ H' s' ∧ VV ps vs ∧ Q ps H') X.xe s
theorem pps_nil {X : Cx} {pos : Pos} : PPs X pos [] [] [] := fun pins s σ H Q I h => pairTrees_nil_walk ⟨[], H, I, .nil, h⟩
theorem pps_cons {X : Cx} {pos : Pos} {k v : Expr} {ks : List (Option Expr)} {vs : List Expr} {tk tv : TE} {trs : List (TE × TE)} (hk : PE X k tk) (hv : PE X v tv) (hr : PPs X pos ks vs trs) :
    PPs X pos (some k :: ks) (v :: vs) ((tk, tv) :: trs) := fun pins s σ H Q I h =>
  pairTrees_cons_walk (thn (hk pins s σ H _ I h) fun u s1 ⟨x, H1, I1, rx, q1⟩ => thn (hv pins s1 σ H1 _ I1 q1) fun w2 s2 ⟨y, H2, I2, ry, q2⟩ =>
    thn (hr pins s2 σ H2 _ I2 q2) fun ws s3 ⟨ps, H3, I3, rel, q3⟩ => ⟨(x, y) :: ps, H3, I3, .cons ⟨rx, ry⟩ rel, q3⟩)

def mergeK (kvs more : List (Key × V)) : List (Key × V) := more.foldl (fun acc kv => putK acc kv.1 kv.2) kvs
theorem KV.merge : ∀ {more : List (Key × V)} {rs : List (Key × Value)} {kvs : List (Key × V)} {vs : List (Key × Value)}, KV more rs → KV kvs vs → KV (mergeK kvs more) (merged vs rs) := by
  intro more rs kvs vs r
  unfold KV at r
  induction r generalizing kvs vs with
  | nil => intro q; exact q
  | @cons p q ps qs h t ih =>
    intro r0
    have e : KV (putK kvs p.1 p.2) (stored vs q.1 q.2) := by
      have := r0.put p.1 h.2
      rw [← h.1]; exact this
    exact ih e
theorem length_mergeK : ∀ (more kvs : List (Key × V)), (mergeK kvs more).length ≤ kvs.length + more.length
  | [], kvs => by show kvs.length ≤ kvs.length + 0; omega
  | p :: r, kvs => by
    have h1 := length_mergeK r (putK kvs p.1 p.2)
    have h2 := length_putK kvs p.1 p.2
    show (mergeK (putK kvs p.1 p.2) r).length ≤ _
    rw [List.length_cons]; omega
theorem carries_of {P : Program} {w : World} : ∀ {kvs : List (Key × V)} {ws : List (Value × Value)}, VV (kvs.map fun kv => (kV kv.1, kv.2)) ws → ∃ rs, Carries (mixKind P w) ws rs ∧ KV kvs rs
  | [], _, r => by rw [List.map_nil] at r; cases r; exact ⟨[], True.intro, .nil⟩
  | p :: kvs, _, r => by
    rw [List.map_cons] at r
    cases r with
    | @cons a b as bs h t =>
      obtain ⟨rs, c, q⟩ := carries_of (P := P) (w := w) t
      obtain ⟨b1, b2⟩ := b
      exact ⟨(p.1, b2) :: rs, ⟨kV_is h.1, rfl, c⟩, .cons ⟨rfl, h.2⟩ q⟩
/-- {k: v, ..} with keys ints and texts; the new dict stands empty while the pairs are made -/
def tDisp (trs : List (TE × TE)) : TE := fun σ H Q => ∀ p, H p = none → tPairs trs σ (upd H p (.dK [])) fun ps H2 => H2 p = some (.dK []) ∧ ∃ kvs : List (Key × V), ps = kvs.map (fun kv => (kV kv.1, kv.2)) ∧ kvs.length ≤ 15 ∧ Q (.ref p) (upd H2 p (.dK (mergeK [] kvs)))
theorem pe_disp {X : Cx} {pos : Pos} {keys : List (Option Expr)} {values : List Expr} {trs : List (TE × TE)} (h : PPs X pos keys values trs) (hall : keys.all (·.isSome) = true) (hl : keys.length = values.length) (h0 : keys ≠ [])
    (h15 : keys.length ≤ 15) : PE X (.Dict keys values pos) (tDisp trs) := by
  intro pins s σ H Q I q
  have hn := I.hok.fresh (Nat.le_refl s.heap.objs.size)
  have I1 := I.laid (a := s.heap.objs.size) (o := .dK []) (h' := s.heap.push { cls := .type "dict", data := .dict #[] }) (t' := s.toks) (fun _ _ q => Heap.get?_push_of_some _ q) (Nat.le_refl _) (dk_empty s.heap I.big)
  refine wpAny_Dict_walk (knd := mixKind X.prog X.w) hall hl h0 h15 (thn (h pins _ σ _ _ I1 (q _ hn)) fun ws s2 ⟨ps, H2, I2, rel, e, kvs, ep, lk, q2⟩ => ?_)
  subst ep
  obtain ⟨rs, c, rk⟩ := carries_of (P := X.prog) (w := X.w) rel
  obtain ⟨z, hd, vs0, r0, dd⟩ := dk_of I2.hok e
  cases r0
  refine ⟨rs, c, dd, fun h' dd' hs => ⟨.ref s.heap.objs.size, _, ?_, rfl, q2⟩⟩
  have hz : (mergeK [] kvs).length ≤ sizeLine := by
    have h1 := length_mergeK kvs []
    rw [List.length_nil] at h1
    rw [sizeLine_eq]; omega
  have he : ∃ q, h'.get? s.heap.objs.size = some q := let ⟨q, _, _, hq, _⟩ := dd'; ⟨q, hq⟩
  exact d_write I2 (by rw [e]; exact True.intro) hs he (dk_new hz hd (rk.merge .nil) dd')


/-! ### methods -/
section
variable {X : Cx} {pins : List (Addr × Obj)} {σ : St} {H : Hp} {s : Shared} {a : Addr} {y d : V} {u r : Value} {o : Option V} {A : Around} {E : Value → Shared → Prop}
end

section
variable {X : Cx} {o e f : Expr} {apos cpos : Pos} {td ty tx : TE}
end

/-! ### dict(d): a copy -/
section
variable {X : Cx} {pins : List (Addr × Obj)} {σ : St} {H : Hp} {s : Shared} {a : Addr} {kvs : List (Key × V)} {A : Around} {E : Value → Shared → Prop}
end


section
variable {X : Cx} {pins : List (Addr × Obj)} {σ : St} {H : Hp} {s : Shared} {a : Addr} {y : V} {u : Value} {A : Around} {E : Value → Shared → Prop}
end
end L2

namespace Att
open PySem PySem.W PySem.Calls PyProof.Rows

/-! ### the script -/
theorem ints_of_wellAll {P : Params} {h : Heap} : ∀ (ns : List Int) (vs : List Value), WellAll P h vs (ns.map WData.int) → IntsAre vs ns := by
  intro ns
  induction ns with
  | nil =>
    intro vs w
    rw [List.map_nil] at w
    cases w
    exact .nil
  | cons n ns ih =>
    intro vs w
    rw [List.map_cons] at w
    cases w with
    | cons a b =>
      cases a
      exact .cons _ _ (ih _ b)

theorem script_of {l : OpenLaw} {n : Nat} (hn : l.most = some n) {P : Params} {h : Heap} {args : List WData} {vals : List Value}
    (hpre : l.row.toRowW.claim.pre args = true) (hwl : WellAll P h vals args) :
    ∃ a vs ns, vals = [Value.ref a] ∧ args = [WData.list (ns.map WData.int)] ∧ h.get? a = some { cls := .type "list", data := .seq vs.toArray } ∧ IntsAre vs ns ∧ ns.length ≤ n := by
  have hsh : WShape.hasAll [] args [.list .int] = true := (pre_splitW hpre).1
  have hc : l.pre.holds [] { args := args } = true := (pre_splitW hpre).2
  obtain ⟨d, r, rfl, h1, h2⟩ := hasAllW_cons hsh
  obtain rfl := hasAllW_nil h2
  obtain ⟨xs, rfl, h3⟩ := hasW_list h1
  obtain ⟨ns, rfl⟩ := items_int h3
  have hlen : ns.length ≤ n := by
    unfold OpenLaw.pre at hc
    have h4 : (WTm.not (.lt (.lit (.int (n : Int))) (.len (.arg 0)))).holds [] { args := [.list (ns.map .int)] } = true := by
      have h4 := (holds_andW hc).1
      rw [hn] at h4
      exact h4
    have h5 := condW_of h4 (w_not (w_lt w_lit (w_len_list (w_arg rfl))))
    rw [List.length_map] at h5
    refine Nat.le_of_not_lt fun q => ?_
    have q' : (n : Int) < ((ns.length : Nat) : Int) := by omega
    first
      | (rw [decide_eq_true q'] at h5; exact absurd h5 (by decide))
      | (simp at h5; omega)
  cases hwl with
  | cons w1 w2 =>
    cases w2
    cases w1 with
    | list ho hall => exact ⟨_, _, ns, rfl, rfl, ho, ints_of_wellAll ns _ hall, hlen⟩

theorem post_true (l : OpenLaw) (args : List WData) : l.row.toRowW.claim.post args (.bool true) args = true :=
  postW_of (r := l.row.toRowW) (X := (true == true))
    (show WShape.has [] (.bool true) .bool = true by first | rfl | decide | simp [WShape.has, WShape.arms, WShape.armsAll])
    (show (WTm.eq .res (.lit (.bool true))).value [] { args := args, res := some (.bool true), after := args } = some (.bool (true == true)) from w_eq_bool (w_res rfl) w_lit) rfl

/-! ### the attachment: holds_open's last premise (the goal 'hc' behind k_head) from a wpAny of the law's body -/
/-- the same from a codeAny of the CALL (for a layer whose function contracts speak of calls) -/
theorem attach_call {l : OpenLaw} {n : Nat} {q : Program} {loose : List Str} {XP : (Str → Option Value) → Heap → Prop} {YP : World → Heap → Prop} {d : DefRec}
    (hn : l.most = some n) (hdf : d.params.defaults = [])
    (call : ∀ (w : World) (s₀ s₁ : Shared) (mg mb : Str → Option Value) (fa : Addr) (o : Obj) (pm cd doc : Value) (a : Addr) (vs : List Value) (ns : List Int),
      Ground q loose [] XP w s₀ mg mb s₁.heap → YP w s₁.heap →
      s₁.heap.get? fa = some o → o.data = .func (docDef d.name d.params d.body d.scope pm cd doc) → s₁.heap.CodeRec cd d.name → mg d.name = some (.ref fa) →
      s₁.heap.get? a = some { cls := .type "list", data := .seq vs.toArray } → IntsAre vs ns → ns.length ≤ n → s₁.gens = #[] →
      codeAny (model l.prog w) callerA (.call (.ref fa) ⟨[.ref a], []⟩) (fun r s' => r = .ok (.ret (.bool true)) ∧ OldK s₁.heap s'.heap ∧ s'.os = s₁.os ∧ AllBare s'.gens) s₁) :
    WalkO q loose XP YP l.row.toRowW d [] (fun f vs => PySem.call f vs) := by
  intro w s₀ s₁ mg mb G Y fa o pm cd doc dV kV ho hd hcd hD hmg hg args vals as hpre hlay hrd hwl hlo
  obtain rfl : dV = .none := Dflts.none hD hdf
  obtain rfl : kV = .none := Dflts.noKw hD
  obtain ⟨a, vs, ns, rfl, rfl, hobj, hints, hlen⟩ := script_of hn hpre hwl
  refine enter_call (codeAny_mono (call w s₀ s₁ mg mb fa o pm cd doc a vs ns G Y ho (fd_plain hd) hcd hmg hobj hints hlen hg) fun r s' hq => ?_)
  obtain ⟨rfl, h2, h3, h4⟩ := hq
  exact ⟨.inl ⟨.bool true, .bool true, [], rfl, fun _ => rfl, .bool true, post_true l _, fun _ => ⟨List.Pairwise.nil, fun _ hm => (nomatch hm)⟩⟩, h2, h3, h4⟩

/-! ### rules over ANY heap (no ledger) from facts about the written part K: the library's own take a ledger (News) for what they write -/
section
variable {prog : Program} {w : World} {A : Around} {E : Value → Shared → Prop} {s : Shared} {K : Frag}

/-! the whole heap as the ledger: makes every rule that writes through a ledger a rule over any heap -/
end
end Att

namespace L2
open PySem PySem.Spec PyProof.Rows

theorem vals_ints : ∀ {vs : List Value} {ns : List Int}, IntsAre vs ns → Vals (ns.map V.int) vs
  | _, _, .nil => .nil
  | _, _, .cons n t h => .cons ⟨t, rfl⟩ (vals_ints h)

/-- nothing is tracked but the script, known to the object (or it is an object of the module) -/
def Only (H : Hp) : Prop := ∀ b, H b = none ∨ ∃ o xs, H b = some (.frz o (.lst xs))

/-- THE HEAD: the law's promise, at the heap behind the top. F, the promise of the law's def, may use that base is part of the heap (so K.In base, base.Ns mainGlobals mg stand in Mod) -/
theorem law_call {P : Program} {w : World} {K : PySem.W.Frag} {mg mb : Str → Option Value} {CX : CXT} {k : Nat} {fa a : Addr} {fd : FuncData} {x : Str} {sp : Sp} {s₁ : Shared} {vs : List Value} {ns : List Int}
    (KX : K.In s₁.heap) (hns : s₁.heap.Ns mainGlobals mg) (hb : s₁.heap.Ns builtinsNs mb) (hbb : ∀ x : Str, x ≠ "__name__" → mb x = bootBuiltins x) (hlim : s₁.heap.NoLimit) (hg : s₁.gens = #[])
    (ha : s₁.heap.get? a = some { cls := .type "list", data := .seq vs.toArray }) (hi : IntsAre vs ns) (hl : ns.length ≤ sizeLine) (hr : Room k callerA)
    (F : ∀ base : Heap, K.In base → base.Ns mainGlobals mg → FnOk P w K mg base CX k fa fd [x] sp) (hbind : ∀ (s : Shared) (u : Value), BindsTo s fd ⟨[u], []⟩ [(x, u)])
    (hsp : ∀ H : Hp, Only H → SqL K H a (ns.map V.int) → sp [.ref a] H (fun v _ => v = .bl true) fun _ _ _ => False)
    (hCX : ∀ H e s', CX [] H s₁ (fun _ _ _ => False) e s' → False) :
    codeAny (model P w) callerA (.call (.ref fa) ⟨[.ref a], []⟩) (fun r s' => r = .ok (.ret (.bool true)) ∧ OldK s₁.heap s'.heap ∧ s'.os = s₁.os ∧ AllBare s'.gens) s₁ := by
  have rv := vals_ints hi
  have lenV := hi.length
  -- from an abstract heap in which nothing but the script may be tracked
  have core : ∀ H : Hp, Only H → SqL K H a (ns.map V.int) → HOk P w H s₁.heap → (∀ b, H b ≠ none → b = a) → (H a ≠ none → K.lookup a = none) →
      codeAny (model P w) callerA (.call (.ref fa) ⟨[.ref a], []⟩) (fun r s' => r = .ok (.ret (.bool true)) ∧ OldK s₁.heap s'.heap ∧ s'.os = s₁.os ∧ AllBare s'.gens) s₁ := by
    intro H hO hS hok hA hK
    have base_of : ∀ {b : Addr} {o : Obj}, s₁.heap.get? b = some o → H b = none → (hidT s₁.heap H).get? b = some o := fun e n => hidT_get e n
    have noA : ∀ {b : Addr} {o : Obj} {es : Array DictEntry} {ep : Nat}, s₁.heap.get? b = some o → o.data = .dict es ep → H b = none := fun {b o es ep} e d => by
      cases q : H b with
      | none => rfl
      | some u =>
        have e' : b = a := hA b (by rw [q]; simp)
        subst e'
        rw [ha] at e; cases e
        have d' : Data.seq vs.toArray _ = Data.dict es ep := d
        cases d'
    have nsK : ∀ {b : Addr} {m : Str → Option Value}, s₁.heap.Ns b m → (hidT s₁.heap H).Ns b m := fun {b m} ⟨o, es, ep, e, d, r⟩ => ⟨o, es, ep, base_of e (noA e d), d, r⟩
    have hKb : K.In (hidT s₁.heap H) := fun b o e => base_of (KX b o e) (by
      cases q : H b with
      | none => rfl
      | some u =>
        have e' : b = a := hA b (by rw [q]; simp)
        subst e'
        rw [hK (by rw [q]; simp)] at e; cases e)
    have hM : Mod K mg (hidT s₁.heap H) := ⟨hKb, nsK hns, ⟨mb, nsK hb, hbb⟩, let ⟨mc, h1, h2⟩ := hlim; ⟨mc, nsK h1, h2⟩⟩
    have e0 : Env0 P w K mg (hidT s₁.heap H) callerA [] s₁ H := ⟨rfl, hM, fun b o e => of_hidT e, Nat.le_of_eq (hidT_size _ _), trivial, fun b hb => absurd (show b ∈ ([] : List Addr) from hb) (by simp), hok, .of_eq hg⟩
    refine codeAny_mono ((F _ hKb (nsK hns)).run callerA [] s₁ H ⟨[.ref a], []⟩ [.ref a] [.ref a] _ _ hr e0 (hbind s₁ (.ref a)) (.cons rfl .nil) (hsp H hO hS)) fun r s' h => ?_
    cases r with
    | error e => exact (hCX H e s' h).elim
    | ok fl =>
      cases fl with
      | next => exact False.elim h
      | brk => exact False.elim h
      | cont => exact False.elim h
      | ret u =>
        obtain ⟨v, H', os, bare, un, hok', r', q⟩ := h
        have q' : v = .bl true := q
        subst q'
        obtain rfl : u = Value.bool true := r'
        refine ⟨rfl, OldK.of_keep fun b o e => ?_, os, bare⟩
        cases q : H b with
        | none => exact un.keep b o e q (by intro z; exact absurd (show b ∈ ([] : List Addr) from z) (by simp)) (by simp)
        | some u =>
          rcases hO b with z | ⟨ob, xs, z⟩
          · rw [q] at z; cases z
          · have z2 := un.frzs b ob _ z
            obtain ⟨e1, _⟩ := hok b _ z
            obtain ⟨e2, _⟩ := hok' b _ z2
            rw [e] at e1; cases e1
            exact e2
  cases hk : K.lookup a with
  | some o =>
    -- the script is one of the module's own objects
    have e := KX a o hk
    rw [ha] at e
    cases e
    refine core (fun _ => none) (fun _ => .inl rfl) (.inr ⟨_, vs.toArray, _, hk, rfl, rfl, rfl, by rw [List.size_toArray, lenV]; exact hl, by simpa using rv⟩) (fun b u z => by have z' : (none : Option HO) = some u := z; cases z') (fun b z => absurd rfl z) fun z => absurd rfl z
  | none =>
    refine core (fun b => if b = a then some (.frz { cls := .type "list", data := .seq vs.toArray } (.lst (ns.map V.int))) else none) (fun b => ?_) (.inl (.inr ⟨{ cls := .type "list", data := .seq vs.toArray }, if_pos rfl⟩)) (fun b u z => ?_) (fun b z => ?_) fun _ => hk
    · by_cases hb : b = a
      · exact .inr ⟨_, _, if_pos hb⟩
      · exact .inl (if_neg hb)
    · by_cases hb : b = a
      · have z' := (if_pos hb).symm.trans z
        cases z'
        subst hb
        exact ⟨ha, by rw [List.length_map]; exact hl, vs, _, rv, ha⟩
      · have z' := (if_neg hb).symm.trans z
        cases z'
    · by_cases hb : b = a
      · exact hb
      · exact absurd (if_neg hb) z
end L2

namespace L2
open PySem PySem.Spec PyProof.Rows

/-- the goal that k_head leaves (case hc), from the law's promise. F gives the function object fd (K's own) once, then the promise over every base -/
theorem walk_of {l : PySem.W.OpenLaw} {n k : Nat} {q : Program} {loose : List Str} {XP : (Str → Option Value) → Heap → Prop} {YP : World → Heap → Prop} {d : DefRec} {K : Params → PySem.W.Frag} {CX : World → CXT} {sp : World → Sp} {x : Str}
    (hn : l.most = some n) (hn2 : n ≤ sizeLine) (hdf : d.params.defaults = []) (hr : Room k callerA)
    (hY : ∀ (w : World) (h : Heap), YP w h → (K w.params).In h)
    (F : ∀ (w : World) (mg : Str → Option Value) (fa : Addr) (h : Heap), (K w.params).In h → h.Ns mainGlobals mg → mg d.name = some (.ref fa) →
      ∃ fd : FuncData, (∀ (s : Shared) (u : Value), BindsTo s fd ⟨[u], []⟩ [(x, u)]) ∧
        ∀ base : Heap, (K w.params).In base → base.Ns mainGlobals mg → FnOk l.prog w (K w.params) mg base (CX w) k fa fd [x] (sp w))
    (hsp : ∀ (w : World) (H : Hp) (a : Addr) (ns : List Int), ns.length ≤ n → Only H → SqL (K w.params) H a (ns.map V.int) → sp w [.ref a] H (fun v _ => v = .bl true) fun _ _ _ => False)
    (hCX : ∀ (w : World) (H : Hp) (s : Shared) (e : Value) (s' : Shared), CX w [] H s (fun _ _ _ => False) e s' → False) :
    PySem.W.WalkO q loose XP YP l.row.toRowW d [] (fun f vs => PySem.call f vs) := by
  refine Att.attach_call hn hdf fun w s₀ s₁ mg mb fa o pm cd doc a vs ns G Y ho hd hcd hmg hobj hints hlen hg => ?_
  have KX := hY w _ Y
  obtain ⟨fd, hb, hF⟩ := F w mg fa _ KX G.T.g hmg
  exact law_call KX G.T.g G.T.b G.T.builtins G.T.nolimit hg hobj hints (Nat.le_trans hlen hn2) hr hF hb (fun H hO hS => hsp w H a ns hlen hO hS) fun H e s' => hCX w H s₁ e s'
end L2

/- THE LAST THEOREM (shape; LID, My.* are yours):
   My.Adr: a structure of the addresses that your layer names (classes, functions); My.Txt K t: a structure (Prop) of the equations over K;
   My.txt_mk : {K} {implicit addresses ..} (e1 : nsIn K mainGlobals "law" = some (some (.ref f))) (e2 : K.lookup f = some ⟨oc, od, .func (fnOf "law" "law" params body scope dV kV doc pm an cdv ct), sl⟩) (e3 : codeIn K cdv "law" = true) .. : ∃ t, My.Txt K t

set_option maxRecDepth 100000 in
set_option maxHeartbeats 0 in
theorem PySem.Challenge.cw_LID_holds : PySem.Challenge.rw_LID.Holds := by
  w_on; o_law; k_head; (case hw => w_witness2)
  k_fill
  refine L2.walk_of (l := PySem.Challenge.rw_LID) (n := 63) (k := 40) (x := "script") (CX := fun w => ..) (sp := fun _ => My.sp_law) rfl (by decide) rfl ⟨rfl, by decide, by decide⟩ (fun w h Y => PySem.W.kIn_of Y) ?F ?S ?C
  case F =>
    intro w mg fa h KX G hmg
    have T : ∃ t, My.Txt (L2.KOf KX) t := by
      dsimp only [L2.KOf]                          -- K must stand as «<heap const> w.params» for k_is
      refine' My.txt_mk ?e1 ?e2 ?e3 ..
      (case e1 => PySem.W.k_is)                    -- in the order: a name -> its address -> its object -> its parts
      (case e2 => PySem.W.k_is)
      ..
    obtain ⟨t, T⟩ := T
    have e0 := hmg.symm.trans (PySem.W.mg_of KX G T.law)
    cases e0                                       -- fa is the law's own address
    exact ⟨_, fun s u => .of_eq rfl, fun base kb nb => My.law_fn T kb nb⟩     -- if «.of_eq rfl» comes too early: refine' ⟨_, ?b, fun base kb nb => My.law_fn T kb nb⟩; exact fun s u => .of_eq rfl
  case S => exact fun w H a ns hl hO hS => ..
  case C => exact ..
(the tactic k_is has no namespace: write k_is) -/

/-! SHORT WORDS over the layer: a def of the text, its body, what a loop and a test want. -/
namespace L2
open PySem PySem.Spec PyProof.Rows

/-! ### the text by places -/
/-- the j-th statement of a class's body -/
def inClass (s : Stmt) (j : Nat) : Stmt := match s with
  | .ClassDef _ _ _ body _ _ _ _ _ _ _ => body.getD j (.Pass ⟨0, 0, 0, 0⟩)
  | _ => .Pass ⟨0, 0, 0, 0⟩
def defArgs (s : Stmt) : Arguments := match s with
  | .FunctionDef _ a _ _ _ _ _ _ _ _ => a
  | _ => { posonlyargs := [], args := [], vararg := none, kwonlyargs := [], kw_defaults := [], kwarg := none, defaults := [] }
def defBody (s : Stmt) : List Stmt := match s with
  | .FunctionDef _ _ b _ _ _ _ _ _ _ => b
  | _ => []
def defScope (s : Stmt) : Scope := match s with
  | .FunctionDef _ _ _ _ _ _ sc _ _ _ => sc
  | _ => { kind := .function, names := [], isGenerator := false, isCoroutine := false }

/-! ### no exception leaves a def -/
abbrev CX0 : CXT := fun _ _ _ _ _ _ => False
abbrev E0 : XK := fun _ _ _ => False
theorem pass0 {X : Cx} : Passes CX0 X E0 := fun _ _ _ _ _ _ _ h => h.elim

/-! ### a def (or method) of the text as it stands behind the top -/
structure Fun (K : PySem.W.Frag) (x qual : Str) (st : Stmt) (f : Addr) (fd : FuncData) : Prop where
  ex : ∃ (oc : Value) (od : Option Addr) (kV doc pm : Value) (an : Option Addr) (cdv ct : Value) (osl : Array (Option Value)),
    fd = PySem.W.fnOf x qual (defArgs st) (defBody st) (defScope st) .none kV doc pm an cdv ct ∧ K.lookup f = some ⟨oc, od, .func fd, osl⟩ ∧ PySem.W.codeIn K cdv qual = true
  kp : PySem.W.keepIn K (.ref f) = true
section
variable {P : Program} {w : World} {K : PySem.W.Frag} {mg : Str → Option Value} {base : Heap}
/-- THE RULE for a def: its body as a term of rules, and the reading of that term -/
theorem Fun.ok {x qual : Str} {st : Stmt} {f : Addr} {fd : FuncData} {N ps : List Str} {k : Nat} {sp : Sp} (F : Fun K x qual st f fd) (S : FnScope N ps (defScope st)) (len : ∀ vs H Q E, sp vs H Q E → vs.length = ps.length)
    (hbody : ∀ (cdv : Value) (A : Around) (outer : List Env) (s : Shared) (H : Hp) (vs : List V) (Q : VK) (E : XK), Room k (A.deeper (envOfC qual (defScope st) s.heap.objs.size f cdv)) → sp vs H Q E →
      ∃ t, PSs (cxOf CX0 P w K mg base N qual (defScope st) f cdv A outer s H E).nox (defBody st) t ∧ t { nx := fun _ H' => Q .non H', rt := Q } (start N vs) H) : FnOk P w K mg base CX0 (k + 1) f fd ps sp := by
  obtain ⟨oc, od, kV, doc, pm, an, cdv, ct, osl, rfl, lk, hcd⟩ := F.ex
  refine fn_of lk hcd S len fun A outer s H vs Q E hr hsp => ?_
  obtain ⟨t, h, q⟩ := hbody cdv A outer s H vs Q E hr hsp
  exact ⟨t, h.nox, q⟩
/-- how its arguments bind (no defaults): h is «fun _ _ _ _ _ _ us hl => match us, hl with | [_, _], _ => rfl», one _ a parameter -/
theorem Fun.binds {x qual : Str} {st : Stmt} {f : Addr} {fd : FuncData} {ps : List Str} (F : Fun K x qual st f fd)
    (h : ∀ (kV doc pm : Value) (an : Option Addr) (cdv ct : Value) (us : List Value), us.length = ps.length → bindArgs (PySem.W.fnOf x qual (defArgs st) (defBody st) (defScope st) .none kV doc pm an cdv ct) ⟨us, []⟩ = pure (ps.zip us)) : Binds K fd ps [] := by
  obtain ⟨oc, od, kV, doc, pm, an, cdv, ct, osl, rfl, lk, hcd⟩ := F.ex
  exact .all (h kV doc pm an cdv ct)
theorem fun_mk {x qual : Str} {st : Stmt} {f : Addr} {oc : Value} {od an : Option Addr} {osl : Array (Option Value)} {kV doc pm cdv ct : Value} (l : K.lookup f = some ⟨oc, od, .func (PySem.W.fnOf x qual (defArgs st) (defBody st) (defScope st) .none kV doc pm an cdv ct), osl⟩)
    (c : PySem.W.codeIn K cdv qual = true) (k : PySem.W.keepIn K (.ref f) = true) : Fun K x qual st f (PySem.W.fnOf x qual (defArgs st) (defBody st) (defScope st) .none kV doc pm an cdv ct) := ⟨⟨oc, od, kV, doc, pm, an, cdv, ct, osl, rfl, l, c⟩, k⟩
end
theorem hu_of {A : Around} {k : Nat} (hr : Room k A) : A.units + 1 < cLine := Nat.lt_of_le_of_lt (Nat.add_le_add_left (by decide : 1 ≤ 64) _) hr.units
/-! ### expressions in short: the name that stands in the i-th slot -/
section
variable {X : Cx}
end

/-! ### tests -/
/-! ### heaps -/
/-! ### a dict's pairs: keys that differ -/
section
variable {κ : Type} [DecidableEq κ]
end
end L2

end
section
set_option Elab.async false
set_option linter.all false
set_option maxRecDepth 100000
set_option maxHeartbeats 4000000
namespace L2
open PySem PySem.Spec PyProof.Rows

/-! ### comprehensions -/
def freeNames (sc : Scope) : List Str := (sc.names.filter fun x => x.2 == .free).map (·.1)
def closOf (sc : Scope) (env : Env) : List (Str × Addr) := ((freeNames sc).reverse).map fun n => (n, (env.cells.lookup n).getD 0)

theorem closureFor_of {sc : Scope} {env : Env} (h : ∀ n ∈ freeNames sc, ∃ c, env.cells.lookup n = some c) : closureFor sc env = pure (closOf sc env) := by
  have key : ∀ (l : List (Str × NameKind)) (cs : List (Str × Addr)), (∀ x ∈ l, x.2 = .free → ∃ c, env.cells.lookup x.1 = some c) →
      (forIn l cs fun (x : Str × NameKind) (r : List (Str × Addr)) => (if (x.2 == NameKind.free) = true then (do let a ← cellOf env x.1; pure (ForInStep.yield ((x.1, a) :: r))) else pure (ForInStep.yield r) : Sem (ForInStep (List (Str × Addr)))))
        = pure ((((l.filter fun x => x.2 == .free).map (·.1)).reverse).map (fun n => (n, (env.cells.lookup n).getD 0)) ++ cs) := by
    intro l
    induction l with
    | nil => intro cs _; rfl
    | cons x r ih =>
      intro cs hx
      rw [List.forIn_cons]
      by_cases hk : x.2 = .free
      · obtain ⟨c, hc⟩ := hx x List.mem_cons_self hk
        have e1 : (x.2 == NameKind.free) = true := by rw [hk]; rfl
        have e2 : cellOf env x.1 = pure c := by unfold cellOf; rw [hc]
        rw [if_pos e1, e2]
        show (forIn r ((x.1, c) :: cs) _ : Sem _) = _
        rw [ih _ fun y hy => hx y (List.mem_cons_of_mem _ hy)]
        rw [List.filter_cons, if_pos e1, List.map_cons, List.reverse_cons, List.map_append, List.append_assoc]
        simp [hc]
      · have e1 : (x.2 == NameKind.free) = false := by simpa using hk
        rw [if_neg (by rw [e1]; decide)]
        show (forIn r cs _ : Sem _) = _
        rw [ih _ fun y hy => hx y (List.mem_cons_of_mem _ hy)]
        rw [List.filter_cons, if_neg (by rw [e1]; decide)]
  unfold closureFor closOf freeNames
  have := key sc.names [] fun x hx hf => h x.1 (by
    unfold freeNames
    exact List.mem_map.mpr ⟨x, List.mem_filter.mpr ⟨hx, by rw [hf]; rfl⟩, rfl⟩)
  rw [List.append_nil] at this
  show (forIn sc.names [] _ >>= pure : Sem _) = _
  refine Eq.trans (congrArg (· >>= pure) (Eq.trans (congrArg (fun f => (forIn sc.names [] f : Sem (List (Str × Addr)))) (funext fun x => funext fun r => ?_)) this)) rfl
  obtain ⟨n, k⟩ := x
  rfl
theorem lookup_tab {f : Str → Addr} {x : Str} : ∀ {l : List Str} {c : Addr}, (l.map fun n => (n, f n)).lookup x = some c → x ∈ l ∧ c = f x
  | [], _, h => by simp at h
  | n :: r, c, h => by
    simp only [List.map_cons, List.lookup_cons] at h
    cases hx : x == n with
    | true =>
      rw [hx] at h
      have e : x = n := by simpa using hx
      subst e
      exact ⟨List.mem_cons_self, (Option.some.inj h).symm⟩
    | false =>
      rw [hx] at h
      obtain ⟨a, b⟩ := lookup_tab h
      exact ⟨List.mem_cons_of_mem _ a, b⟩
theorem tab_lookup {f : Str → Addr} {x : Str} : ∀ {l : List Str}, x ∈ l → (l.map fun n => (n, f n)).lookup x = some (f x)
  | n :: r, h => by
    simp only [List.map_cons, List.lookup_cons]
    cases hx : x == n with
    | true =>
      have e : x = n := by simpa using hx
      subst e
      rfl
    | false =>
      rcases List.mem_cons.mp h with e | e
      · subst e; simp at hx
      · exact tab_lookup e
theorem lookup_relabel_free {env : Env} : ∀ {names : List (Str × NameKind)} {x : Str}, names.lookup x = some .free →
    (names.map fun (n, k) => if (k == NameKind.free && env.scope.kind == .function && env.kindOf n == some .cell) then (n, NameKind.cell) else (n, k)).lookup x = some .cell ∨
    (names.map fun (n, k) => if (k == NameKind.free && env.scope.kind == .function && env.kindOf n == some .cell) then (n, NameKind.cell) else (n, k)).lookup x = some .free
  | [], _, h => by simp at h
  | (n, k) :: r, x, h => by
    have ih := @lookup_relabel_free env r x
    show List.lookup x ((if (k == NameKind.free && env.scope.kind == .function && env.kindOf n == some .cell) = true then (n, NameKind.cell) else (n, k)) :: _) = _ ∨
      List.lookup x ((if (k == NameKind.free && env.scope.kind == .function && env.kindOf n == some .cell) = true then (n, NameKind.cell) else (n, k)) :: _) = _
    cases hx : x == n with
    | true =>
      simp only [List.lookup_cons, hx] at h
      by_cases hc : (k == NameKind.free && env.scope.kind == .function && env.kindOf n == some .cell) = true
      · rw [if_pos hc]; simp only [List.lookup_cons, hx]; exact .inl trivial
      · rw [if_neg hc]; simp only [List.lookup_cons, hx]; exact .inr h
    | false =>
      simp only [List.lookup_cons, hx] at h
      by_cases hc : (k == NameKind.free && env.scope.kind == .function && env.kindOf n == some .cell) = true
      · rw [if_pos hc]; simp only [List.lookup_cons, hx]; exact ih h
      · rw [if_neg hc]; simp only [List.lookup_cons, hx]; exact ih h
/-- what the relabelled table says a cell or a free name is -/
theorem relabel_back {env : Env} : ∀ {names : List (Str × NameKind)} {x : Str}, (∀ y ∈ names, y.2 ≠ .cell) →
    ((names.map fun (n, k) => if (k == NameKind.free && env.scope.kind == .function && env.kindOf n == some .cell) then (n, NameKind.cell) else (n, k)).lookup x = some .cell ∨
    (names.map fun (n, k) => if (k == NameKind.free && env.scope.kind == .function && env.kindOf n == some .cell) then (n, NameKind.cell) else (n, k)).lookup x = some .free) → (x, NameKind.free) ∈ names
  | [], _, _, h => by simp at h
  | (n, k) :: r, x, nc, h => by
    have ih := @relabel_back env r x fun y hy => nc y (List.mem_cons_of_mem _ hy)
    change (List.lookup x ((if (k == NameKind.free && env.scope.kind == .function && env.kindOf n == some .cell) = true then (n, NameKind.cell) else (n, k)) :: _) = _ ∨
      List.lookup x ((if (k == NameKind.free && env.scope.kind == .function && env.kindOf n == some .cell) = true then (n, NameKind.cell) else (n, k)) :: _) = _) at h
    cases hx : x == n with
    | true =>
      have e : x = n := by simpa using hx
      subst e
      by_cases hc : (k == NameKind.free && env.scope.kind == .function && env.kindOf x == some .cell) = true
      · have : k = .free := by
          have := (Bool.and_eq_true_iff.mp (Bool.and_eq_true_iff.mp hc).1).1
          simpa using this
        rw [this]; exact List.mem_cons_self
      · rw [if_neg hc] at h
        simp only [List.lookup_cons, hx] at h
        rcases h with h | h
        · exact absurd (Option.some.inj h) (nc (x, k) List.mem_cons_self)
        · rw [Option.some.inj h]; exact List.mem_cons_self
    | false =>
      refine List.mem_cons_of_mem _ (ih ?_)
      by_cases hc : (k == NameKind.free && env.scope.kind == .function && env.kindOf n == some .cell) = true
      · rw [if_pos hc] at h; simpa only [List.lookup_cons, hx] using h
      · rw [if_neg hc] at h; simpa only [List.lookup_cons, hx] using h

/-- a comprehension's block: N its names (own first), fr the places of the outer names that it sees -/
def compN (X : Cx) (own : List Str) (fr : List Nat) : List Str := own ++ fr.map fun k => X.N.getD k Str.empty
def compSt (n : Nat) (fr : List Nat) (σ : St) : St := List.replicate n none ++ fr.map fun k => (σ[k]?).join
def compCx (X : Cx) (sc : Scope) (own : List Str) (fr : List Nat) (C : Addr) (s₀ : Shared) (H₀ : Hp) (ex : List Addr) : Cx where
  prog := X.prog
  w := X.w
  K := X.K
  mg := X.mg
  base := X.base
  A := X.A
  N := compN X own fr
  s₀ := s₀
  H₀ := H₀
  env := compEnvC sc (closOf sc X.env) C X.env
  outer := X.stack
  stack := X.stack
  ex := ex
  fn := fun _ => false
  calm := X.calm
  pn := []
  xe := fun _ _ => False

def FrOk (X : Cx) (sc : Scope) : List Nat → Prop
  | [] => True
  | k :: r => (sc.names.lookup (X.N.getD k Str.empty) = some .free ∧ (X.env.scope.names.lookup (X.N.getD k Str.empty) = some .cell ∨ X.env.scope.names.lookup (X.N.getD k Str.empty) = some .free)) ∧ FrOk X sc r
theorem FrOk.mem {X : Cx} {sc : Scope} : ∀ {fr : List Nat}, FrOk X sc fr → ∀ k ∈ fr, sc.names.lookup (X.N.getD k Str.empty) = some .free ∧ (X.env.scope.names.lookup (X.N.getD k Str.empty) = some .cell ∨ X.env.scope.names.lookup (X.N.getD k Str.empty) = some .free)
  | _ :: _, h, k, hk => by
    rcases List.mem_cons.mp hk with e | e
    · subst e; exact h.1
    · exact FrOk.mem h.2 k e

def FreesOk (X : Cx) : List Str → Prop
  | [] => True
  | n :: r => (X.env.scope.names.lookup n = some .cell ∨ X.env.scope.names.lookup n = some .free) ∧ FreesOk X r
theorem FreesOk.mem {X : Cx} : ∀ {l : List Str}, FreesOk X l → ∀ n ∈ l, X.env.scope.names.lookup n = some .cell ∨ X.env.scope.names.lookup n = some .free
  | _ :: _, h, n, hn => by
    rcases List.mem_cons.mp hn with e | e
    · subst e; exact h.1
    · exact FreesOk.mem h.2 n e
structure CompScope (X : Cx) (sc : Scope) (fr : List Nat) : Prop where
  kind : sc.kind = .function
  nocell : ∀ y ∈ sc.names, y.2 ≠ .cell
  names : ∀ y ∈ sc.names, y.2 = .local → sc.names.lookup y.1 = some .local
  frees : FreesOk X (freeNames sc)
  fr : FrOk X sc fr

section
variable {X : Cx} {sc : Scope} {own : List Str} {fr : List Nat} {pins : List (Addr × Obj)} {σ : St} {H : Hp} {s : Shared}
theorem CompScope.cells (S : CompScope X sc fr) (I : Inv X pins σ H s) : ∀ n ∈ freeNames sc, ∃ c, X.env.cells.lookup n = some c := fun n hn => I.ok.has n (S.frees.mem n hn)
theorem CompScope.look (S : CompScope X sc fr) (I : Inv X pins σ H s) {x : Str} {c : Addr} (h : (closOf sc X.env).lookup x = some c) : X.env.cells.lookup x = some c := by
  obtain ⟨a, b⟩ := lookup_tab h
  obtain ⟨d, e⟩ := S.cells I x (List.mem_reverse.mp a)
  rw [e] at b
  rw [e, b]
  rfl
theorem mem_freeNames {x : Str} (h : (x, NameKind.free) ∈ sc.names) : x ∈ freeNames sc := List.mem_map.mpr ⟨_, List.mem_filter.mpr ⟨h, rfl⟩, rfl⟩
theorem CompScope.back (S : CompScope X sc fr) (I : Inv X pins σ H s) {x : Str} (hx : x ∈ freeNames sc) : ∃ c, (closOf sc X.env).lookup x = some c ∧ X.env.cells.lookup x = some c := by
  obtain ⟨c, e⟩ := S.cells I x hx
  refine ⟨c, ?_, e⟩
  unfold closOf
  rw [tab_lookup (List.mem_reverse.mpr hx), e]
  rfl

/-- the block's first state -/
theorem inv_comp (S : CompScope X sc fr) {fp : List Addr} (I : Inv X pins σ H s) (hf : ∀ b ∈ fp, FpOk X pins H b) (ho : ∀ b ∈ fp, ∃ o, s.heap.get? b = some o) {h₁ : Heap} {t : Nat}
    (hns : h₁.Ns s.heap.objs.size (fun _ => none)) (hk : ∀ b o, s.heap.get? b = some o → h₁.get? b = some o) :
    Inv (compCx X sc own fr s.heap.objs.size s H fp) [] (compSt own.length fr σ) H { s with heap := h₁, toks := t } := by
  have ltC : ∀ b o, s.heap.get? b = some o → b ≠ s.heap.objs.size := fun b o e => Nat.ne_of_lt (Heap.lt_size e)
  have cellOld : ∀ x c, (closOf sc X.env).lookup x = some c → ∃ v, s.heap.IsCell c v := fun x c e => I.cell x c (S.look I e)
  refine ⟨⟨I.ok.mod, S.kind, I.ok.glob, I.ok.blt, Nat.le_refl _, fun x y c h1 h2 => I.ok.inj x y c (S.look I h1) (S.look I h2), fun x hx => ?_, fun x c z => absurd z (by simp [compCx]), I.ok.hd, I.ok.frames, .inl rfl, fun b hb => ?_, I.bs, Nat.le_trans I.ok.bsz I.sz, fun b o e hb => ?_, fun b hb => ?_, I.stack, I.stkFree⟩,
    rfl, I.bare, Un.kept hk, ⟨_, hns, fun i x v e1 e2 e3 => ?_⟩, fun x c e => ?_, I.hok.fresh (Nat.le_refl _), fun x c e => I.freeC x c (S.look I e), fun p hp => absurd (show p ∈ ([] : List (Addr × Obj)) from hp) (by simp), I.hok.kept hk, ?_⟩
  · have := relabel_back (env := X.env) S.nocell hx
    obtain ⟨c, e, _⟩ := S.back I (mem_freeNames this)
    exact ⟨c, e⟩
  · obtain ⟨o, e⟩ := ho b hb
    obtain ⟨_, _, _, _, f4, _⟩ := hf b hb
    exact ⟨ltC b o e, fun x c e' => f4 x c (S.look I e')⟩
  · obtain ⟨_, _, _, f3, _⟩ := hf b hb
    rcases f3 with z | z
    · exact I.ok.noex b o e z
    · exact absurd (Nat.lt_of_lt_of_le (Heap.lt_size e) (Nat.le_trans I.ok.bsz z)) (Nat.lt_irrefl _)
  · obtain ⟨_, f1, f2, _⟩ := hf b hb
    intro z
    rcases List.mem_cons.mp (I.stkSub b z) with q | q
    · exact f1 q
    · exact f2 q
  · -- a name that is bound
    have hi : own.length ≤ i := by
      rcases Nat.lt_or_ge i own.length with z | z
      · exfalso
        change (List.replicate own.length none ++ fr.map fun k => (σ[k]?).join)[i]? = some (some v) at e2
        rw [List.getElem?_append_left (by simpa using z), List.getElem?_replicate, if_pos z] at e2
        cases e2
      · exact z
    change (List.replicate own.length none ++ fr.map fun k => (σ[k]?).join)[i]? = some (some v) at e2
    rw [List.getElem?_append_right (by simpa using hi), List.length_replicate, List.getElem?_map] at e2
    change (own ++ fr.map fun k => X.N.getD k Str.empty)[i]? = some x at e1
    rw [List.getElem?_append_right hi, List.getElem?_map] at e1
    cases e : fr[i - own.length]? with
    | none => rw [e] at e1; cases e1
    | some k =>
      rw [e] at e1 e2
      have e1 : X.N.getD k Str.empty = x := Option.some.inj e1
      have e2 : (σ[k]?).join = some v := Option.some.inj e2
      have e2' : σ[k]? = some (some v) := by
        cases q : σ[k]? with
        | none => rw [q] at e2; cases e2
        | some z => rw [q] at e2; cases z with
          | none => cases e2
          | some z => rw [show z = v from Option.some.inj e2]
      have hkl : k < X.N.length := by
        have := (List.getElem?_eq_some_iff.mp e2').1
        rw [I.len] at this
        exact this
      have e1' : X.N[k]? = some x := by
        rw [List.getElem?_eq_getElem hkl, ← e1]
        simp [List.getD, hkl]
      obtain ⟨q1, q2⟩ := S.fr.mem k (List.mem_of_getElem? e)
      rw [e1] at q1 q2
      have hvis : Vis X.env.scope x := by
        rcases q2 with z | z
        · exact .inr (.inl z)
        · exact .inr (.inr z)
      obtain ⟨m, hn, hl⟩ := I.loc
      obtain ⟨u, r, l⟩ := hl k x v e1' e2' hvis
      refine ⟨u, r, .inr ⟨?_, ?_⟩⟩
      · exact lookup_relabel_free (env := X.env) q1
      · rcases l with ⟨z, _⟩ | ⟨_, c, hc, z⟩
        · exfalso
          have z : X.env.scope.names.lookup x = some .local := z
          rcases q2 with y | y
          · rw [z] at y; cases y
          · rw [z] at y; cases y
        · obtain ⟨c', h1, h2⟩ := S.back I (mem_freeNames (PySem.mem_of_lookup q1))
          rw [hc] at h2
          cases h2
          obtain ⟨o, ho', hd⟩ := z
          exact ⟨c, h1, o, hk c o ho', hd⟩
  · obtain ⟨v, o, ho', hd⟩ := cellOld x c e
    exact ⟨v, o, hk c o ho', hd⟩
  · show (List.replicate own.length none ++ fr.map fun k => (σ[k]?).join).length = (own ++ fr.map fun k => X.N.getD k Str.empty).length
    simp
end

/-- the tests of a clause -/
def PTs (X : Cx) (ifs : List Expr) (t : TT) : Prop :=
  ∀ (pins : List (Addr × Obj)) (s : Shared) (σ : St) (H : Hp) (Q : Bool → Hp → Prop), Inv X pins σ H s → t σ H Q →
    wpAny (model X.prog X.w) X.A (forIn ifs true fun c r => if r = true then do let ok ← isTrue c X.env (eval c X.env); pure (ForInStep.yield ok) else pure (ForInStep.yield r)) (TP X pins σ Q) X.xe s
def tYes : TT := fun _ H Q => Q true H
theorem pts_nil {X : Cx} : PTs X [] tYes := fun pins s σ H Q I h => wpAny_tests_nil ⟨H, I, h⟩
/-- what a turn does with the accumulator -/
abbrev TM := Addr → St → Hp → (Hp → Prop) → Prop
def PM (X : Cx) (emit : Env → Addr → Sem Unit) (t : TM) : Prop :=
  ∀ (pins : List (Addr × Obj)) (s : Shared) (σ : St) (H : Hp) (D : Addr) (Q : Hp → Prop), Inv X pins σ H s → t D σ H Q →
    wpAny (model X.prog X.w) X.A (emit X.env D) (fun _ s' => ∃ H', Inv X pins σ H' s' ∧ Q H') X.xe s
def tCompB (acc : HO) (wi : TI) (n : Nat) (fr : List Nat) (g : TG) (tc : TT) (tm : TM) : St → Hp → (Addr → Hp → Prop) → Prop := fun σ H Q =>
  wi σ H fun J H1 => ∀ p, H1 p = none → ∃ W : Nat → Nat → St → Hp → Prop, (∃ m, W 0 m (compSt n fr σ) (upd H1 p acc)) ∧
    ∀ i m σ' H', W i m σ' H' → (J.stop i H' ∧ Q p H') ∨ (J.go i H' ∧ ∃ N : St → Hp → Prop, (∀ σ2 H2, N σ2 H2 → ∃ m', m' < m ∧ W (i + 1) m' σ2 H2) ∧ ∀ x H2, J.yld i H' x H2 → g x σ' H2 fun σ3 H3 => tc σ3 H3 fun b H4 =>
      if b = true then tm p σ3 H4 (N σ3) else N σ3 H4)

structure CompForm (e : Expr) (tg iter : Expr) (ifs : List Expr) (emit : Env → Addr → Sem Unit) : Prop where
  cl : ∃ gs, clausesOf e = ⟨tg, iter, ifs, 0⟩ :: gs
  under : ∀ (A : Around) it acc env, A.under (.compLoop e 0 it acc env) = A
  den : ∀ (prog : Program) (w : World) it acc env, (model prog w).den (.compLoop e 0 it acc env) = ((compTurn e 0 it acc env).onRaise (fun x => do noteFrame x env; theTreesLotGoes x))
  turn : ∀ it D env, compTurn e 0 it (.ref D) env = (do
      standAt iter.pos
      match ← pyNext it with
      | none => pure (.done .next)
      | some v =>
        letOwnedTupleGo tg it v
        assign tg env v
        let mut ok := true
        for c in ifs do
          if ok then ok ← isTrue c env (eval c env)
        if ok then
          emit env D
        again (.compLoop e 0 it (.ref D) env))
  start : ∀ (prog : Program) (w : World) (A : Around) (R : Result → Shared → Prop) (s : Shared) it acc env, codeAny (model prog w) A (.compLoop e 0 it acc env) R s →
    wpAny (model prog w) A (pyIter it) (fun it' s' => codeAny (model prog w) A (.compLoop e 0 it' acc env) R s') (notedBy (model prog w) A env fun x s' => R (.error x) s') s →
    codeAny (model prog w) A (.compStart e 0 it acc env) R s

section
variable {X : Cx} {sc : Scope} {own : List Str} {fr : List Nat} {e tg iter : Expr} {ifs : List Expr} {emit : Env → Addr → Sem Unit} {wi : TI} {g : TG} {tc : TT} {tm : TM} {acc : HO}

/-- the loop -/
theorem comp_loop (F : CompForm e tg iter ifs emit) (hc : X.calm = true) {C : Addr} {s₀ : Shared} {H₀ : Hp} {fp : List Addr} {it D : Addr} {tn : Nat → Heap → Prop} {J : It} {R : Result → Shared → Prop} {s : Shared}
    (hg : PG (compCx X sc own fr C s₀ H₀ fp) tg g) (ht : PTs (compCx X sc own fr C s₀ H₀ fp) ifs tc) (hm : PM (compCx X sc own fr C s₀ H₀ fp) emit tm)
    (T : Turn X.prog X.w X.K tg J fp it tn) (hfp : ∀ b ∈ fp, b ≠ C ∧ b ∉ frs X.stack ∧ ∀ x c, (closOf sc X.env).lookup x = some c → c ≠ b)
    (W : Nat → Nat → St → Hp → Prop) {Q : Hp → Prop} (turn : ∀ i m σ' H', W i m σ' H' → (J.stop i H' ∧ Q H') ∨ (J.go i H' ∧ ∃ N : St → Hp → Prop, (∀ σ2 H2, N σ2 H2 → ∃ m', m' < m ∧ W (i + 1) m' σ2 H2) ∧ ∀ x H2, J.yld i H' x H2 → g x σ' H2 fun σ3 H3 => tc σ3 H3 fun b H4 =>
      if b = true then tm D σ3 H4 (N σ3) else N σ3 H4))
    (hR : ∀ σ' H' s', Inv (compCx X sc own fr C s₀ H₀ fp) [] σ' H' s' → Q H' → R (.ok .next) s')
    {m0 : Nat} {σ0 : St} {H0 : Hp} (I0 : Inv (compCx X sc own fr C s₀ H₀ fp) [] σ0 H0 s) (st0 : tn 0 s.heap) (fr0 : ∀ b ∈ fp, H0 b = none) (w0 : W 0 m0 σ0 H0) :
    codeAny (model X.prog X.w) X.A (.compLoop e 0 (.ref it) (.ref D) (compEnvC sc (closOf sc X.env) C X.env)) R s := by
  have stat : ∀ {H' : Hp}, (∀ b ∈ fp, H' b = none) → ∀ b ∈ fp, FpOk (compCx X sc own fr C s₀ H₀ fp) [] H' b := fun hn b hb =>
    ⟨hn b hb, (hfp b hb).1, (hfp b hb).2.1, .inl hb, (hfp b hb).2.2, fun p hp => absurd (show p ∈ ([] : List (Addr × Obj)) from hp) (by simp)⟩
  refine codeAny_loop rfl (fun n s' => ∃ i σ' H', Inv (compCx X sc own fr C s₀ H₀ fp) [] σ' H' s' ∧ tn i s'.heap ∧ (∀ b ∈ fp, H' b = none) ∧ W i n σ' H') (fun n s hI => ?_) m0 ⟨0, σ0, H0, I0, st0, fr0, w0⟩
  rw [F.under, F.den]
  refine wpAny_noted ?_
  rw [F.turn]
  obtain ⟨i, σ3, H3, I3, st3, fr3, w3⟩ := hI
  have lift : ∀ {α : Type} {t : Sem α} {Q' : α → Shared → Prop} {E : Value → Shared → Prop} {s : Shared}, wpAny (model X.prog X.w) X.A t Q' (fun _ _ => False) s → wpAny (model X.prog X.w) X.A t Q' E s := fun h => wpAny_mono h (fun _ _ q => q) fun _ _ z => z.elim
  refine wpAny_bind (wpAny_standAt (wpAny_bind ?_))
  rcases turn i n σ3 H3 w3 with ⟨stop, qn⟩ | ⟨go, N, hN, step⟩
  · refine lift (thn (T.done (compCx X sc own fr C s₀ H₀ fp) rfl rfl rfl hc i [] s σ3 H3 (fun _ _ => False) I3 (stat fr3) st3 stop) fun r s4 ⟨hr, I4⟩ => ?_)
    subst hr
    exact wpAny_pure (hR σ3 H3 s4 I4 qn)
  · refine lift (thn (T.item (compCx X sc own fr C s₀ H₀ fp) rfl rfl rfl hc i [] s σ3 H3 (fun _ _ => False) I3 (stat fr3) st3 go) fun r s4 ⟨u, hr, h4⟩ => ?_)
    subst hr
    refine wpAny_bind (lift (thn h4 fun _ s5 ⟨x, H5, I5, r5, y5, st5, fr5⟩ => ?_))
    have I5' := I5.pinned (stat fr5) (T.obj _ _ st5)
    refine wpAny_bind (lift (thn (hg _ s5 σ3 H5 x u _ I5' r5 (step x H5 y5)) fun _ s6 ⟨σ6, H6, I6, q6⟩ => ?_))
    refine wpAny_bind (lift (thn (ht _ s6 σ6 H6 _ I6 q6) fun ok s7 ⟨H7, I7, q7⟩ => ?_))
    have again : ∀ {σ8 : St} {H8 : Hp} {s8 : Shared}, Inv (compCx X sc own fr C s₀ H₀ fp) ([] ++ pinsAt fp s5.heap) σ8 H8 s8 → (∃ m', m' < n ∧ W (i + 1) m' σ8 H8) → ∃ m, m < n ∧ ∃ i σ' H', Inv (compCx X sc own fr C s₀ H₀ fp) [] σ' H' s8 ∧ tn i s8.heap ∧ (∀ b ∈ fp, H' b = none) ∧ W i m σ' H' := fun {σ8 H8 s8} I8 ⟨m', hm', w8⟩ => by
      refine ⟨m', hm', i + 1, σ8, H8, I8.unpinned, T.keep _ _ _ st5 fun b hb o e => (I8.pin (b, o) (List.mem_append_right _ (List.mem_append_right _ (mem_pinsAt hb e)))).1, fun b hb => ?_, w8⟩
      obtain ⟨o, e, d⟩ := T.obj _ _ st5 b hb
      exact (I8.pin (b, o) (List.mem_append_right _ (List.mem_append_right _ (mem_pinsAt hb e)))).2.1
    cases ok with
    | false => exact wpAny_pure ⟨rfl, again I7 (hN _ _ q7)⟩
    | true =>
      refine wpAny_bind (lift (thn (hm _ s7 σ6 H7 D _ I7 q7) fun _ s8 ⟨H8, I8, q8⟩ => ?_))
      exact wpAny_pure ⟨rfl, again I8 (hN _ _ q8)⟩
end

/-- the accumulator made -/
def PNew (X : Cx) (newAcc : Sem Value) (acc : HO) : Prop :=
  ∀ (pins : List (Addr × Obj)) (s : Shared) (σ : St) (H : Hp) (E : Value → Shared → Prop) (Q : Value → Shared → Prop), Inv X pins σ H s →
    (∀ p s', H p = none → p = s.heap.objs.size → (∀ b o, s.heap.get? b = some o → s'.heap.get? b = some o) → s'.os = s.os → Inv X pins σ (upd H p acc) s' → Q (.ref p) s') → wpAny (model X.prog X.w) X.A newAcc Q E s
theorem pnew_list {X : Cx} : PNew X (newList []) (.lst []) := by
  intro pins s σ H E Q I h
  refine wpAny_newObj_type ?_
  exact h _ _ (I.hok.fresh (Nat.le_refl _)) rfl (fun b o e => Heap.get?_push_of_some _ e) rfl (I.lnew (its := []) (t' := s.toks) .nil (Nat.zero_le _))
section
variable {X : Cx} {sc : Scope} {own : List Str} {fr : List Nat} {e tg iter : Expr} {ifs : List Expr} {emit : Env → Addr → Sem Unit} {wi : TI} {g : TG} {tc : TT} {tm : TM} {acc : HO} {newAcc : Sem Value} {pos : Pos}

/-- a comprehension, whatever is done with its value -/
theorem comp_any (F : CompForm e tg iter ifs emit) (hc : X.calm = true) (S : CompScope X sc fr) (hi : PI X tg iter wi) (hnew : PNew X newAcc acc)
    (hg : ∀ C s₀ H₀ fp, PG (compCx X sc own fr C s₀ H₀ fp) tg g) (ht : ∀ C s₀ H₀ fp, PTs (compCx X sc own fr C s₀ H₀ fp) ifs tc) (hm : ∀ C s₀ H₀ fp, PM (compCx X sc own fr C s₀ H₀ fp) emit tm)
    (hs : ∀ x, foldedSetIterable iter X.env x = pure x) {use : Option (Value → Sem Unit)} {pins : List (Addr × Obj)} {s : Shared} {σ : St} {H : Hp} {Q : Addr → Hp → Prop} {Q' : Value → Shared → Prop} (I : Inv X pins σ H s)
    (h : tCompB acc wi own.length fr g tc tm σ H Q)
    (hq : ∀ (p C : Addr) (H' : Hp) (s' : Shared) (m : Str → Option Value), Inv X pins σ H' s' → Q p H' → s'.heap.Ns C m → H' C = none → C ≠ X.env.locals → X.s₀.heap.objs.size ≤ C → (∀ x c, X.env.cells.lookup x = some c → c ≠ C) → (∀ q ∈ X.pn ++ pins, q.1 ≠ C) →
      compPost (model X.prog X.w) X.A X.xe use Q' (.ref p) C (.ok .next) s') :
    wpAny (model X.prog X.w) X.A (comprehension e sc X.env pos newAcc false (eval iter X.env) use) Q' X.xe s := by
  obtain ⟨gs, hcl⟩ := F.cl
  refine wpAny_comprehension_free hcl hs (closureFor_of (S.cells I)) S.kind S.names (thn (hi pins s σ H _ I h) fun v s1 h1 => thn h1 fun itv s2 h2 => ?_)
  obtain ⟨it, fp, tn, J, H2, e2, I2, T, st2, f2, q2⟩ := h2
  subst e2
  refine hnew pins s2 σ H2 _ _ I2 fun p s3 np hp k3 os3 I3 => ?_
  obtain ⟨W, ⟨m0, w0⟩, turn⟩ := q2 p np
  refine wpAny_newFunctionEnv S.nocell (by intro x hx; simp at hx) (fun h₁ hns hsb => ?_) S.kind
  have hk : ∀ b o, s3.heap.get? b = some o → h₁.get? b = some o := fun b o eb => hsb.extBut b o (Nat.ne_of_lt (Heap.lt_size eb)) (Heap.get?_push_of_some _ eb)
  have ob2 : ∀ b ∈ fp, ∃ o, s2.heap.get? b = some o := fun b hb => let ⟨o, eo, _⟩ := T.obj _ _ st2 b hb; ⟨o, eo⟩
  have fpn : ∀ b ∈ fp, b ≠ p := fun b hb z => by
    obtain ⟨o, eo⟩ := ob2 b hb
    rw [z, hp] at eo
    exact absurd (Heap.lt_size eo) (Nat.lt_irrefl _)
  have f3 : ∀ b ∈ fp, FpOk X pins (upd H2 p acc) b := fun b hb => by
    obtain ⟨a1, a2⟩ := f2 b hb
    exact ⟨by rw [upd_ne (fpn b hb)]; exact a1, a2⟩
  have ob3 : ∀ b ∈ fp, ∃ o, s3.heap.get? b = some o := fun b hb => let ⟨o, eo⟩ := ob2 b hb; ⟨o, k3 b o eo⟩
  have I4 := inv_comp (own := own) (t := s3.toks + ([] : List (Str × Value)).length) S I3 f3 ob3 (h₁ := h₁) hns hk
  have st4 : tn 0 h₁ := T.keep _ _ _ st2 fun b hb o eo => hk b o (k3 b o eo)
  have hfp : ∀ b ∈ fp, b ≠ s3.heap.objs.size ∧ b ∉ frs X.stack ∧ ∀ x c, (closOf sc X.env).lookup x = some c → c ≠ b := fun b hb => by
    obtain ⟨_, f1, f2', _, f4, _⟩ := f3 b hb
    obtain ⟨o, eo⟩ := ob3 b hb
    refine ⟨Nat.ne_of_lt (Heap.lt_size eo), fun z => ?_, fun x c ec => f4 x c (S.look I3 ec)⟩
    rcases List.mem_cons.mp (I3.stkSub b z) with q | q
    · exact f1 q
    · exact f2' q
  have loop : codeAny (model X.prog X.w) X.A (.compLoop e 0 (.ref it) (.ref p) (compEnvC sc (closOf sc X.env) s3.heap.objs.size X.env)) (compPost (model X.prog X.w) X.A X.xe use Q' (.ref p) s3.heap.objs.size) { s3 with heap := h₁, toks := s3.toks + ([] : List (Str × Value)).length } := by
    refine comp_loop (s₀ := s3) (H₀ := upd H2 p acc) (own := own) (fr := fr) (Q := fun H' => Q p H') F hc (hg _ _ _ _) (ht _ _ _ _) (hm _ _ _ _) T hfp W turn (fun σ' H' s' J' qq => ?_) I4 st4 (fun b hb => (f3 b hb).1) w0
    obtain ⟨m, hn, _⟩ := J'.loc
    have un : Un (frs X.stack) fp H2 H' s2.heap s'.heap := (Un.laid (o := acc) k3 (by rw [hp]; exact Nat.le_refl _) np).trans J'.base
    have IX : Inv X pins σ H' s' := I2.call' (ch := fp) (J'.os.trans os3) un J'.hok J'.bare fun b hb => by
      obtain ⟨_, f1, _, f3', f4, f5⟩ := f2 b hb
      exact ⟨f3', f1, f4, f5⟩
    refine hq p s3.heap.objs.size H' s' m IX qq hn J'.free (Ne.symm (Nat.ne_of_lt I3.lt)) I3.sz (fun x c ec => ?_) fun q hq' => ?_
    · obtain ⟨v, o, eo, _⟩ := I3.cell x c ec
      exact Nat.ne_of_lt (Heap.lt_size eo)
    · exact Nat.ne_of_lt (Heap.lt_size (I3.pin q hq').1)
  exact F.start _ _ _ _ _ _ _ _ loop (T.self _ _ _ _ _ st4 loop)

theorem comp_value (F : CompForm e tg iter ifs emit) (hc : X.calm = true) (S : CompScope X sc fr) (hi : PI X tg iter wi) (hnew : PNew X newAcc acc)
    (hg : ∀ C s₀ H₀ fp, PG (compCx X sc own fr C s₀ H₀ fp) tg g) (ht : ∀ C s₀ H₀ fp, PTs (compCx X sc own fr C s₀ H₀ fp) ifs tc) (hm : ∀ C s₀ H₀ fp, PM (compCx X sc own fr C s₀ H₀ fp) emit tm)
    (hs : ∀ x, foldedSetIterable iter X.env x = pure x) {pins : List (Addr × Obj)} {s : Shared} {σ : St} {H : Hp} {Q : VK} (I : Inv X pins σ H s)
    (h : tCompB acc wi own.length fr g tc tm σ H fun p H' => Q (.ref p) H') :
    wpAny (model X.prog X.w) X.A (comprehension e sc X.env pos newAcc false (eval iter X.env) none) (EP X pins σ Q) X.xe s := by
  refine comp_any F hc S hi hnew hg ht hm hs I h fun p C H' s' m I' q hn h1 h2 h3 h4 h5 => ⟨m, hn, fun h' hb => ?_⟩
  exact ⟨.ref p, H', I'.turned (t' := s'.toks) (fun b o hne eo => hb.extBut b o hne eo) h1 h2 (.inr h3) h4 h5, rfl, q⟩
end
/-! ### list comprehensions -/
def emitL (elt : Expr) : Env → Addr → Sem Unit := fun env D => do let _ ← call (.builtin "list.append") [.ref D, ← eval elt env]
theorem form_list {elt tg iter : Expr} {ifs : List Expr} {sc : Scope} {pos : Pos} : CompForm (.ListComp elt [⟨tg, iter, ifs, 0⟩] sc pos) tg iter ifs (emitL elt) :=
  ⟨⟨_, rfl⟩, fun _ _ _ _ => rfl, fun _ _ _ _ _ => rfl, fun _ _ _ => rfl, fun _ _ _ _ _ _ _ _ h0 h => codeAny_compStart_list h0 h⟩
def mApp (te : TE) : TM := fun p σ H Q => te σ H fun y H1 => ∃ ys, H1 p = some (.lst ys) ∧ ys.length < sizeLine ∧ Q (upd H1 p (.lst (ys ++ [y])))
theorem pm_list {X : Cx} {elt : Expr} {te : TE} (h : PE X elt te) : PM X (emitL elt) (mApp te) := by
  intro pins s σ H D Q I hw
  unfold emitL
  refine wpAny_bind (thn (h pins s σ H _ I hw) fun u s1 ⟨y, H1, I1, r1, ys, e1, l1, q1⟩ => wpAny_bind ?_)
  obtain ⟨z, its, n, r, hl, e⟩ := I1.lstM e1
  refine call_meets F.slot_list_append ⟨_, e, rfl⟩ F.entry_list_append (F.args_list_append_2 _ _) (PySem.list_append D its.toArray n u (by rw [List.size_toArray]; omega)) ⟨e, ?_⟩
  refine wpAny_pure ⟨_, I1.lset (its' := its ++ [u]) e1 e (by simp) (r.append (.cons r1 .nil)) ?_, q1⟩
  rw [List.length_append, List.length_singleton]
  omega
/-- [elt for tg in iter if ..] -/
def tLC (wi : TI) (n : Nat) (fr : List Nat) (g : TG) (tc : TT) (te : TE) : TE := fun σ H Q => tCompB (.lst []) wi n fr g tc (mApp te) σ H fun p H' => Q (.ref p) H'
section
variable {X : Cx} {sc : Scope} {own : List Str} {fr : List Nat} {elt tg iter : Expr} {ifs : List Expr} {wi : TI} {g : TG} {tc : TT} {te : TE} {pos : Pos}
theorem pe_lc (hc : X.calm = true) (S : CompScope X sc fr) (hi : PI X tg iter wi)
    (hg : ∀ C s₀ H₀ fp, PG (compCx X sc own fr C s₀ H₀ fp) tg g) (ht : ∀ C s₀ H₀ fp, PTs (compCx X sc own fr C s₀ H₀ fp) ifs tc) (he : ∀ C s₀ H₀ fp, PE (compCx X sc own fr C s₀ H₀ fp) elt te)
    (hs : ∀ x, foldedSetIterable iter X.env x = pure x := by intro _; rfl) : PE X (.ListComp elt [⟨tg, iter, ifs, 0⟩] sc pos) (tLC wi own.length fr g tc te) := by
  intro pins s σ H Q I h
  rw [eval_ListComp]
  exact comp_value form_list hc S hi pnew_list hg ht (fun _ _ _ _ => pm_list (he _ _ _ _)) hs I h
end

/-! ### dict comprehensions -/
section
variable {X : Cx} {sc : Scope} {own : List Str} {fr : List Nat} {kx vx tg iter : Expr} {ifs : List Expr} {wi : TI} {g : TG} {tc : TT} {tk tv : TE} {pos : Pos}
end

/-! ### forms one uses: by an invariant over the turns -/
/-- over a list -/
theorem comp_list {K : PySem.W.Frag} {a : Addr} {xs : List V} {g : TG} {tc : TT} {tm : TM} {σ : St} {H : Hp} {p : Addr} {Q : Hp → Prop} (Pv : Nat → St → Hp → Prop) (h0 : Pv 0 σ H)
    (hl : ∀ i σ H, i ≤ xs.length → Pv i σ H → SqL K H a xs)
    (hs : ∀ i x σ H, xs[i]? = some x → Pv i σ H → g x σ H fun σ3 H3 => tc σ3 H3 fun b H4 => if b = true then tm p σ3 H4 (Pv (i + 1) σ3) else Pv (i + 1) σ3 H4) (hd : ∀ σ H, Pv xs.length σ H → Q H) :
    ∃ W : Nat → Nat → St → Hp → Prop, (∃ m, W 0 m σ H) ∧
    ∀ i m σ' H', W i m σ' H' → ((Itl K a).stop i H' ∧ Q H') ∨ ((Itl K a).go i H' ∧ ∃ N : St → Hp → Prop, (∀ σ2 H2, N σ2 H2 → ∃ m', m' < m ∧ W (i + 1) m' σ2 H2) ∧ ∀ x H2, (Itl K a).yld i H' x H2 → g x σ' H2 fun σ3 H3 => tc σ3 H3 fun b H4 =>
      if b = true then tm p σ3 H4 (N σ3) else N σ3 H4) := by
  refine ⟨fun i m σ H => m = xs.length - i ∧ i ≤ xs.length ∧ Pv i σ H, ⟨xs.length, by simp, Nat.zero_le _, h0⟩, ?_⟩
  rintro i m σ H ⟨rfl, hi, pv⟩
  have q := hl i σ H hi pv
  by_cases hlt : i < xs.length
  · refine .inr ⟨⟨xs, xs[i], q, by simp [hlt]⟩, Pv (i + 1), fun σ' H' p' => ⟨xs.length - (i + 1), by omega, rfl, hlt, p'⟩, fun x H' y => ?_⟩
    obtain ⟨e, y⟩ := y
    subst e
    exact hs i x σ _ (y xs q) pv
  · have e : i = xs.length := by omega
    subst e
    exact .inl ⟨⟨xs, q, Nat.le_refl _⟩, hd σ H pv⟩
theorem comp_range {lo : Int} {n : Nat} {g : TG} {tc : TT} {tm : TM} {σ : St} {H : Hp} {p : Addr} {Q : Hp → Prop} (Pv : Nat → St → Hp → Prop) (h0 : Pv 0 σ H)
    (hs : ∀ i σ H, i < n → Pv i σ H → g (.int (lo + i)) σ H fun σ3 H3 => tc σ3 H3 fun b H4 => if b = true then tm p σ3 H4 (Pv (i + 1) σ3) else Pv (i + 1) σ3 H4) (hd : ∀ σ H, Pv n σ H → Q H) :
    ∃ W : Nat → Nat → St → Hp → Prop, (∃ m, W 0 m σ H) ∧
    ∀ i m σ' H', W i m σ' H' → ((Itr lo n).stop i H' ∧ Q H') ∨ ((Itr lo n).go i H' ∧ ∃ N : St → Hp → Prop, (∀ σ2 H2, N σ2 H2 → ∃ m', m' < m ∧ W (i + 1) m' σ2 H2) ∧ ∀ x H2, (Itr lo n).yld i H' x H2 → g x σ' H2 fun σ3 H3 => tc σ3 H3 fun b H4 =>
      if b = true then tm p σ3 H4 (N σ3) else N σ3 H4) := by
  refine ⟨fun i m σ H => m = n - i ∧ i ≤ n ∧ Pv i σ H, ⟨n, by simp, Nat.zero_le _, h0⟩, ?_⟩
  rintro i m σ H ⟨rfl, hi, pv⟩
  by_cases hlt : i < n
  · refine .inr ⟨hlt, Pv (i + 1), fun σ' H' p' => ⟨n - (i + 1), by omega, rfl, hlt, p'⟩, fun x H' y => ?_⟩
    obtain ⟨e, y⟩ := y
    subst e y
    exact hs i σ _ hlt pv
  · have e : i = n := by omega
    subst e
    exact .inl ⟨Nat.le_refl _, hd σ H pv⟩
end L2

end
section
set_option Elab.async false
set_option linter.all false
set_option maxRecDepth 100000
set_option maxHeartbeats 4000000
namespace L2
open PySem PySem.Spec PyProof.Rows

/-! ### data, without addresses -/
inductive DD where
  | non | bl (b : Bool) | int (i : Int) | str (x : Str) | lst (ds : List DD) | tup (ds : List DD)
mutual
def dep : DD → Nat
  | .lst ds => depL ds + 1
  | .tup ds => depL ds + 1
  | _ => 0
def depL : List DD → Nat
  | [] => 0
  | d :: ds => max (dep d) (depL ds)
end
mutual
def eqD : DD → DD → Bool
  | .non, .non => true
  | .bl a, .bl b => a == b
  | .bl a, .int b => (if a then 1 else 0) == b
  | .int a, .bl b => a == (if b then 1 else 0)
  | .int a, .int b => a == b
  | .str a, .str b => a == b
  | .lst as, .lst bs => eqDs as bs
  | .tup as, .tup bs => eqDs as bs
  | _, _ => false
def eqDs : List DD → List DD → Bool
  | [], [] => true
  | a :: as, b :: bs => eqD a b && eqDs as bs
  | _, _ => false
end
mutual
def Den (H : Hp) (v : V) : DD → Prop
  | .non => v = .non
  | .bl b => v = .bl b
  | .int i => v = .int i
  | .str x => v = .str x
  | .lst ds => ∃ a xs, v = .ref a ∧ H a = some (.lst xs) ∧ Dens H xs ds
  | .tup ds => ∃ a xs, v = .ref a ∧ H a = some (.tup xs) ∧ Dens H xs ds
def Dens (H : Hp) (xs : List V) : List DD → Prop
  | [] => xs = []
  | d :: ds => ∃ x r, xs = x :: r ∧ Den H x d ∧ Dens H r ds
end
theorem depL_mem : ∀ {ds : List DD} {d : DD}, d ∈ ds → dep d ≤ depL ds
  | d :: ds, e, h => by
    rw [depL]
    rcases List.mem_cons.mp h with rfl | h
    · omega
    · have := depL_mem h
      omega
theorem depL_le {n : Nat} : ∀ {ds : List DD}, (∀ d ∈ ds, dep d ≤ n) → depL ds ≤ n
  | [], _ => by simp [depL]
  | d :: ds, h => by
    rw [depL]
    have h1 := h d List.mem_cons_self
    have h2 := depL_le (ds := ds) fun e he => h e (List.mem_cons_of_mem _ he)
    omega
theorem Dens.length : ∀ {H : Hp} {xs : List V} {ds : List DD}, Dens H xs ds → xs.length = ds.length
  | _, _, [], h => by rw [Dens] at h; subst h; rfl
  | _, _, d :: ds, h => by
    rw [Dens] at h
    obtain ⟨x, r, rfl, _, h⟩ := h
    simp [Dens.length h]
theorem Dens.get {H : Hp} : ∀ {xs : List V} {ds : List DD} {i : Nat} {d : DD}, Dens H xs ds → ds[i]? = some d → ∃ x, xs[i]? = some x ∧ Den H x d
  | _, [], _, _, _, e => by simp at e
  | _, d :: ds, i, c, h, e => by
    rw [Dens] at h
    obtain ⟨x, r, rfl, h1, h⟩ := h
    cases i with
    | zero => simp at e; subst e; exact ⟨x, rfl, h1⟩
    | succ i =>
      obtain ⟨y, e1, e2⟩ := Dens.get (i := i) h (by simpa using e)
      exact ⟨y, by simpa using e1, e2⟩
theorem Dens.get' {H : Hp} {xs : List V} {ds : List DD} {i : Nat} {x : V} (h : Dens H xs ds) (e : xs[i]? = some x) : ∃ d, ds[i]? = some d ∧ Den H x d := by
  have hi : i < ds.length := by rw [← h.length]; exact (List.getElem?_eq_some_iff.mp e).1
  obtain ⟨y, e1, e2⟩ := h.get (List.getElem?_eq_getElem hi)
  rw [e] at e1
  cases e1
  exact ⟨_, List.getElem?_eq_getElem hi, e2⟩
/-- a heap that has at least these things -/
def Sub (G H : Hp) : Prop := ∀ a o, G a = some o → H a = some o
theorem Sub.refl {H : Hp} : Sub H H := fun _ _ h => h
theorem Sub.trans {A B C : Hp} (h : Sub A B) (h' : Sub B C) : Sub A C := fun a o e => h' a o (h a o e)
theorem Sub.upd {G H : Hp} {p : Addr} {o : HO} (h : Sub G H) (n : G p = none) : Sub G (upd H p o) := fun a u e => by
  rw [upd_ne (ne_of_none e n)]
  exact h a u e
theorem Sub.new {H : Hp} {p : Addr} {o : HO} (n : H p = none) : Sub H (L2.upd H p o) := Sub.upd Sub.refl n
theorem Sub.free {G H : Hp} {p : Addr} (h : Sub G H) (n : H p = none) : G p = none := by
  cases e : G p with
  | none => rfl
  | some o => rw [h p o e] at n; cases n
mutual
theorem Den.inj {H : Hp} : ∀ {v : V} (d e : DD), Den H v d → Den H v e → d = e
  | v, .non, e, h, h' => by
    rw [Den] at h
    subst h
    cases e <;> rw [Den] at h' <;> first | rfl | (cases h'; done) | (obtain ⟨_, _, z, _⟩ := h'; cases z)
  | v, .bl b, e, h, h' => by
    rw [Den] at h
    subst h
    cases e <;> rw [Den] at h' <;> first | (cases h'; rfl) | (cases h'; done) | (obtain ⟨_, _, z, _⟩ := h'; cases z)
  | v, .int b, e, h, h' => by
    rw [Den] at h
    subst h
    cases e <;> rw [Den] at h' <;> first | (cases h'; rfl) | (cases h'; done) | (obtain ⟨_, _, z, _⟩ := h'; cases z)
  | v, .str b, e, h, h' => by
    rw [Den] at h
    subst h
    cases e <;> rw [Den] at h' <;> first | (cases h'; rfl) | (cases h'; done) | (obtain ⟨_, _, z, _⟩ := h'; cases z)
  | v, .lst ds, e, h, h' => by
    rw [Den] at h
    obtain ⟨a, xs, rfl, h1, h2⟩ := h
    cases e <;> rw [Den] at h' <;> first | (cases h'; done) | (obtain ⟨b, ys, z, h3, h4⟩ := h'; cases z; rw [h1] at h3; cases h3; done) | (obtain ⟨b, ys, z, h3, h4⟩ := h'; cases z; rw [h1] at h3; cases h3; rw [Dens.inj ds _ h2 h4])
  | v, .tup ds, e, h, h' => by
    rw [Den] at h
    obtain ⟨a, xs, rfl, h1, h2⟩ := h
    cases e <;> rw [Den] at h' <;> first | (cases h'; done) | (obtain ⟨b, ys, z, h3, h4⟩ := h'; cases z; rw [h1] at h3; cases h3; done) | (obtain ⟨b, ys, z, h3, h4⟩ := h'; cases z; rw [h1] at h3; cases h3; rw [Dens.inj ds _ h2 h4])
theorem Dens.inj {H : Hp} : ∀ {xs : List V} (ds es : List DD), Dens H xs ds → Dens H xs es → ds = es
  | _, [], es, h, h' => by
    rw [Dens] at h
    subst h
    cases es with
    | nil => rfl
    | cons e es => obtain ⟨_, _, z, _⟩ := h'; cases z
  | _, d :: ds, es, h, h' => by
    rw [Dens] at h
    obtain ⟨x, r, rfl, h1, h2⟩ := h
    cases es with
    | nil => cases h'
    | cons e es =>
      obtain ⟨y, q, z, h3, h4⟩ := h'
      cases z
      rw [Den.inj d e h1 h3, Dens.inj ds es h2 h4]
end
mutual
theorem eqD_refl : ∀ d : DD, eqD d d = true
  | .non => by simp [eqD]
  | .bl b => by simp [eqD]
  | .int b => by simp [eqD]
  | .str b => by simp [eqD]
  | .lst ds => by rw [eqD]; exact eqDs_refl ds
  | .tup ds => by rw [eqD]; exact eqDs_refl ds
theorem eqDs_refl : ∀ ds : List DD, eqDs ds ds = true
  | [] => by simp [eqDs]
  | d :: ds => by rw [eqDs, eqD_refl d, eqDs_refl ds]; rfl
end
theorem eqDs_all : ∀ as bs : List DD, eqDs as bs = ((List.range (min as.length bs.length)).all (fun j => eqD (as.getD j .non) (bs.getD j .non)) && as.length == bs.length)
  | [], [] => by simp [eqDs]
  | [], b :: bs => by simp [eqDs]
  | a :: as, [] => by simp [eqDs]
  | a :: as, b :: bs => by
    rw [eqDs, eqDs_all as bs]
    rw [show min (a :: as).length (b :: bs).length = min as.length bs.length + 1 by simp only [List.length_cons]; omega]
    rw [List.range_succ_eq_map, List.all_cons, List.all_map]
    simp only [List.getD_cons_zero, List.length_cons, Bool.and_assoc]
    congr 1
    congr 1
    have : ∀ (m n : Nat), (m + 1 == n + 1) = (m == n) := fun m n => by
      by_cases h : m = n
      · subst h; simp
      · rw [beq_eq_false_iff_ne.mpr h, beq_eq_false_iff_ne.mpr (by omega)]
    rw [this]

section
variable {X : Cx} {pins : List (Addr × Obj)} {σ : St} {H : Hp} {s : Shared}
open PySem.SeqAt
def EqAll (A : Around) (s : Shared) (u v : Value) (b : Bool) : Prop := EqAt A s u v b ∧ RcAt A s u v b ∧ RcNeAt A s u v (!b)
theorem vals_getD {H : Hp} {xs : List V} {ds : List DD} {us : List Value} (h : Dens H xs ds) (r : Vals xs us) {j : Nat} (hj : j < us.toArray.size) : ∃ x d, Den H x d ∧ RelV x (us.toArray[j]) ∧ ds.getD j .non = d ∧ d ∈ ds := by
  rw [List.size_toArray] at hj
  have hj' : j < xs.length := by rw [r.length]; exact hj
  obtain ⟨u, e1, e2⟩ := r.get (List.getElem?_eq_getElem hj')
  obtain ⟨d, e3, e4⟩ := h.get' (List.getElem?_eq_getElem hj')
  refine ⟨_, d, e4, ?_, ?_, List.mem_of_getElem? e3⟩
  · rw [List.getElem?_eq_getElem hj] at e1
    cases e1
    simpa using e2
  · rw [List.getD_eq_getElem?_getD, e3]; rfl
theorem eq_all (I : Inv X pins σ H s) : ∀ (n : Nat) (d e : DD) (A : Around) (x y : V) (u v : Value), dep d ≤ n → Den H x d → Den H y e → RelV x u → RelV y v → A.units + n < cLine → EqAll A s u v (eqD d e) := by
  intro n
  induction n with
  | zero =>
    intro d e A x y u v hd hx hy rx ry hu
    cases d with
    | lst ds => simp [dep] at hd
    | tup ds => simp [dep] at hd
    | non =>
      rw [Den] at hx; subst hx; cases rx
      cases e with
      | non => rw [Den] at hy; subst hy; cases ry; exact ⟨EqAt.same _, RcAt.none_none, RcNeAt.none_none⟩
      | bl b => rw [Den] at hy; subst hy; cases ry; exact ⟨EqAt.none_bool b, RcAt.none_bool b, RcNeAt.none_bool b⟩
      | int b => rw [Den] at hy; subst hy; obtain ⟨t, rfl⟩ := ry; exact ⟨EqAt.none_int b t, RcAt.none_int b t, RcNeAt.none_int b t⟩
      | str b => rw [Den] at hy; subst hy; obtain ⟨t, rfl⟩ := ry; exact ⟨EqAt.none_str b t, RcAt.none_str b t, RcNeAt.none_str b t⟩
      | lst es => rw [Den] at hy; obtain ⟨a, xs, rfl, h1, h2⟩ := hy; cases ry; obtain ⟨its, _, p, _⟩ := I.list (SqL.of h1); exact ⟨EqAt.none_list p.isList hu, RcAt.none_list p.isList hu, RcNeAt.none_list p.isList hu⟩
      | tup es => rw [Den] at hy; obtain ⟨a, xs, rfl, h1, h2⟩ := hy; cases ry; obtain ⟨its, _, p, _⟩ := I.tuple (SqT.of h1); exact ⟨EqAt.none_tuple p hu, RcAt.none_tuple p hu, RcNeAt.none_tuple p hu⟩
    | bl a =>
      rw [Den] at hx; subst hx; cases rx
      cases e with
      | non => rw [Den] at hy; subst hy; cases ry; exact ⟨EqAt.bool_none a, RcAt.bool_none a, RcNeAt.bool_none a⟩
      | bl b => rw [Den] at hy; subst hy; cases ry; exact ⟨EqAt.bool_bool a b, RcAt.bool_bool a b, RcNeAt.bool_bool a b⟩
      | int b => rw [Den] at hy; subst hy; obtain ⟨t, rfl⟩ := ry; exact ⟨EqAt.bool_int a b t, RcAt.bool_int a b t, RcNeAt.bool_int a b t⟩
      | str b => rw [Den] at hy; subst hy; obtain ⟨t, rfl⟩ := ry; exact ⟨EqAt.bool_str a b t, RcAt.bool_str a b t, RcNeAt.bool_str a b t⟩
      | lst es => rw [Den] at hy; obtain ⟨b, xs, rfl, h1, h2⟩ := hy; cases ry; obtain ⟨its, _, p, _⟩ := I.list (SqL.of h1); exact ⟨EqAt.bool_list a p.isList hu, RcAt.bool_list a p.isList hu, RcNeAt.bool_list a p.isList hu⟩
      | tup es => rw [Den] at hy; obtain ⟨b, xs, rfl, h1, h2⟩ := hy; cases ry; obtain ⟨its, _, p, _⟩ := I.tuple (SqT.of h1); exact ⟨EqAt.bool_tuple a p hu, RcAt.bool_tuple a p hu, RcNeAt.bool_tuple a p hu⟩
    | int a =>
      rw [Den] at hx; subst hx; obtain ⟨t', rfl⟩ := rx
      cases e with
      | non => rw [Den] at hy; subst hy; cases ry; exact ⟨EqAt.int_none a t', RcAt.int_none a t', RcNeAt.int_none a t'⟩
      | bl b => rw [Den] at hy; subst hy; cases ry; exact ⟨EqAt.int_bool a t' b, RcAt.int_bool a t' b, RcNeAt.int_bool a t' b⟩
      | int b => rw [Den] at hy; subst hy; obtain ⟨t, rfl⟩ := ry; exact ⟨EqAt.int_int a t' b t, RcAt.int_int a t' b t, RcNeAt.int_int a t' b t⟩
      | str b => rw [Den] at hy; subst hy; obtain ⟨t, rfl⟩ := ry; exact ⟨EqAt.int_str a t' b t, RcAt.int_str a t' b t, RcNeAt.int_str a t' b t⟩
      | lst es => rw [Den] at hy; obtain ⟨b, xs, rfl, h1, h2⟩ := hy; cases ry; obtain ⟨its, _, p, _⟩ := I.list (SqL.of h1); exact ⟨EqAt.int_list a t' p.isList hu, RcAt.int_list a t' p.isList hu, RcNeAt.int_list a t' p.isList hu⟩
      | tup es => rw [Den] at hy; obtain ⟨b, xs, rfl, h1, h2⟩ := hy; cases ry; obtain ⟨its, _, p, _⟩ := I.tuple (SqT.of h1); exact ⟨EqAt.int_tuple a t' p hu, RcAt.int_tuple a t' p hu, RcNeAt.int_tuple a t' p hu⟩
    | str a =>
      rw [Den] at hx; subst hx; obtain ⟨t', rfl⟩ := rx
      cases e with
      | non => rw [Den] at hy; subst hy; cases ry; exact ⟨EqAt.str_none a t', RcAt.str_none a t', RcNeAt.str_none a t'⟩
      | bl b => rw [Den] at hy; subst hy; cases ry; exact ⟨EqAt.str_bool a t' b, RcAt.str_bool a t' b, RcNeAt.str_bool a t' b⟩
      | int b => rw [Den] at hy; subst hy; obtain ⟨t, rfl⟩ := ry; exact ⟨EqAt.str_int a t' b t, RcAt.str_int a t' b t, RcNeAt.str_int a t' b t⟩
      | str b => rw [Den] at hy; subst hy; obtain ⟨t, rfl⟩ := ry; exact ⟨EqAt.str_str a t' b t, RcAt.str_str a t' b t, RcNeAt.str_str a t' b t⟩
      | lst es => rw [Den] at hy; obtain ⟨b, xs, rfl, h1, h2⟩ := hy; cases ry; obtain ⟨its, _, p, _⟩ := I.list (SqL.of h1); exact ⟨EqAt.str_list a t' p.isList hu, RcAt.str_list a t' p.isList hu, RcNeAt.str_list a t' p.isList hu⟩
      | tup es => rw [Den] at hy; obtain ⟨b, xs, rfl, h1, h2⟩ := hy; cases ry; obtain ⟨its, _, p, _⟩ := I.tuple (SqT.of h1); exact ⟨EqAt.str_tuple a t' p hu, RcAt.str_tuple a t' p hu, RcNeAt.str_tuple a t' p hu⟩
  | succ n ih =>
    intro d e A x y u v hd hx hy rx ry hu
    have hu0 : A.units < cLine := by omega
    cases d with
    | lst ds =>
      have hdl : ∀ c ∈ ds, dep c ≤ n := fun c hc => by have := depL_mem hc; rw [dep] at hd; omega
      have hxd := hx
      rw [Den] at hx; obtain ⟨a, xs, rfl, h1, h2⟩ := hx; cases rx
      obtain ⟨its, r, p, _⟩ := I.list (SqL.of h1)
      cases e with
      | non => rw [Den] at hy; subst hy; cases ry; exact ⟨EqAt.list_none p.isList hu0, RcAt.list_none p.isList hu0, RcNeAt.list_none p.isList hu0⟩
      | bl b => rw [Den] at hy; subst hy; cases ry; exact ⟨EqAt.list_bool b p.isList hu0, RcAt.list_bool b p.isList hu0, RcNeAt.list_bool b p.isList hu0⟩
      | int b => rw [Den] at hy; subst hy; obtain ⟨t, rfl⟩ := ry; exact ⟨EqAt.list_int b t p.isList hu0, RcAt.list_int b t p.isList hu0, RcNeAt.list_int b t p.isList hu0⟩
      | str b => rw [Den] at hy; subst hy; obtain ⟨t, rfl⟩ := ry; exact ⟨EqAt.list_str b t p.isList hu0, RcAt.list_str b t p.isList hu0, RcNeAt.list_str b t p.isList hu0⟩
      | tup es => rw [Den] at hy; obtain ⟨b, ys, rfl, h3, h4⟩ := hy; cases ry; obtain ⟨its', _, p', _⟩ := I.tuple (SqT.of h3); exact ⟨EqAt.list_tuple p.isList p' hu0, RcAt.list_tuple p.isList p' hu0, RcNeAt.list_tuple p.isList p' hu0⟩
      | lst es =>
        have hyd := hy
        rw [Den] at hy; obtain ⟨b, ys, rfl, h3, h4⟩ := hy; cases ry
        obtain ⟨its', r', p', _⟩ := I.list (SqL.of h3)
        have l1 := h2.length; have l2 := h4.length; have l3 := r.length; have l4 := r'.length
        have ch : ∀ j (g1 : j < its.toArray.size) (g2 : j < its'.toArray.size), EqAt A.in1 s its.toArray[j] its'.toArray[j] (eqD (ds.getD j .non) (es.getD j .non)) := fun j g1 g2 => by
          obtain ⟨x1, d1, a1, a2, a3, a4⟩ := vals_getD h2 r g1
          obtain ⟨x2, d2, b1, b2, b3, b4⟩ := vals_getD h4 r' g2
          rw [a3, b3]
          exact (ih d1 d2 A.in1 x1 x2 _ _ (hdl d1 a4) a1 b1 a2 b2 (by show A.units + 1 + n < _; omega)).1
        have main : RcAt A s (.ref a) (.ref b) (eqD (.lst ds) (.lst es)) ∧ RcNeAt A s (.ref a) (.ref b) (!eqD (.lst ds) (.lst es)) := by
          rw [eqD, eqDs_all]
          by_cases hl : ds.length = es.length
          · have hs : its.toArray.size = its'.toArray.size := by simp; omega
            have e1 : min ds.length es.length = its.toArray.size := by simp; omega
            have e2 : (ds.length == es.length) = true := by simpa using hl
            rw [e1, e2, Bool.and_true]
            exact ⟨RcAt.lists p.isList p'.isList hs hu0 ch, RcNeAt.lists p.isList p'.isList hs hu0 ch⟩
          · have hs : (its.toArray.size != its'.toArray.size) = true := by simp; omega
            have e2 : (ds.length == es.length) = false := by simpa using hl
            rw [e2, Bool.and_false]
            exact ⟨RcAt.lists_lengths p.isList p'.isList hs hu0, RcNeAt.lists_lengths p.isList p'.isList hs hu0⟩
        refine ⟨?_, main⟩
        by_cases hab : a = b
        · subst hab
          have := Den.inj _ _ hxd hyd
          rw [this, eqD_refl]
          exact EqAt.same _
        · exact EqAt.of_refs hab main.1
    | tup ds =>
      have hdl : ∀ c ∈ ds, dep c ≤ n := fun c hc => by have := depL_mem hc; rw [dep] at hd; omega
      have hxd := hx
      rw [Den] at hx; obtain ⟨a, xs, rfl, h1, h2⟩ := hx; cases rx
      obtain ⟨its, r, p, _⟩ := I.tuple (SqT.of h1)
      cases e with
      | non => rw [Den] at hy; subst hy; cases ry; exact ⟨EqAt.tuple_none p hu0, RcAt.tuple_none p hu0, RcNeAt.tuple_none p hu0⟩
      | bl b => rw [Den] at hy; subst hy; cases ry; exact ⟨EqAt.tuple_bool b p hu0, RcAt.tuple_bool b p hu0, RcNeAt.tuple_bool b p hu0⟩
      | int b => rw [Den] at hy; subst hy; obtain ⟨t, rfl⟩ := ry; exact ⟨EqAt.tuple_int b t p hu0, RcAt.tuple_int b t p hu0, RcNeAt.tuple_int b t p hu0⟩
      | str b => rw [Den] at hy; subst hy; obtain ⟨t, rfl⟩ := ry; exact ⟨EqAt.tuple_str b t p hu0, RcAt.tuple_str b t p hu0, RcNeAt.tuple_str b t p hu0⟩
      | lst es => rw [Den] at hy; obtain ⟨b, ys, rfl, h3, h4⟩ := hy; cases ry; obtain ⟨its', _, p', _⟩ := I.list (SqL.of h3); exact ⟨EqAt.tuple_list p p'.isList hu0, RcAt.tuple_list p p'.isList hu0, RcNeAt.tuple_list p p'.isList hu0⟩
      | tup es =>
        have hyd := hy
        rw [Den] at hy; obtain ⟨b, ys, rfl, h3, h4⟩ := hy; cases ry
        obtain ⟨its', r', p', _⟩ := I.tuple (SqT.of h3)
        have l1 := h2.length; have l2 := h4.length; have l3 := r.length; have l4 := r'.length
        have ch : ∀ j (g1 : j < its.toArray.size) (g2 : j < its'.toArray.size), EqAt A.in1 s its.toArray[j] its'.toArray[j] (eqD (ds.getD j .non) (es.getD j .non)) := fun j g1 g2 => by
          obtain ⟨x1, d1, a1, a2, a3, a4⟩ := vals_getD h2 r g1
          obtain ⟨x2, d2, b1, b2, b3, b4⟩ := vals_getD h4 r' g2
          rw [a3, b3]
          exact (ih d1 d2 A.in1 x1 x2 _ _ (hdl d1 a4) a1 b1 a2 b2 (by show A.units + 1 + n < _; omega)).1
        have main : RcAt A s (.ref a) (.ref b) (eqD (.tup ds) (.tup es)) ∧ RcNeAt A s (.ref a) (.ref b) (!eqD (.tup ds) (.tup es)) := by
          rw [eqD, eqDs_all]
          have e1 : min ds.length es.length = min its.toArray.size its'.toArray.size := by simp; omega
          have e2 : (ds.length == es.length) = (its.toArray.size == its'.toArray.size) := by
            rw [List.size_toArray, List.size_toArray, ← l1, ← l2, l3, l4]
          rw [e1, e2]
          exact ⟨RcAt.tuples p p' hu0 ch, RcNeAt.tuples p p' hu0 ch⟩
        refine ⟨?_, main⟩
        by_cases hab : a = b
        · subst hab
          have := Den.inj _ _ hxd hyd
          rw [this, eqD_refl]
          exact EqAt.same _
        · exact EqAt.of_refs hab main.1
    | non => exact ih .non e A x y u v (by simp [dep]) hx hy rx ry (by omega)
    | bl b => exact ih (.bl b) e A x y u v (by simp [dep]) hx hy rx ry (by omega)
    | int b => exact ih (.int b) e A x y u v (by simp [dep]) hx hy rx ry (by omega)
    | str b => exact ih (.str b) e A x y u v (by simp [dep]) hx hy rx ry (by omega)
/-- a == b, a != b of data -/
def rEqD : R2 := fun x y H Q => ∃ d e, Den H x d ∧ Den H y e ∧ dep d ≤ 60 ∧ Q (.bl (eqD d e)) H
def rNeD : R2 := fun x y H Q => ∃ d e, Den H x d ∧ Den H y e ∧ dep d ≤ 60 ∧ Q (.bl (!eqD d e)) H
theorem op_eqD {k : Nat} (hr : Room k X.A) : OpR X (compareOp .Eq) rEqD := by
  intro pins s σ H x y v u Q I rx ry h
  obtain ⟨d, e, h1, h2, h3, q⟩ := h
  have hu := hr.units
  exact (eq_all I 60 d e X.A x y _ _ h3 h1 h2 rx ry (by omega)).2.1 _ _ _ _ ⟨.bl _, H, I, rfl, q⟩
theorem op_neD {k : Nat} (hr : Room k X.A) : OpR X (compareOp .NotEq) rNeD := by
  intro pins s σ H x y v u Q I rx ry h
  obtain ⟨d, e, h1, h2, h3, q⟩ := h
  have hu := hr.units
  exact (eq_all I 60 d e X.A x y _ _ h3 h1 h2 rx ry (by omega)).2.2 _ _ _ _ ⟨.bl _, H, I, rfl, q⟩
end
end L2

end
section
set_option Elab.async false
set_option linter.all false
set_option maxRecDepth 100000
set_option maxHeartbeats 4000000
namespace L2
open PySem PySem.Spec PyProof.Rows

/-! ### an exception of an own class: isinstance -/
/-- what the text's exception class has -/
structure ExC (K : PySem.W.Frag) (C : Addr) : Prop where
  ga : PySem.W.findIn K (.ref C) "__getattribute__" = some (some (.builtin "BaseException.__getattribute__"))
  na : PySem.W.findIn K (.ref C) "__getattr__" = some none
  cl : PySem.W.findIn K (.ref C) "__class__" = some (some (.builtin "object.__class__"))
  gt : PySem.W.specialIn K (.builtin "object.__class__") "__get__" = some (some (.builtin "getset_descriptor.__get__"))
  tk : PySem.W.takesIn K (.builtin "object.__class__") = some true
  mo : PySem.W.mroIn K C (.type "object") = some true
  mb : PySem.W.mroIn K C (.type "BaseException") = some true
  ci : (PySem.W.clsIn K C).isSome = true
def IsExc (x C : Addr) (h : Heap) : Prop := ∃ o, h.get? x = some o ∧ o.cls = .ref C
theorem IsExc.type {x C : Addr} {h : Heap} {M : Model} (e : IsExc x C h) : PySem.W.Looks M h (typeOf (.ref x)) (.ref C) := by
  obtain ⟨o, h1, h2⟩ := e
  exact h2 ▸ (PySem.W.Looks.ld h1).andThen .now
section
variable {prog : Program} {w : World} {A : Around} {E : Value → Shared → Prop} {s : Shared} {K : PySem.W.Frag} {x C : Addr}
open PySem.W PySem.Builtin PySem.Builtin.ObjectAttr PySem.Builtin.Getset_descriptor
theorem exc_check {nameV : Value} {Q : Unit → Shared → Prop} {M : Model} (T : ExC K C) (X : K.In s.heap) (I : IsExc x C s.heap) (hq : Q () s) : wpAny M A (checkBuiltinCall "BaseException.__getattribute__" ⟨[.ref x, nameV], []⟩) Q E s := by
  have hk : builtinKind "BaseException.__getattribute__" = some .slot := by decide +kernel
  have hsplit : splitId "BaseException.__getattribute__" = some ("BaseException", "__getattribute__") := by decide +kernel
  have ha := PySem.F.args_bexc_ga (.ref x) nameV
  obtain ⟨hh, g, d, t, os⟩ := s
  have L0 := I.type (M := M)
  have L1 := looks_mroIn (M := M) X T.mb
  simp only [checkBuiltinCall, hk, hsplit]
  refine wpAny_bind ?_
  unfold isInstance
  refine wpAny_bind (L0.at (L1.at ?_))
  repeat (first | wp_step)
  exact hq
theorem exc_get {R : Result → Shared → Prop} {tp : Value} (X : K.In s.heap) (I : IsExc x C s.heap) (hm : mroIn K C (.type "object") = some true)
    (h : R (.ok (.ret (.ref C))) s) : codeAny (model prog w) A (.call (.builtin "getset_descriptor.__get__") ⟨[.builtin "object.__class__", .ref x, tp], []⟩) R s := by
  obtain ⟨hh, g, dr, t, os⟩ := s
  have L0 := I.type (M := model prog w)
  have L1 := looks_mroIn (M := model prog w) X hm
  refine codeAny_call_builtin KF.slot_gs.plain KF.entry_gs (KF.slot_gs.check _ _ _ _ _ _ _ _ KF.type_class (KF.args_gs _ _ _) ?_)
  unfold Builtin.«getset_descriptor.__get__» descrGet
  rw [dga_obj]
  refine wpAny_bind (wpAny_pure ?_)
  unfold descrGetter descrCheckInstance descrNameAndClass isInstance
  simp only [KF.owner_class]
  repeat lk
  refine ⟨Code.quiet_builtin _ (by decide +kernel), codeAny_builtin KF.entry_class ?_⟩
  unfold Builtin.«object.__class__» shownTypeOf
  repeat lk
  exact h
theorem exc_entry {tk : Tok} {Q : Fin → Shared → Prop} (T : ExC K C) (X : K.In s.heap) (I : IsExc x C s.heap) (hq : Q (.done (.ret (.ref C))) s) :
    wpAny (model prog w) A (Builtin.«object.__getattribute__» ⟨[.ref x, .str "__class__" tk], []⟩) Q E s := by
  obtain ⟨hh, g, d, t, os⟩ := s
  have L0 := I.type (M := model prog w)
  have L1 : Looks (model prog w) hh (Builtin.ObjectAttr.find (.ref x) (.ref C) "__class__") (.bind (.builtin "getset_descriptor.__get__") (.builtin "object.__class__")) := by
    refine (looks_findIn (M := model prog w) X T.cl).andThen (Looks.andThen (looks_specialIn (M := model prog w) X T.gt) ?_)
    have L3 := looks_takesIn (M := model prog w) X T.tk
    exact (show Looks (model prog w) hh (Builtin.ObjectAttr.dataDescriptor? (some (.builtin "object.__class__")) (some (.builtin "getset_descriptor.__get__"))) (some (.builtin "getset_descriptor.__get__", .builtin "object.__class__")) from L3.andThen .now).andThen (Looks.tag .now)
  unfold Builtin.«object.__getattribute__»
  refine wpAny_bind (wpAny_pure (wpAny_bind (wpAny_pure (wpAny_bind (L0.at (wpAny_bind (L1.at ?_)))))))
  show wpAny _ _ (Builtin.ObjectAttr.bindTo _ _ _ _) _ _ _
  refine wpAny_bind (m := holding [Value.builtin "object.__class__"] (call (.builtin "getset_descriptor.__get__") [.builtin "object.__class__", .ref x, .ref C])) (wpAny_holding (wpAny_call (exc_get X I T.mo ?_)))
  exact wpAny_pure hq
theorem exc_class {Q : Option Value → Shared → Prop} (T : ExC K C) (X : K.In s.heap) (I : IsExc x C s.heap) (h : Q (some (.ref C)) { s with toks := s.toks + 1 }) : wpAny (model prog w) A (getAttr? (.ref x) "__class__") Q E s := by
  obtain ⟨hh, g, d, t, os⟩ := s
  have L0 := I.type (M := model prog w)
  have L1 := looks_findIn (M := model prog w) X T.ga
  have L2 := looks_findIn (M := model prog w) X T.na
  have f3 := PySem.F.excAttr_ValueError.ga.bind (.ref x)
  unfold getAttr? getAttrBy? getAttrBy
  refine wpAny_bind (wpAny_mkText (wpAny_bind (wpAny_attempt (wpAny_holding (wpAny_bind (L0.at (wpAny_bind (L1.at ?_))))))))
  show wpAny _ _ (getAttrByItsOwn _ _ _ _ _ _) _ _ _
  unfold getAttrByItsOwn
  refine wpAny_bind (L2.at ?_)
  refine wpAny_bind (wpAny_attempt (wpAny_holding ?_))
  show wpAny _ _ (boundAndCalled _ _ _) _ _ _
  unfold boundAndCalled
  refine wpAny_bind (wpAny_of_eq f3 ?_)
  refine wpAny_call (codeAny_call_builtin PySem.F.excAttr_ValueError.ga.plain PySem.F.entry_bexc_ga (exc_check T X I (exc_entry T X I ?_)))
  repeat (any_goals (first | assumption | wp_step))
theorem kitx_exc (T : ExC K C) : KitX K (.ref x) (.ref C) (IsExc x C) where
  ty := fun M h X I => I.type
  it := fun _ _ X _ => by
    obtain ⟨cd, hcD⟩ := Option.isSome_iff_exists.mp T.ci
    unfold clsIn at hcD
    split at hcD
    · rename_i c' d' cd' sl' ho
      intro A' Q' E' s' k q
      unfold isType loadHead
      exact wpAny_bind (wpAny_loadPart (k _ _ (X _ _ ho)) (wpAny_pure q))
    · cases hcD
  ne := fun h tp dd its n sl X htp => by
    obtain ⟨cd, hcD⟩ := Option.isSome_iff_exists.mp T.ci
    refine Bool.eq_false_iff.mpr fun q => ?_
    have e : C = tp := Value.ref.inj (beq_iff_eq.mp q)
    subst e
    unfold clsIn at hcD
    split at hcD
    · rename_i c' d' cd' sl' ho
      have z := (X _ _ ho).symm.trans htp
      cases z
    · cases hcD
  ca := fun X I k => exc_class T X I k
end

/-! ### isinstance(x, c), isinstance(x, (c1, c2, ..)) -/
abbrev HO.exc (x C : Addr) : HO := .ext (IsExc x C)
inductive TyX (K : PySem.W.Frag) (H : Hp) : V → Value → Prop where
  | of {x : V} {t : Value} (h : TyOf K H x t) : TyX K H x t
  | exc {a C : Addr} (e : H a = some (HO.exc a C)) (T : ExC K C) : TyX K H (.ref a) (.ref C)
def clsV : V → Value
  | .ref a => .ref a
  | .ty n => .type n
  | _ => .none
def isClsV : V → Bool
  | .ref _ => true
  | .ty _ => true
  | _ => false
theorem clsV_of {v : V} {u : Value} (r : RelV v u) (h : isClsV v = true) : u = clsV v := by
  cases v with
  | ref a => exact r
  | ty n => exact r
  | _ => cases h
section
variable {X : Cx} {pins : List (Addr × Obj)} {σ : St} {H : Hp} {s : Shared} {A : Around} {E : Value → Shared → Prop} {Q : Value → Shared → Prop} {c : Value} {b : Bool}
theorem isi_one {x : V} {u t : Value} (I : Inv X pins σ H s) (rx : RelV x u) (ty : TyX X.K H x t) (e : PySem.W.kitOne X.K t c = some b) (h : ∀ tk, Q (.bool b) { s with toks := tk }) :
    wpAny (model X.prog X.w) A (call (.builtin "isinstance") [u, c]) Q E s := by
  cases ty with
  | of ty => exact isinst_ok I rx ty e h
  | @exc a C ea T =>
    cases (show u = Value.ref a from rx)
    obtain ⟨p, _⟩ := (show ObjOk X.prog X.w H s.heap a (HO.exc a C) from I.hok a _ ea)
    exact PySem.W.kia_one (kitx_exc T) I.kIn p e (fun z => nomatch z) h
def rIsi (K : PySem.W.Frag) : List V → Hp → VK → Prop := fun xs H Q => ∃ x c t b, xs = [x, c] ∧ TyX K H x t ∧ isClsV c = true ∧ PySem.W.kitOne K t (clsV c) = some b ∧ Q (.bl b) H
theorem call_isi : CallR X (.builtin "isinstance") (rIsi X.K) := by
  intro pins s σ H xs us Q I r h
  obtain ⟨x, c, t, b, rfl, ty, hc, e, q⟩ := h
  cases r with
  | cons r1 r =>
    cases r with
    | cons r2 r =>
      cases r
      rw [clsV_of r2 hc]
      exact isi_one I r1 ty e fun tk => ⟨.bl b, H, I.tok _, rfl, q⟩
end
end L2

end
section
set_option Elab.async false
set_option linter.all false
set_option maxRecDepth 100000
set_option maxHeartbeats 4000000
namespace L2
open PySem PySem.Spec PyProof.Rows

/-! ### an exception on its way -/
/-- behind a call that raised: hr the heap at the raise, B what stays of it -/
def CXE (P : Program) (w : World) : CXT := fun outer H s E e s' => ∃ (x C : Addr) (B hr : Heap) (a0 : Value) (H' : Hp), e = .ref x ∧ s'.os = s.os ∧ AllBare s'.gens ∧ Un (frs outer) [] H H' s.heap hr ∧ HOk P w H' hr ∧
  Heap.FlyingW B outer x (.ref C) a0 s'.heap ∧ hr.UpToSlots s'.heap ∧ hr.get? x = none ∧ (∀ b o, hr.get? b = some o → b ∉ frs outer → B.get? b = none → s.heap.objs.size ≤ b ∧ H' b = none) ∧
  (∀ b o, hr.get? b = some o → B.get? b = none ∨ B.get? b = some o) ∧ E (.ref C) none H'
section
variable {X : Cx} {pins : List (Addr × Obj)} {σ : St} {H : Hp} {s : Shared}
/-! ### the class's object -/
theorem own_obj {K : PySem.W.Frag} {h₀ : Heap} {C : Addr} {bmB : List Value} {newId : String} (X : K.In h₀) (q : PySem.W.excIn K C bmB newId = true) :
    ∃ bm N nm q bs hdct sn sub ab col dd k0 k1 k2 k3 k5 mN, h₀.get? C = some (excClassObj nm q C N bs bm hdct sn sub ab col dd k0 k1 k2 k3 k5 newId) ∧ h₀.Ns N mN ∧ mN "__init__" = none ∧ OwnTail h₀ bmB bm := by
  open PySem.W in
  unfold excIn at q
  split at q
  · rename_i dd cd sl ho
    split at q
    · rename_i C' bm k0 k1 k2 k3 n k5 hm hs
      simp only [Bool.and_eq_true, beq_iff_eq, Bool.not_eq_true'] at q
      obtain ⟨⟨⟨⟨⟨rfl, rfl⟩, hdel⟩, ht⟩, hok⟩, hni⟩ := q
      obtain ⟨nm, bs, mro, ns, qn, hd, sn, sub, ab, col, del⟩ := cd
      dsimp only at hm hdel hok hni
      subst hm hdel
      have hsl : sl = #[k0, k1, k2, k3, some (.builtin n), k5] := by
        obtain ⟨l⟩ := sl
        simp only at hs
        rw [hs]
      subst hsl
      exact ⟨bm, ns, nm, qn, bs, hd, sn, sub, ab, col, dd, k0, k1, k2, k3, k5, _, X _ _ ho, .of_isNs (PySem.W.isNs_of_in X hok), PySem.W.nsMap_none_of_in X hok hni, PySem.W.tail_of_in X ht⟩
    · cases q
  · cases q
abbrev veMro : List Value := [.type "ValueError", .type "Exception", .type "BaseException", .type "object"]
/-- an own exception class under ValueError -/
structure ExK (K : PySem.W.Frag) (C : Addr) : Prop where
  inn : PySem.W.excIn K C veMro "ValueError.__new__" = true
  kp : PySem.W.keepIn K (.ref C) = true
section
variable {C : Addr} {y : Str} {p pos : Pos} {e : Expr} {es : List Expr} {t : TA}
end
/-! ### raise C(e, ..) -/
/-- what is wanted of an exception made here -/
def Wants (X : Cx) (E : St → Addr → Hp → Prop) : Prop := ∀ (pins : List (Addr × Obj)) (σ : St) (H : Hp) (s : Shared) (h' : Heap) (x C : Addr) (vs : List Value), Inv X pins σ H s → Heap.MadeExcOf s.heap h' x (.ref C) vs → E σ C H → X.xe (.ref x) { s with heap := h' }
def tRaise (C : Addr) (E : St → Addr → Hp → Prop) (t : TA) : TS := fun _ σ H => t σ H fun vs H1 => vs.length ≤ sizeLine ∧ E σ C H1
section
variable {C : Addr} {y : Str} {np cpos pos : Pos} {e : Expr} {es : List Expr} {t : TA} {E : St → Addr → Hp → Prop}
theorem ps_raise (hc : X.calm = true) (M : ExK X.K C) (hg : Gl X y) (hm : X.mg y = some (.ref C)) (hw : Wants X E) (ha : PA X (e :: es) t) (hdb : (y == ("__debug__" : Str)) = false := by decide)
    (he : starEach (e :: es) X.env = (false, eval e X.env) :: starEach es X.env := by rfl) (hpl : (backTo cpos (starEach es X.env)).any (·.1) = false := by rfl) : PS X (.Raise (some (.Call (.Name y np) (e :: es) [] cpos)) none pos) (tRaise C E t) := by
  intro pins s σ H D I h
  obtain ⟨bm, N, nm, q, bs, hdct, sn, sub, ab, col, dd, k0, k1, k2, k3, k5, mN, hC, hN, hni, T⟩ := own_obj I.ok.mod.kin M.inn
  refine wpAny_Raise_call_subT (C := C) (nm := nm) (q := q) (N := N) (bs := bs) (bm := bm) (hdct := hdct) (sn := sn) (sub := sub) (ab := ab) (col := col) (dd := dd) (k0 := k0) (k1 := k1) (k2 := k2) (k3 := k3) (k5 := k5)
    PySem.F.excBase_ValueError (mN := mN) (T.hasType PySem.F.excBase_ValueError.hasBase) (I.ok.hd hc) (by rw [he]; show (false || (backTo cpos (starEach es X.env)).any (·.1)) = false; rw [hpl]; rfl) hni (ld_glob I hg hm ⟨rfl, ?_⟩ hdb)
  have ha' := ha cpos pins s σ H _ I h
  rw [he] at ha' ⊢
  refine Calls.evalArgs_plain (thn ha' fun us s1 ⟨vs, H1, I1, r, z, hE⟩ => ⟨rfl, by rw [← r.length]; exact z, I1.bk _ _ hC, hN.keeps I1.bk, T.keeps I1.bk, fun h' x m => ?_⟩)
  exact hw pins σ H1 s1 h' x C _ I1 m hE
end

/-! ### a def that may raise -/
section
variable {P : Program} {w : World} {K : PySem.W.Frag} {mg : Str → Option Value} {base : Heap} {N : List Str} {qual : Str} {scope : Scope} {f : Addr} {cd : Value} {A : Around} {outer : List Env} {s : Shared} {H : Hp} {E : XK}
theorem hide_of {h : Heap} {as : List Addr} {b : Addr} {o : Obj} (e : h.get? b = some o) : (PySem.W.hideAll h as).get? b = none ∨ (PySem.W.hideAll h as).get? b = some o := by
  by_cases hb : b ∈ as
  · exact .inl (PySem.W.hideAll_none as hb)
  · exact .inr (PySem.W.hideAll_get _ e hb)
theorem stays_hide {h : Heap} {as : List Addr} : (PySem.W.hideAll h as).StaysIn h := fun b o e => PySem.W.of_hideAll as e
theorem Inv.hidden {X : Cx} {pins : List (Addr × Obj)} {σ : St} {H : Hp} {s : Shared} (I : Inv X pins σ H s) : s.heap.FunFrames (PySem.W.hideAll s.heap (frs X.stack)) X.stack :=
  PySem.W.funFrames_hide I.stack fun env he b hb => List.mem_filterMap.mpr ⟨env, he, hb⟩
theorem wants_fn : Wants (cxOf (CXE P w) P w K mg base N qual scope f cd A outer s H E) (fun _ C H' => E (.ref C) none H') := by
  intro pins σ H1 s1 h' x C vs I m hE
  show wpAny (model P w) _ (leaving (envOfC qual scope s.heap.objs.size f cd) (.ref x)) _ _ _
  have hst : frs (cxOf (CXE P w) P w K mg base N qual scope f cd A outer s H E).stack = s.heap.objs.size :: frs outer := rfl
  refine wpAny_leaves_madeW (base := PySem.W.hideAll s1.heap (frs (cxOf (CXE P w) P w K mg base N qual scope f cd A outer s H E).stack)) (h := s1.heap) (env := envOfC qual scope s.heap.objs.size f cd) (outer := outer) I.ok.frames rfl stays_hide I.hidden m fun h2 t fl _ _ up => ?_
  refine ⟨x, C, _, s1.heap, _, H1, rfl, I.os, I.bare, I.base, I.hok, fl, (Heap.UpToSlots.of_keeps m.keeps).trans up, m.new, fun b o e hb n => ?_, fun b o e => hide_of e, hE⟩
  by_cases hs : b ∈ frs (cxOf (CXE P w) P w K mg base N qual scope f cd A outer s H E).stack
  · rw [hst] at hs
    rcases List.mem_cons.mp hs with z | z
    · subst z
      exact ⟨Nat.le_refl _, I.free⟩
    · exact absurd z hb
  · rw [PySem.W.hideAll_get _ e hs] at n
    cases n
theorem Fun.okE {x qual : Str} {st : Stmt} {f : Addr} {fd : FuncData} {N ps : List Str} {k : Nat} {sp : Sp} (F : Fun K x qual st f fd) (S : FnScope N ps (defScope st)) (len : ∀ vs H Q E, sp vs H Q E → vs.length = ps.length)
    (hbody : ∀ (cdv : Value) (A : Around) (outer : List Env) (s : Shared) (H : Hp) (vs : List V) (Q : VK) (E : XK), Room k (A.deeper (envOfC qual (defScope st) s.heap.objs.size f cdv)) → sp vs H Q E →
      ∃ t, PSs (cxOf (CXE P w) P w K mg base N qual (defScope st) f cdv A outer s H E) (defBody st) t ∧ t { nx := fun _ H' => Q .non H', rt := Q } (start N vs) H) : FnOk P w K mg base (CXE P w) (k + 1) f fd ps sp := by
  obtain ⟨oc, od, kV, doc, pm, an, cdv, ct, osl, rfl, lk, hcd⟩ := F.ex
  exact fn_of lk hcd S len fun A outer s H vs Q E hr hsp => hbody cdv A outer s H vs Q E hr hsp
end

/-! ### try: body, except C as n: suite -/
section
variable {X : Cx} {pins : List (Addr × Obj)} {σ : St} {H : Hp} {s : Shared} {T : St → Addr → Hp → Prop} {pn : List (Addr × Obj)} {x : Addr}
end
end
end L2

end
section
set_option Elab.async false
set_option linter.all false
set_option maxRecDepth 100000
set_option maxHeartbeats 4000000
namespace L2
open PySem PySem.Spec PyProof.Rows

/-! ### readings that compute -/
theorem PE.imp {X : Cx} {e : Expr} {t t' : TE} (h : PE X e t) (i : ∀ σ H Q, t' σ H Q → t σ H Q) : PE X e t' := fun pins s σ H Q I q => h pins s σ H Q I (i σ H Q q)
theorem OpR.imp {X : Cx} {f : Value → Value → Sem Value} {r r' : R2} (h : OpR X f r) (i : ∀ x y H Q, r' x y H Q → r x y H Q) : OpR X f r' := fun pins s σ H x y v u Q I rx ry q => h pins s σ H x y v u Q I rx ry (i x y H Q q)
theorem CallR.imp {X : Cx} {f : Value} {r r' : List V → Hp → VK → Prop} (h : CallR X f r) (i : ∀ xs H Q, r' xs H Q → r xs H Q) : CallR X f r' := fun pins s σ H xs us Q I rx q => h pins s σ H xs us Q I rx (i xs H Q q)

/-- a fork -/
@[irreducible] def ifB (b : Bool) (p q : Prop) : Prop := if b = true then p else q
theorem ifB_eq (b : Bool) (p q : Prop) : ifB b p q = (if b = true then p else q) := by unfold ifB; rfl
theorem ifB.mk {b : Bool} {p q : Prop} (h1 : b = true → p) (h2 : b = false → q) : ifB b p q := by
  rw [ifB_eq]
  cases b with
  | true => rw [if_pos rfl]; exact h1 rfl
  | false => rw [if_neg Bool.false_ne_true]; exact h2 rfl
theorem ifB.yes {b : Bool} {p q : Prop} (e : b = true) (h : p) : ifB b p q := ifB.mk (fun _ => h) fun z => by rw [e] at z; cases z
theorem ifB.no {b : Bool} {p q : Prop} (e : b = false) (h : q) : ifB b p q := ifB.mk (fun z => by rw [e] at z; cases z) fun _ => h
theorem ifB.dec {c : Prop} [Decidable c] {p q : Prop} (h1 : c → p) (h2 : ¬ c → q) : ifB (decide c) p q := ifB.mk (fun z => h1 (of_decide_eq_true z)) fun z => h2 (of_decide_eq_false z)

def tV (i : Nat) : TE := fun σ H Q => match σ[i]? with | some (some v) => Q v H | _ => False
def bV (x : V) (Q : Bool → Prop) : Prop := match x with | .bl k => Q k | _ => False
def cT (t : TE) : TT := fun σ H Q => t σ H fun x H' => bV x fun k => Q k H'
def cI (f : Int → Int → V) : R2 := fun x y H Q => match x, y with | .int i, .int j => Q (f i j) H | _, _ => False
/-- .. the result as a letter -/
def cL (C : Int → Int → Prop) (f : Int → Int → Int) (F : Int → Int → Int → Prop) : R2 := fun x y H Q => match x, y with | .int i, .int j => C i j ∧ ∀ m, m = f i j → F i j m → Q (.int m) H | _, _ => False
abbrev CMod (_ j : Int) : Prop := 0 < j
theorem cpow {i j : Int} (h : (decide (0 ≤ j) && decide (j ≤ 1000000) && decide (i.natAbs < 2 ^ 64)) = true) : CPow i j := by
  simp only [Bool.and_eq_true, decide_eq_true_eq] at h
  exact ⟨h.1.1, h.1.2, h.2⟩
abbrev CFdiv (_ j : Int) : Prop := 0 < j ∧ j.natAbs.log2 < 9000
def cAtom (neg : Bool) : R2 := fun x y H Q => match x, y with
  | .int i, .int j => Q (.bl (if neg then !decide (i = j) else decide (i = j))) H
  | .str i, .str j => Q (.bl (if neg then !decide (i = j) else decide (i = j))) H
  | .bl i, .bl j => Q (.bl (if neg then !decide (i = j) else decide (i = j))) H
  | _, _ => False
section
variable {X : Cx} {a b : Expr} {ta tb : TE} {pos : Pos}
theorem tV_var {i : Nat} {σ : St} {H : Hp} {Q : VK} (h : tV i σ H Q) : tVar i σ H Q := by
  unfold tV at h
  split at h
  · rename_i v e; exact ⟨v, e, h⟩
  · exact h.elim
theorem qv (i : Nat) {x : Str} {pos : Pos} (hN : X.N[i]? = some x := by rfl) (hv : Vis X.env.scope x := by first | exact Or.inl rfl | exact Or.inr (Or.inl rfl) | exact Or.inr (Or.inr rfl)) (hd : (x == ("__debug__" : Str)) = false := by decide)
    (hcd : (x == ("__classdict__" : Str)) = false := by decide) : PE X (.Name x pos) (tV i) := (pe_var hN hv hd hcd).imp fun _ _ _ h => tV_var h
theorem cI_of {f : Int → Int → V} {x y : V} {H : Hp} {Q : VK} (h : cI f x y H Q) : rI0 f x y H Q := by
  unfold cI at h
  split at h
  · exact ⟨_, _, rfl, rfl, h⟩
  · exact h.elim
theorem q_add : OpR X (binaryOp .Add) (cI fun i j => .int (i + j)) := op_add.imp fun _ _ _ _ => cI_of
theorem q_sub : OpR X (binaryOp .Sub) (cI fun i j => .int (i - j)) := op_sub.imp fun _ _ _ _ => cI_of
theorem cL_of {C : Int → Int → Prop} {f : Int → Int → Int} {F : Int → Int → Int → Prop} (hF : ∀ i j, C i j → F i j (f i j)) {x y : V} {H : Hp} {Q : VK} (h : cL C f F x y H Q) : rI C (fun i j => .int (f i j)) x y H Q := by
  unfold cL at h
  split at h
  · exact ⟨_, _, rfl, rfl, h.1, h.2 _ rfl (hF _ _ h.1)⟩
  · exact h.elim
theorem q_mul : OpR X (binaryOp .Mult) (cL CMul (fun i j => i * j) fun _ _ _ => True) := op_mul.imp fun _ _ _ _ => cL_of fun _ _ _ => trivial
theorem q_mod : OpR X (binaryOp .Mod) (cL CMod (fun i j => i % j) fun _ j m => 0 ≤ m ∧ m < j) := op_mod.imp fun _ _ _ _ h => cL_of (fun i j hj => ⟨Int.emod_nonneg _ (by have : 0 < j := hj; omega), Int.emod_lt_of_pos _ hj⟩) h
theorem q_fdiv : OpR X (binaryOp .FloorDiv) (cL CFdiv (fun i j => i / j) fun _ _ _ => True) := by
  intro pins s σ H x y v u Q I rx ry h
  obtain ⟨i, j, rfl, rfl, ⟨h0, h1⟩, q⟩ := cL_of (fun _ _ _ => trivial) h
  obtain ⟨t, rfl⟩ := rx
  obtain ⟨t', rfl⟩ := ry
  refine floordiv_int (by omega) ?_ (.inl (PyProof.noPylong_of_log2 h1))
  rw [Int.fdiv_eq_ediv_of_nonneg _ (by omega)]
  exact ⟨.int _, H, I.tok _, ⟨_, rfl⟩, q⟩
theorem q_pow : OpR X (binaryOp .Pow) (cL CPow (fun i j => i ^ j.toNat) fun _ _ _ => True) := op_pow.imp fun _ _ _ _ => cL_of fun _ _ _ => trivial
theorem q_lt : OpR X (compareOp .Lt) (cI fun i j => .bl (decide (i < j))) := op_lt.imp fun _ _ _ _ => cI_of
theorem q_le : OpR X (compareOp .LtE) (cI fun i j => .bl (decide (i ≤ j))) := op_le.imp fun _ _ _ _ => cI_of
theorem q_gt : OpR X (compareOp .Gt) (cI fun i j => .bl (decide (j < i))) := op_gt.imp fun _ _ _ _ => cI_of
theorem dI {i j : Int} : decide (i = j) = (i == j) := by rw [Bool.eq_iff_iff]; simp
theorem dB {i j : Bool} : decide (i = j) = (i == j) := by rw [Bool.eq_iff_iff]; simp
theorem dS {i j : Str} : decide (i = j) = (i == j) := by rw [Bool.eq_iff_iff]; simp
theorem ifB_t {p q : Prop} (h : ifB true p q) : p := by rw [ifB_eq, if_pos rfl] at h; exact h
theorem ifB_f {p q : Prop} (h : ifB false p q) : q := by rw [ifB_eq, if_neg Bool.false_ne_true] at h; exact h
theorem q_eq : OpR X (compareOp .Eq) (cAtom false) := by
  intro pins s σ H x y v u Q I rx ry h
  unfold cAtom at h
  split at h
  · obtain ⟨t, rfl⟩ := rx; obtain ⟨t', rfl⟩ := ry; exact SeqAt.RcAt.int_int _ t _ t' _ _ _ _ (fin_bl I h (by rw [if_neg (by decide)]; exact dI))
  · obtain ⟨t, rfl⟩ := rx; obtain ⟨t', rfl⟩ := ry; exact SeqAt.RcAt.str_str _ t _ t' _ _ _ _ (fin_bl I h (by rw [if_neg (by decide)]; exact dS))
  · cases rx; cases ry; exact SeqAt.RcAt.bool_bool _ _ _ _ _ _ (fin_bl I h (by rw [if_neg (by decide)]; exact dB))
  · exact h.elim
theorem q_ne : OpR X (compareOp .NotEq) (cAtom true) := by
  intro pins s σ H x y v u Q I rx ry h
  unfold cAtom at h
  split at h
  · obtain ⟨t, rfl⟩ := rx; obtain ⟨t', rfl⟩ := ry; exact SeqAt.RcNeAt.int_int _ t _ t' _ _ _ _ (fin_bl I h (by rw [if_pos rfl, dI]))
  · obtain ⟨t, rfl⟩ := rx; obtain ⟨t', rfl⟩ := ry; exact SeqAt.RcNeAt.str_str _ t _ t' _ _ _ _ (fin_bl I h (by rw [if_pos rfl, dS]))
  · cases rx; cases ry; exact SeqAt.RcNeAt.bool_bool _ _ _ _ _ _ (fin_bl I h (by rw [if_pos rfl, dB]))
  · exact h.elim
def cNeg : V → Hp → VK → Prop := fun x H Q => match x with | .int i => Q (.int (-i)) H | _ => False
theorem q_neg : UnR X (unaryOp .USub) cNeg := by
  intro pins s σ H x v Q I rx h
  refine un_neg pins s σ H x v Q I rx ?_
  unfold cNeg at h
  split at h
  · exact ⟨_, rfl, h⟩
  · exact h.elim
/-! tests -/
theorem bV_ex {x : V} {Q : Bool → Prop} (h : bV x Q) : ∃ k, x = .bl k ∧ Q k := by
  cases x with
  | bl k => exact ⟨k, rfl, h⟩
  | _ => exact False.elim h
theorem pt_e {e : Expr} {t : TE} (h : PE X e t) (he : ∀ whole, isTrue e X.env whole = (do let v ← whole; standAt e.pos; holding [v] (truthy v)) := by intro _; rfl) : PT X e (cT t) := by
  intro pins s σ H Q I hw
  rw [he]
  refine wpAny_bind (thn (h pins s σ H _ I hw) fun v s1 ⟨x, H1, I1, r1, q1⟩ => wpAny_bind (wpAny_standAt (wpAny_holding ?_)))
  obtain ⟨k, rfl, q⟩ := bV_ex q1
  cases r1
  exact wpAny_truthy_bool ⟨H1, I1, q⟩
theorem pt_c {op : CmpOp} {r : R2} (ho : OpR X (compareOp op) r) (ha : PE X a ta) (hb : PE X b tb) (hm : behindInMarks op b = false := by first | exact nomark _ | rfl) : PT X (.Compare a [op] [b] pos) (cT (tOp r ta tb)) := by
  intro pins s σ H Q I hw
  refine wpAny_isTrue_Compare1 (thn (ha pins s σ H _ I hw) fun v s1 ⟨x, H1, I1, r1, q1⟩ => thn (hb pins s1 σ H1 _ I1 q1) fun u s2 ⟨y, H2, I2, r2, q2⟩ =>
    thn (ho pins s2 σ H2 x y v u _ I2 r1 r2 q2) fun c s3 ⟨z, H3, I3, r3, q3⟩ => ?_) hm
  obtain ⟨k, rfl, q⟩ := bV_ex q3
  cases r3
  exact wpAny_truthy_bool ⟨H3, I3, q⟩
/-- a op1 b op2 c, as a test and as a value -/
def cChain (r r' : R2) (ta tb tc : TE) : TE := fun σ H Q => ta σ H fun x H1 => tb σ H1 fun y H2 => r x y H2 fun z H3 => bV z fun k => ifB k (tc σ H3 fun u H4 => r' y u H4 Q) (Q (.bl false) H3)
theorem pe_ch {op op' : CmpOp} {r r' : R2} {c : Expr} {tc : TE} (ho : OpR X (compareOp op) r) (ho' : OpR X (compareOp op') r') (ha : PE X a ta) (hb : PE X b tb) (hc : PE X c tc)
    (hm : lastMarks [op, op'] [b, c] = false := by with_unfolding_all rfl) : PE X (.Compare a [op, op'] [b, c] pos) (cChain r r' ta tb tc) := by
  intro pins s σ H Q I h
  refine Compare_chain (thn (ha pins s σ H _ I h) fun v s1 ⟨x, H1, I1, r1, q1⟩ => chain_link (thn (hb pins s1 σ H1 _ I1 q1) fun u s2 ⟨y, H2, I2, r2, q2⟩ =>
    thn (ho pins s2 σ H2 x y v u _ I2 r1 r2 q2) fun d s3 ⟨z, H3, I3, r3, q3⟩ => ?_)) hm
  obtain ⟨k, rfl, q⟩ := bV_ex q3
  cases r3
  refine wpAny_truthy_bool ?_
  cases k with
  | false => exact ite_ff ⟨.bl false, H3, I3, rfl, ifB_f q⟩
  | true => exact ite_tt (chain_last (thn (hc pins s3 σ H3 _ I3 (ifB_t q)) fun w' s4 ⟨z', H4, I4, r4, q4⟩ => ho' pins s4 σ H4 y z' u w' Q I4 r2 r4 q4))
theorem pt_ch {op op' : CmpOp} {r r' : R2} {c : Expr} {tc : TE} (ho : OpR X (compareOp op) r) (ho' : OpR X (compareOp op') r') (ha : PE X a ta) (hb : PE X b tb) (hc : PE X c tc)
    (hm : lastMarks [op, op'] [b, c] = false := by with_unfolding_all rfl) : PT X (.Compare a [op, op'] [b, c] pos) (cT (cChain r r' ta tb tc)) := by
  intro pins s σ H Q I h
  refine isTrue_chain (thn (ha pins s σ H _ I h) fun v s1 ⟨x, H1, I1, r1, q1⟩ => test_link (thn (hb pins s1 σ H1 _ I1 q1) fun u s2 ⟨y, H2, I2, r2, q2⟩ =>
    thn (ho pins s2 σ H2 x y v u _ I2 r1 r2 q2) fun d s3 ⟨z, H3, I3, r3, q3⟩ => ?_)) hm
  obtain ⟨k, rfl, q⟩ := bV_ex q3
  cases r3
  refine wpAny_truthy_bool ?_
  cases k with
  | false => exact ite_ff ⟨H3, I3, ifB_f q⟩
  | true =>
    refine ite_tt (test_last (thn (hc pins s3 σ H3 _ I3 (ifB_t q)) fun w' s4 ⟨z', H4, I4, r4, q4⟩ => thn (ho' pins s4 σ H4 y z' u w' _ I4 r2 r4 q4) fun d' s5 ⟨z2, H5, I5, r5, q5⟩ => ?_))
    obtain ⟨k2, rfl, q6⟩ := bV_ex q5
    cases r5
    exact wpAny_truthy_bool ⟨H5, I5, q6⟩
def cIf (c : TT) (t u : TS) : TS := fun D σ H => c σ H fun b H1 => ifB b (t D σ H1) (u D σ H1)
theorem ps_c {c : Expr} {a b : List Stmt} {tc : TT} {t u : TS} {pos : Pos} (hc : PT X c tc) (ha : PSs X a t) (hb : PSs X b u) : PS X (.If c a b pos) (cIf tc t u) := by
  intro pins s σ H D I h
  refine wpAny_If (thn (hc pins s σ H _ I h) fun d s1 ⟨H1, I1, q1⟩ => ?_)
  cases d with
  | true => exact ha pins s1 σ H1 D I1 (ifB_t q1)
  | false => exact hb pins s1 σ H1 D I1 (ifB_f q1)
def cAnd (t u : TT) : TT := fun σ H Q => t σ H fun c H1 => ifB c (u σ H1 Q) (Q false H1)
def cOr (t u : TT) : TT := fun σ H Q => t σ H fun c H1 => ifB c (Q true H1) (u σ H1 Q)
section
variable {rest : List Expr} {tA tB : TT}
theorem qw_and1 (ha : PT X a tA) : PW X (.BoolOp .And [a] pos) tA := pw_and1 ha
theorem qw_or1 (ha : PT X a tA) : PW X (.BoolOp .Or [a] pos) tA := pw_or1 ha
theorem pw_andR (ha : PT X a tA) (hb : PW X (.BoolOp .And (b :: rest) pos) tB) : PW X (.BoolOp .And (a :: b :: rest) pos) (cAnd tA tB) := by
  intro whole pins s σ H Q I h
  exact pw_and (X := X) (tA := fun σ H Q => tA σ H fun c H1 => Q c H1) (tB' := tB) ha hb whole pins s σ H Q I (by
    have e : (fun (c : Bool) (H1 : Hp) => if c = true then tB σ H1 Q else Q false H1) = fun c H1 => ifB c (tB σ H1 Q) (Q false H1) := by funext c H1; rw [ifB_eq]
    show tA σ H (fun (c : Bool) (H1 : Hp) => if c = true then tB σ H1 Q else Q false H1)
    rw [e]; exact h)
theorem pw_orR (ha : PT X a tA) (hb : PW X (.BoolOp .Or (b :: rest) pos) tB) : PW X (.BoolOp .Or (a :: b :: rest) pos) (cOr tA tB) := by
  intro whole pins s σ H Q I h
  exact pw_or (X := X) (tA := fun σ H Q => tA σ H fun c H1 => Q c H1) (tB' := tB) ha hb whole pins s σ H Q I (by
    have e : (fun (c : Bool) (H1 : Hp) => if c = true then Q true H1 else tB σ H1 Q) = fun c H1 => ifB c (Q true H1) (tB σ H1 Q) := by funext c H1; rw [ifB_eq]
    show tA σ H (fun (c : Bool) (H1 : Hp) => if c = true then Q true H1 else tB σ H1 Q)
    rw [e]; exact h)
/-! as values: of bools -/
def cAndV (ta tb : TE) : TE := fun σ H Q => ta σ H fun x H1 => bV x fun c => ifB c (tb σ H1 Q) (Q (.bl false) H1)
def cNotV (ta : TE) : TE := fun σ H Q => ta σ H fun x H1 => bV x fun c => Q (.bl (!c)) H1
theorem pe_andC (ha : PE X a ta) (hb : PE X (.BoolOp .And (b :: rest) pos) tb) : PE X (.BoolOp .And (a :: b :: rest) pos) (cAndV ta tb) := by
  intro pins s σ H Q I h
  refine BoolOp_and (thn (ha pins s σ H _ I h) fun v s1 ⟨x, H1, I1, r1, q1⟩ => ?_)
  obtain ⟨c, rfl, q1⟩ := bV_ex q1
  cases r1
  refine wpAny_truthy_bool ?_
  cases c with
  | true => exact hb pins s1 σ H1 Q I1 (ifB_t q1)
  | false => exact ⟨.bl false, H1, I1, rfl, ifB_f q1⟩
theorem pe_notC (ha : PE X a ta) : PE X (.UnaryOp .Not a pos) (cNotV ta) := by
  intro pins s σ H Q I h
  refine UnaryOp_ (thn (ha pins s σ H _ I h) fun v s1 ⟨x, H1, I1, r1, q1⟩ => ?_)
  obtain ⟨c, rfl, q1⟩ := bV_ex q1
  cases r1
  exact not_of (wpAny_truthy_bool ⟨.bl (!c), H1, I1, rfl, q1⟩)
end
/-! if as an expression -/
end
end L2

end
section
set_option Elab.async false
set_option linter.all false
set_option maxRecDepth 100000
set_option maxHeartbeats 4000000
namespace L2
open PySem PySem.Spec PyProof.Rows
theorem bt_len : bootBuiltins "len" = some (.builtin "len") := by decide +kernel
theorem bt_isinstance : bootBuiltins "isinstance" = some (.builtin "isinstance") := by decide +kernel
theorem bt_all : bootBuiltins "all" = some (.builtin "all") := by decide +kernel
theorem bt_max : bootBuiltins "max" = some (.builtin "max") := by decide +kernel
theorem bt_list : bootBuiltins "list" = some (.type "list") := by decide +kernel
theorem bt_tuple : bootBuiltins "tuple" = some (.type "tuple") := by decide +kernel
theorem bt_int : bootBuiltins "int" = some (.type "int") := by decide +kernel
theorem bt_bool : bootBuiltins "bool" = some (.type "bool") := by decide +kernel
/-! ### heaps: what a store keeps -/
section
variable {X : Cx} {pins : List (Addr × Obj)} {σ : St} {H : Hp} {s : Shared}
end
/-! ### for a, b in enumerate(xs) -/
section
variable {X : Cx}
end
/-! ### ''.join(xs), all(xs) -/
section
variable {X : Cx}
end
end L2

end
section
set_option Elab.async false
set_option linter.all false
set_option maxRecDepth 100000
set_option maxHeartbeats 4000000
namespace L2
open PySem PySem.Spec PyProof.Rows
theorem IxR.imp {X : Cx} {r r' : R2} (h : IxR X r) (i : ∀ x y H Q, r' x y H Q → r x y H Q) : IxR X r' := fun a b pins s σ H x y v u Q I rx ry q e => h a b pins s σ H x y v u Q I rx ry (i x y H Q q) e
theorem MtR.imp {X : Cx} {id : String} {r r' : V → List V → Hp → VK → Prop} (h : MtR X id r) (i : ∀ x xs H Q, r' x xs H Q → r x xs H Q) : MtR X id r' := fun pins s σ H x xs v us Q I rx rv q => h pins s σ H x xs v us Q I rx rv (i x xs H Q q)
theorem PSet.imp {X : Cx} {t t' : TSet} (h : PSet X t) (i : ∀ o j v H Q, t' o j v H Q → t o j v H Q) : PSet X t' := fun pins s σ H o j v ov iv u Q I ro ri rv q => h pins s σ H o j v ov iv u Q I ro ri rv (i o j v H Q q)
theorem SlR.imp {X : Cx} {r r' : V → Option Int → Option Int → Hp → VK → Prop} (h : SlR X r) (i : ∀ x l u H Q, r' x l u H Q → r x l u H Q) : SlR X r' := fun pins s σ H x v vl vu lo hi sl Q I rx hs pl pu q => h pins s σ H x v vl vu lo hi sl Q I rx hs pl pu (i _ _ _ _ _ q)
theorem upd_sub {H H' : Hp} {p : Addr} {o : HO} (n : H p = none) (e : upd H p o = H') : Sub H H' ∧ H' p = some o := by subst e; exact ⟨Sub.new n, upd_same⟩
/-- a global's value -/
def CV (mg : Str → Option Value) (x : Str) (v : V) : Prop := ∃ u, mg x = some u ∧ RelV v u
section
variable {X : Cx} {a b : Expr} {ta tb : TE} {pos : Pos}
theorem pe_cv {x : Str} {v : V} {pos : Pos} (hg : Gl X x) (h : CV X.mg x v) (hd : (x == ("__debug__" : Str)) = false := by decide) : PE X (.Name x pos) (tC v) := by
  obtain ⟨u, h1, h2⟩ := h
  exact pe_glob hg h1 h2 hd
def cIxL (K : PySem.W.Frag) : R2 := fun x y H Q => match x, y with | .ref p, .int i => ∃ xs v, SqL K H p xs ∧ atI xs i = some v ∧ Q v H | _, _ => False
def cIxT (K : PySem.W.Frag) : R2 := fun x y H Q => match x, y with | .ref p, .int i => ∃ xs v, SqT K H p xs ∧ atI xs i = some v ∧ Q v H | _, _ => False
theorem q_ixL : IxR X (cIxL X.K) := ix_list.imp fun x y H Q h => by
  unfold cIxL at h
  split at h
  · obtain ⟨xs, v, h1, h2, h3⟩ := h; exact ⟨_, xs, _, v, rfl, rfl, h1, h2, h3⟩
  · exact h.elim
theorem q_ixT : IxR X (cIxT X.K) := ix_tup.imp fun x y H Q h => by
  unfold cIxT at h
  split at h
  · obtain ⟨xs, v, h1, h2, h3⟩ := h; exact ⟨_, xs, _, v, rfl, rfl, h1, h2, h3⟩
  · exact h.elim
def cSetL : TSet := fun o i v H Q => match o, i with | .ref p, .int k => ∃ xs j, H p = some (.lst xs) ∧ ixN xs.length k = some j ∧ Q (upd H p (.lst (xs.set j v))) | _, _ => False
theorem q_setL : PSet X cSetL := set_list.imp fun o i v H Q h => by
  unfold cSetL at h
  split at h
  · obtain ⟨xs, j, h1, h2, h3⟩ := h; exact ⟨_, xs, _, j, rfl, rfl, h1, h2, h3⟩
  · exact h.elim
def cCat : R2 := fun x y H Q => match x, y with | .ref l, .ref b => ∃ xs zs, H l = some (.lst xs) ∧ H b = some (.lst zs) ∧ xs.length + zs.length ≤ sizeLine ∧ ∀ p, H p = none → Q (.ref p) (upd H p (.lst (xs ++ zs))) | _, _ => False
theorem q_cat : OpR X (binaryOp .Add) cCat := op_cat.imp fun x y H Q h => by
  unfold cCat at h
  split at h
  · obtain ⟨xs, zs, h⟩ := h; exact ⟨_, _, xs, zs, rfl, rfl, h⟩
  · exact h.elim
def cSlL (K : PySem.W.Frag) : V → Option Int → Option Int → Hp → VK → Prop := fun x lo hi H Q => match x with | .ref a => ∃ xs, SqL K H a xs ∧ ∀ p, H p = none → Q (.ref p) (upd H p (.lst (cutV xs lo hi))) | _ => False
theorem q_slL : SlR X (cSlL X.K) := sl_list.imp fun x lo hi H Q h => by
  unfold cSlL at h
  split at h
  · obtain ⟨xs, h⟩ := h; exact ⟨_, xs, rfl, h⟩
  · exact h.elim
def cLen (K : PySem.W.Frag) : List V → Hp → VK → Prop := fun xs H Q => match xs with | [.ref p] => ∃ ys, (SqL K H p ys ∨ SqT K H p ys) ∧ Q (.int ys.length) H | _ => False
theorem q_len : CallR X (.builtin "len") (cLen X.K) := call_len_seq.imp fun xs H Q h => by
  unfold cLen at h
  split at h
  · obtain ⟨ys, h⟩ := h; exact ⟨_, ys, rfl, h⟩
  · exact h.elim
def cApp : V → List V → Hp → VK → Prop := fun x vs H Q => match x, vs with | .ref l, [y] => ∃ xs, H l = some (.lst xs) ∧ xs.length < sizeLine ∧ Q .non (upd H l (.lst (xs ++ [y]))) | _, _ => False
theorem q_app : MtR X "list.append" cApp := MtR.imp (r := rAppend) mt_append fun x vs H Q h => by
  unfold cApp at h
  split at h
  · obtain ⟨xs, h⟩ := h; exact ⟨_, xs, _, rfl, rfl, h⟩
  · exact h.elim
def cIsi (K : PySem.W.Frag) : List V → Hp → VK → Prop := fun xs H Q => match xs with | [x, c] => ∃ t b, TyX K H x t ∧ isClsV c = true ∧ PySem.W.kitOne K t (clsV c) = some b ∧ Q (.bl b) H | _ => False
theorem q_isi : CallR X (.builtin "isinstance") (cIsi X.K) := call_isi.imp fun xs H Q h => by
  unfold cIsi at h
  split at h
  · obtain ⟨t, b, h⟩ := h; exact ⟨_, _, t, b, rfl, h⟩
  · exact h.elim
def cIn (K : PySem.W.Frag) (neg : Bool) : R2 := fun x y H Q => match y with | .ref p => ∃ xs, (SqL K H p xs ∨ SqT K H p xs) ∧ flatV x = true ∧ xs.all flatV = true ∧ Q (.bl (if neg then !inV x xs else inV x xs)) H | _ => False
theorem q_in : OpR X (compareOp .In) (cIn X.K false) := op_in_seq.imp fun x y H Q h => by
  unfold cIn at h
  split at h
  · obtain ⟨xs, h⟩ := h; exact ⟨_, xs, rfl, h⟩
  · exact h.elim
/-! loops over a list, a range: computing -/
def cList (K : PySem.W.Frag) (tl : TE) : TI := fun σ H R => tl σ H fun x H1 => match x with | .ref a => (∃ xs, SqL K H1 a xs) ∧ R (Itl K a) H1 | _ => False
theorem qi_list {tg l : Expr} {tl : TE} (hl : PE X l tl) : PI X tg l (cList X.K tl) := by
  intro pins s σ H R I h
  refine thn (hl pins s σ H _ I h) fun v s1 ⟨x, H1, I1, r1, q1⟩ => ?_
  obtain ⟨a, rfl, ⟨xs, hq⟩, q⟩ : ∃ a, x = .ref a ∧ (∃ xs, SqL X.K H1 a xs) ∧ R (Itl X.K a) H1 := by
    dsimp only at q1
    split at q1
    · exact ⟨_, rfl, q1⟩
    · exact q1.elim
  cases r1
  obtain ⟨its, rv, p, hz⟩ := I1.list hq
  refine wpAny_pyIter_list p.isList ?_
  refine ⟨s1.heap.objs.size, [s1.heap.objs.size], _, _, H1, rfl, I1.kept (t' := s1.toks) fun b o e => Heap.get?_push_of_some _ e, turn_list a _, ⟨_, Heap.get?_push_size _ rfl, rfl, rfl⟩, fun b hb => ?_, q⟩
  have e : b = s1.heap.objs.size := by simpa using hb
  subst e
  exact I1.fpOk (Nat.le_refl _) (I1.hok.fresh (Nat.le_refl _))
def cTupI (K : PySem.W.Frag) (tl : TE) : TI := fun σ H R => tl σ H fun x H1 => match x with | .ref a => (∃ xs, SqT K H1 a xs) ∧ R (Itt K a) H1 | _ => False
theorem qi_tup {tg l : Expr} {tl : TE} (hl : PE X l tl) : PI X tg l (cTupI X.K tl) := by
  intro pins s σ H R I h
  refine thn (hl pins s σ H _ I h) fun v s1 ⟨x, H1, I1, r1, q1⟩ => ?_
  obtain ⟨a, rfl, ⟨xs, hq⟩, q⟩ : ∃ a, x = .ref a ∧ (∃ xs, SqT X.K H1 a xs) ∧ R (Itt X.K a) H1 := by
    dsimp only at q1
    split at q1
    · exact ⟨_, rfl, q1⟩
    · exact q1.elim
  cases r1
  obtain ⟨its, rv, p, hz⟩ := I1.tuple hq
  refine wpAny_pyIter_tuple (show s1.heap.IsTuple a its.toArray from p) ?_
  refine ⟨s1.heap.objs.size, [s1.heap.objs.size], _, _, H1, rfl, I1.kept (t' := s1.toks) fun b o e => Heap.get?_push_of_some _ e, turn_tuple a _, ⟨_, Heap.get?_push_size _ rfl, rfl, rfl⟩, fun b hb => ?_, q⟩
  have e : b = s1.heap.objs.size := by simpa using hb
  subst e
  exact I1.fpOk (Nat.le_refl _) (I1.hok.fresh (Nat.le_refl _))
def cRng1 (ta : TA) : TI := fun σ H R => ta σ H fun vs H1 => match vs with | [.int j] => (-(2 ^ 62) ≤ j ∧ j < 2 ^ 62) ∧ R (Itr 0 j.toNat) H1 | _ => False
theorem qi_range1 {tg a : Expr} {ta : TA} {p pos : Pos} (hg : Gl X "range") (hm : X.mg "range" = none) (ha : PA X [a] ta) (hs : starEach [a] X.env = [(false, eval a X.env)] := by rfl) : PI X tg (.Call (.Name "range" p) [a] [] pos) (cRng1 ta) := by
  intro pins s σ H R I h
  refine Call_ (ld_blt I hg hm boot_range (PyProof.Rows.callWith_type1 (thn (ha pos pins s σ H _ I h) fun us s1 ⟨vs, H1, I1, r1, q1⟩ => ?_) hs rfl))
  obtain ⟨j, rfl, ⟨q1, q2⟩, q⟩ : ∃ j, vs = [.int j] ∧ (-(2 ^ 62) ≤ j ∧ j < 2 ^ 62) ∧ R (Itr 0 j.toNat) H1 := by
    dsimp only at q1
    split at q1
    · exact ⟨_, rfl, q1⟩
    · exact q1.elim
  cases r1 with
  | cons r rr =>
    cases rr
    obtain ⟨t, rfl⟩ := r
    exact call_range_1 (range_it I1 (by omega) (by omega) q1 q2 (by simpa using q))
end
/-! ### targets and slice bounds that compute -/
section
variable {X : Cx}
def cgNil : TGs := fun vs σ H Q => match vs with | [] => Q σ H | _ => False
def cgCons (t : TG) (u : TGs) : TGs := fun vs σ H Q => match vs with | v :: r => t v σ H fun σ' H' => u r σ' H' Q | [] => False
theorem qgs_nil : PGs X [] cgNil := fun pins s σ H vs us Q I r h => pgs_nil pins s σ H vs us Q I r (by
  unfold cgNil at h
  split at h
  · exact ⟨rfl, h⟩
  · exact h.elim)
theorem qgs_cons {e : Expr} {es : List Expr} {t : TG} {u : TGs} (h1 : PG X e t) (h2 : PGs X es u)
    (hs : (assignEach (e :: es) X.env).map (·.2) = assign e X.env :: (assignEach es X.env).map (·.2) := by rfl) : PGs X (e :: es) (cgCons t u) := fun pins s σ H vs us Q I r h => pgs_cons h1 h2 hs pins s σ H vs us Q I r (by
  unfold cgCons at h
  split at h
  · exact ⟨_, _, rfl, h⟩
  · exact h.elim)
def cgTup (K : PySem.W.Frag) (n : Nat) (t : TGs) : TG := fun v σ H Q => match v with | .ref a => ∃ xs, SqT K H a xs ∧ xs.length = n ∧ t xs σ H Q | _ => False
theorem qg_tup {es : List Expr} {k : Nat} {t : TGs} {n : Nat} {pos : Pos} (hc : X.calm = true) (h : PGs X es t)
    (hn : (assignEach es X.env).length = n := by rfl) (hst : (assignEach es X.env).findIdx? (·.1) = none := by rfl) : PG X (.Tuple es k pos) (cgTup X.K n t) := fun pins s σ H v u Q I r hw => pg_tup hc h hn hst pins s σ H v u Q I r (by
  unfold cgTup at hw
  split at hw
  · obtain ⟨xs, h⟩ := hw; exact ⟨_, xs, rfl, h⟩
  · exact hw.elim)
def cPart (t : TE) : TO := fun σ H Q => t σ H fun x H1 => match x with | .int i => Q (some i) H1 | _ => False
theorem qo_some {e : Expr} {te : TE} (h : PE X e te) : PO X (some e) (cPart te) := by
  intro pins s σ H Q I hw
  rw [evalPart_some]
  refine thn (h pins s σ H _ I hw) fun u s1 ⟨x, H1, I1, r1, q1⟩ => ?_
  obtain ⟨i, rfl, q⟩ : ∃ i, x = .int i ∧ Q (some i) H1 := by
    dsimp only at q1
    split at q1
    · exact ⟨_, rfl, q1⟩
    · exact q1.elim
  obtain ⟨t, rfl⟩ := r1
  exact ⟨some i, H1, I1, .int i t, q⟩
end
/-! ### own exception classes: which is under which -/
structure ExM (K : PySem.W.Frag) (C : Addr) (pre : List Value) : Prop where
  mro : ∃ cd, PySem.W.clsIn K C = some cd ∧ cd.mro = pre ++ veMro
  ty : PySem.W.typeIn K (.ref C) = some (.type "type")
section
open PySem.W
variable {K : PySem.W.Frag} {C D : Addr} {pre pre' : List Value}
end
end L2

end
section
set_option Elab.async false
set_option linter.all false
set_option maxRecDepth 100000
set_option maxHeartbeats 4000000
namespace L2
open PySem PySem.Spec PyProof.Rows
theorem ifB.ndec {c : Prop} [Decidable c] {p q : Prop} (h1 : c → q) (h2 : ¬ c → p) : ifB (!decide c) p q := ifB.mk (fun z => h2 (by simpa using z)) fun z => h1 (by simpa using z)
section
variable {X : Cx}
theorem kept_it {s : Shared} {h' : Heap} {o : Obj} (hk : ∀ b x, b ∉ [s.heap.objs.size] → (s.heap.push o).get? b = some x → h'.get? b = some x) : ∀ b x, s.heap.get? b = some x → h'.get? b = some x :=
  fun b x e => hk b x (fun hm => by rw [List.mem_singleton.mp hm] at e; exact Nat.lt_irrefl _ (Heap.lt_size e)) (Heap.get?_push_of_some _ e)
theorem vals_bl : ∀ {bs : List Bool} {us : List Value}, Vals (bs.map V.bl) us → us = bs.map Value.bool
  | [], us, r => by cases r; rfl
  | b :: bs, us, r => by
    rw [List.map_cons] at r
    cases r with
    | cons r1 r2 => cases r1; rw [vals_bl r2]; rfl
theorem range_allB (bs : List Bool) : ((List.range bs.length).all fun i => (bs[i]?).getD true) = bs.all id := by
  rw [Bool.eq_iff_iff, List.all_eq_true, List.all_eq_true]
  constructor
  · intro h b hb
    obtain ⟨i, hi, e⟩ := List.getElem_of_mem hb
    have := h i (List.mem_range.mpr hi)
    simp only [List.getElem?_eq_getElem hi, Option.getD_some, e] at this
    exact this
  · intro h i hi
    have hi' := List.mem_range.mp hi
    simp only [List.getElem?_eq_getElem hi', Option.getD_some]
    exact h _ (List.getElem_mem hi')
/-- all(a list of truths) -/
def cAll (K : PySem.W.Frag) : List V → Hp → VK → Prop := fun xs H Q => match xs with | [.ref p] => ∃ bs : List Bool, SqL K H p (bs.map V.bl) ∧ Q (.bl (bs.all id)) H | _ => False
theorem q_all (hc : X.calm = true) : CallR X (.builtin "all") (cAll X.K) := by
  intro pins s σ H xs us Q I r h
  unfold cAll at h
  split at h
  · rename_i p
    obtain ⟨bs, hq, q⟩ := h
    cases r with
    | cons r rr =>
      cases rr
      cases r
      obtain ⟨its, rv, pl, hz⟩ := I.list hq
      have e := vals_bl rv
      subst e
      have hl := pl.isList
      have hlt : p < s.heap.objs.size := by obtain ⟨_, e, _⟩ := hl; exact Heap.lt_size e
      refine call_all_walk (wpAny_pyIter_list hl ?_)
      refine ⟨s.heap.objs.size, [s.heap.objs.size, p], [s.heap.objs.size], (bs.map Value.bool).toArray.size, _, _, fun i => (bs[i]?).getD true, rfl, Walks.list (A := X.A.in1) (I.ok.hd hc) _ p (Nat.ne_of_lt hlt) (bs.map Value.bool).toArray,
        ⟨⟨_, Heap.get?_push_size _ rfl, rfl, rfl⟩, hl.push _⟩, fun i v s' Q' E' hP hQ => ?_, fun h' tk hk => ?_⟩
      · have hP : (bs.map Value.bool)[i]? = some v := by simpa using hP
        rw [List.getElem?_map] at hP
        obtain ⟨b, e, rfl⟩ := Option.map_eq_some_iff.1 hP
        simp only [e, Option.getD_some] at hQ
        exact wpAny_truthy_bool hQ
      · have e : ((List.range (bs.map Value.bool).toArray.size).all fun i => (bs[i]?).getD true) = bs.all id := by
          rw [List.size_toArray, List.length_map]; exact range_allB bs
        rw [e]
        exact ⟨.bl _, H, I.kept (t' := tk) (kept_it hk), rfl, q⟩
  · exact h.elim
/-- list(a list, a tuple) -/
def cListOf (K : PySem.W.Frag) : List V → Hp → VK → Prop := fun xs H Q => match xs with | [.ref p] => ∃ ys, (SqL K H p ys ∨ SqT K H p ys) ∧ ∀ l, H l = none → Q (.ref l) (upd H l (.lst ys)) | _ => False
theorem q_listOf : CallR X (.type "list") (cListOf X.K) := call_list_of.imp fun xs H Q h => by
  unfold cListOf at h
  split at h
  · obtain ⟨ys, h⟩ := h; exact ⟨_, ys, rfl, h⟩
  · exact h.elim
end
theorem range_pick {α : Type} : ∀ l : List α, (List.range l.length).filterMap (fun k => l[k]?) = l
  | [] => rfl
  | x :: l => by
    rw [List.length_cons, List.range_succ_eq_map, List.filterMap_cons, List.filterMap_map]
    show x :: _ = _
    congr 1
    exact range_pick l
theorem filterMap_same {α β : Type} {f g : α → Option β} : ∀ {l : List α}, (∀ a ∈ l, f a = g a) → l.filterMap f = l.filterMap g
  | [], _ => rfl
  | a :: l, h => by
    rw [List.filterMap_cons, List.filterMap_cons, h a (by simp), filterMap_same fun b hb => h b (by simp [hb])]
section
variable {prog : Program} {w : World} {A : Around} {E : Value → Shared → Prop} {s : Shared}
end
section
variable {X : Cx} {e st : Expr} {te : TE} {ts : TO} {pos p2 : Pos}
end
/-! ### the same, the world's own facts named -/
section
variable {X : Cx} {K : PySem.W.Frag} {tg l e st : Expr} {tl te : TE} {ts : TO} {pos p2 : Pos}
theorem q_ixLK (hK : X.K = K) : IxR X (cIxL K) := hK ▸ q_ixL
theorem q_ixTK (hK : X.K = K) : IxR X (cIxT K) := hK ▸ q_ixT
theorem q_slLK (hK : X.K = K) : SlR X (cSlL K) := hK ▸ q_slL
theorem q_lenK (hK : X.K = K) : CallR X (.builtin "len") (cLen K) := hK ▸ q_len
theorem q_isiK (hK : X.K = K) : CallR X (.builtin "isinstance") (cIsi K) := hK ▸ q_isi
theorem q_inK (hK : X.K = K) : OpR X (compareOp .In) (cIn K false) := hK ▸ q_in
theorem q_allK (hK : X.K = K) (hc : X.calm = true) : CallR X (.builtin "all") (cAll K) := hK ▸ q_all hc
theorem q_listOfK (hK : X.K = K) : CallR X (.type "list") (cListOf K) := hK ▸ q_listOf
theorem qi_listK (hK : X.K = K) (hl : PE X l tl) : PI X tg l (cList K tl) := hK ▸ qi_list hl
theorem qi_tupK (hK : X.K = K) (hl : PE X l tl) : PI X tg l (cTupI K tl) := hK ▸ qi_tup hl
theorem qg_tupK {es : List Expr} {k : Nat} {t : TGs} {n : Nat} (hK : X.K = K) (hc : X.calm = true) (h : PGs X es t)
    (hn : (assignEach es X.env).length = n := by rfl) (hst : (assignEach es X.env).findIdx? (·.1) = none := by rfl) : PG X (.Tuple es k pos) (cgTup K n t) := hK ▸ qg_tup hc h hn hst
end
end L2

end
section
set_option Elab.async false
set_option linter.all false
set_option maxRecDepth 100000
set_option maxHeartbeats 4000000
namespace L2
open PySem PySem.Spec PyProof.Rows
/-! ### machines: what they are, and how they lie -/
abbrev En := List Int
abbrev Ma := List (List En)
def entryOk (rows signs : Int) : En → Bool
  | [] => true
  | [s, w, r] => (decide (0 ≤ s) && decide (s < signs)) && (decide (w = -1) || decide (w = 1)) && (decide (0 ≤ r) && decide (r < rows))
  | _ => false
def rowOk (rows signs : Int) (es : List En) : Bool := decide ((es.length : Int) = signs) && es.all (entryOk rows signs)
def isM (m : Ma) : Bool := match m with
  | [] => false
  | r0 :: _ => decide (m.length ≤ 4) && decide (2 ≤ r0.length) && decide (r0.length ≤ 4) && m.all (rowOk m.length r0.length)
theorem atI_toNat {α : Type} {xs : List α} {i : Int} {v : α} (h0 : 0 ≤ i) (h : xs[i.toNat]? = some v) : atI xs i = some v := by
  obtain ⟨j, rfl⟩ := Int.eq_ofNat_of_zero_le h0
  exact atI_nat h
/-! cells and what stands there, one by one -/
def All2 {α : Type} (R : Addr → α → Prop) (as : List Addr) (xs : List α) : Prop := as.length = xs.length ∧ ∀ (i : Nat) (a : Addr) (x : α), as[i]? = some a → xs[i]? = some x → R a x
section
variable {α : Type} {R S : Addr → α → Prop} {as : List Addr} {xs : List α}
theorem All2.nil : All2 R [] [] := ⟨rfl, fun i a x h => by simp at h⟩
theorem All2.mono (h : All2 R as xs) (i : ∀ a x, a ∈ as → R a x → S a x) : All2 S as xs := ⟨h.1, fun k a x ha hx => i a x (List.mem_of_getElem? ha) (h.2 k a x ha hx)⟩
theorem All2.app (h : All2 R as xs) {a : Addr} {x : α} (r : R a x) : All2 R (as ++ [a]) (xs ++ [x]) := by
  refine ⟨by simp [h.1], fun i b y hb hy => ?_⟩
  by_cases hi : i < as.length
  · rw [List.getElem?_append_left hi] at hb
    rw [List.getElem?_append_left (h.1 ▸ hi)] at hy
    exact h.2 i b y hb hy
  · have e : i = as.length := by
      have := (List.getElem?_eq_some_iff.1 hb).1
      simp at this; omega
    subst e
    rw [List.getElem?_append_right (Nat.le_refl _), Nat.sub_self] at hb
    rw [h.1, List.getElem?_append_right (Nat.le_refl _), Nat.sub_self] at hy
    cases hb; cases hy; exact r
theorem All2.at (h : All2 R as xs) {i : Nat} {a : Addr} (ha : as[i]? = some a) : ∃ x, xs[i]? = some x ∧ R a x := by
  have hi := (List.getElem?_eq_some_iff.1 ha).1
  have hi' : i < xs.length := h.1 ▸ hi
  exact ⟨xs[i], List.getElem?_eq_getElem hi', h.2 i a _ ha (List.getElem?_eq_getElem hi')⟩
theorem All2.take (h : All2 R as xs) (i : Nat) : All2 R (as.take i) (xs.take i) := by
  refine ⟨by rw [List.length_take, List.length_take, h.1], fun k b y hb hy => ?_⟩
  rw [List.getElem?_take] at hb hy
  split at hb
  · rename_i e; rw [if_pos e] at hy; exact h.2 _ b y hb hy
  · cases hb
end
def Ent (H : Hp) (a : Addr) (e : En) : Prop := H a = some (.tup (e.map V.int))
def RowA (H : Hp) (r : Addr) (as : List Addr) (es : List En) : Prop := H r = some (.lst (as.map V.ref)) ∧ All2 (Ent H) as es
def Row (H : Hp) (r : Addr) (es : List En) : Prop := ∃ as, RowA H r as es
def MaR (H : Hp) (p : Addr) (rs : List Addr) (m : Ma) : Prop := H p = some (.lst (rs.map V.ref)) ∧ rs.Nodup ∧ All2 (Row H) rs m
def Mach (H : Hp) (p : Addr) (m : Ma) : Prop := ∃ rs, MaR H p rs m
theorem ref_inj {as bs : List Addr} (h : as.map V.ref = bs.map V.ref) : as = bs := by
  induction as generalizing bs with
  | nil => cases bs with
    | nil => rfl
    | cons b bs => cases h
  | cons a as ih => cases bs with
    | nil => cases h
    | cons b bs =>
      rw [List.map_cons, List.map_cons] at h
      injection h with h1 h2
      injection h1 with h1
      rw [h1, ih h2]
section
variable {H H' : Hp} {p r a : Addr} {rs as : List Addr} {m : Ma} {es : List En} {e : En}
/-- how what stands there may change: the tuples and the lists of references stay -/
structure Stay (H H' : Hp) : Prop where
  tup : ∀ a xs, H a = some (.tup xs) → H' a = some (.tup xs)
  refs : ∀ a (as : List Addr), H a = some (.lst (as.map V.ref)) → H' a = some (.lst (as.map V.ref))
theorem Stay.sub (S : Sub H H') : Stay H H' := ⟨fun _ _ h => S _ _ h, fun _ _ h => S _ _ h⟩
theorem Ent.stay (S : Stay H H') (h : Ent H a e) : Ent H' a e := S.tup _ _ h
theorem RowA.stay (S : Stay H H') (h : RowA H r as es) : RowA H' r as es := ⟨S.refs _ _ h.1, h.2.mono fun _ _ _ z => z.stay S⟩
theorem Row.stay (S : Stay H H') : Row H r es → Row H' r es := fun ⟨as, h⟩ => ⟨as, h.stay S⟩
theorem MaR.stay (S : Stay H H') (h : MaR H p rs m) : MaR H' p rs m := ⟨S.refs _ _ h.1, h.2.1, h.2.2.mono fun _ _ _ z => z.stay S⟩
theorem Mach.stay (S : Stay H H') : Mach H p m → Mach H' p m := fun ⟨rs, h⟩ => ⟨rs, h.stay S⟩
/-- no row is the machine's own list -/
theorem MaR.ne (h : MaR H p rs m) (hr : r ∈ rs) : r ≠ p := by
  rintro rfl
  obtain ⟨i, hi, e⟩ := List.getElem_of_mem hr
  obtain ⟨es, _, as, h1, h2⟩ := h.2.2.at (List.getElem?_eq_some_iff.2 ⟨hi, e⟩)
  rw [h.1] at h1
  injection h1 with h1
  injection h1 with h1
  have := ref_inj h1
  subst this
  obtain ⟨e, _, h3⟩ := h2.at (List.getElem?_eq_some_iff.2 ⟨hi, e⟩)
  have h3 : H r = some (.tup _) := h3
  rw [h.1] at h3
  cases h3
theorem Ent.upd {l : Addr} {vs us : List V} (h : Ent H a e) (hl : H l = some (.lst vs)) : Ent (L2.upd H l (.lst us)) a e := by
  show L2.upd H l (.lst us) a = _
  rw [upd_ne]
  · exact h
  · rintro rfl
    have h : H a = some (.tup _) := h
    rw [hl] at h; cases h
theorem RowA.upd {l : Addr} {vs us : List V} (h : RowA H r as es) (hl : H l = some (.lst vs)) (ne : r ≠ l) : RowA (L2.upd H l (.lst us)) r as es :=
  ⟨by rw [upd_ne ne]; exact h.1, h.2.mono fun _ _ _ z => z.upd hl⟩
theorem Row.upd {l : Addr} {vs us : List V} (h : Row H r es) (hl : H l = some (.lst vs)) (ne : r ≠ l) : Row (L2.upd H l (.lst us)) r es := h.elim fun as h => ⟨as, h.upd hl ne⟩
/-- one more row -/
theorem MaR.app (h : MaR H p rs m) (hr : Row H r es) (hn : r ∉ rs) (hp : r ≠ p) : MaR (L2.upd H p (.lst ((rs ++ [r]).map V.ref))) p (rs ++ [r]) (m ++ [es]) := by
  refine ⟨upd_same, ?_, (h.2.2.mono fun b y hb z => z.upd h.1 (h.ne hb)).app (hr.upd h.1 hp)⟩
  rw [List.nodup_append]
  exact ⟨h.2.1, by simp, fun a ha b hb => by rw [List.mem_singleton.1 hb]; rintro rfl; exact hn ha⟩
/-- one more entry -/
theorem RowA.app (h : RowA H r as es) (he : Ent H a e) : RowA (L2.upd H r (.lst ((as ++ [a]).map V.ref))) r (as ++ [a]) (es ++ [e]) :=
  ⟨upd_same, (h.2.mono fun _ _ _ z => z.upd h.1).app (he.upd h.1)⟩
theorem RowA.app' (h : RowA H r as es) (he : Ent H a e) : RowA (L2.upd H r (.lst (as.map V.ref ++ [V.ref a]))) r (as ++ [a]) (es ++ [e]) := by
  have := h.app he
  rw [List.map_append] at this
  exact this
theorem MaR.app' (h : MaR H p rs m) (hr : Row H r es) (hn : r ∉ rs) (hp : r ≠ p) : MaR (L2.upd H p (.lst (rs.map V.ref ++ [V.ref r]))) p (rs ++ [r]) (m ++ [es]) := by
  have := h.app hr hn hp
  rw [List.map_append] at this
  exact this
/-- another list changes -/
theorem MaR.other {l : Addr} {vs us : List V} (h : MaR H p rs m) (hl : H l = some (.lst vs)) (np : l ≠ p) (nr : l ∉ rs) : MaR (L2.upd H l (.lst us)) p rs m :=
  ⟨by rw [upd_ne np.symm]; exact h.1, h.2.1, h.2.2.mono fun b y hb z => z.upd hl (by rintro rfl; exact nr hb)⟩
theorem dens_int : ∀ ns : List Int, Dens H (ns.map V.int) (ns.map DD.int)
  | [] => by rw [List.map_nil, List.map_nil, Dens]
  | n :: ns => by rw [List.map_cons, List.map_cons, Dens]; exact ⟨_, _, rfl, by rw [Den], dens_int ns⟩
abbrev dE (e : En) : DD := .tup (e.map DD.int)
abbrev dR (es : List En) : DD := .lst (es.map dE)
abbrev dM (m : Ma) : DD := .lst (m.map dR)
theorem Ent.den (h : Ent H a e) : Den H (.ref a) (dE e) := by rw [dE, Den]; exact ⟨_, _, rfl, h, dens_int e⟩
theorem dens_of {α : Type} {f : α → DD} {R : Addr → α → Prop} (hR : ∀ a x, R a x → Den H (.ref a) (f x)) : ∀ {as : List Addr} {xs : List α}, All2 R as xs → Dens H (as.map V.ref) (xs.map f)
  | [], [], _ => by rw [List.map_nil, List.map_nil, Dens]
  | a :: as, x :: xs, h => by
    rw [List.map_cons, List.map_cons, Dens]
    exact ⟨_, _, rfl, hR a x (h.2 0 a x rfl rfl), dens_of hR ⟨by have := h.1; simpa using this, fun i b y hb hy => h.2 (i + 1) b y hb hy⟩⟩
  | [], _ :: _, h => by have := h.1; simp at this
  | _ :: _, [], h => by have := h.1; simp at this
theorem Row.den : Row H r es → Den H (.ref r) (dR es) := fun ⟨as, h1, h2⟩ => by rw [dR, Den]; exact ⟨_, _, rfl, h1, dens_of (fun _ _ z => z.den) h2⟩
theorem Mach.den : Mach H p m → Den H (.ref p) (dM m) := fun ⟨rs, h1, _, h2⟩ => by rw [dM, Den]; exact ⟨_, _, rfl, h1, dens_of (fun _ _ z => z.den) h2⟩
theorem depL_leK {k : Nat} : ∀ {ds : List DD}, (∀ d ∈ ds, dep d ≤ k) → depL ds ≤ k
  | [], _ => by rw [depL]; omega
  | d :: ds, h => by rw [depL]; exact Nat.max_le.2 ⟨h d (by simp), depL_leK fun x hx => h x (by simp [hx])⟩
theorem dep_dE : dep (dE e) ≤ 1 := by
  rw [dE, dep]
  have : depL (e.map DD.int) ≤ 0 := depL_leK fun d hd => by
    obtain ⟨i, _, rfl⟩ := List.mem_map.1 hd
    exact Nat.le_refl 0
  omega
theorem dep_dR : dep (dR es) ≤ 2 := by
  rw [dR, dep]
  have : depL (es.map dE) ≤ 1 := depL_leK fun d hd => by
    obtain ⟨i, _, rfl⟩ := List.mem_map.1 hd
    exact dep_dE
  omega
theorem dep_dM : dep (dM m) ≤ 60 := by
  rw [dM, dep]
  have : depL (m.map dR) ≤ 2 := depL_leK fun d hd => by
    obtain ⟨i, _, rfl⟩ := List.mem_map.1 hd
    exact dep_dR
  omega
end
theorem MaR.out {H : Hp} {p q : Addr} {rs : List Addr} {m : Ma} (h : MaR H p rs m) (n : H q = none) : q ∉ rs := fun z => by
  obtain ⟨j, hj, e⟩ := List.getElem_of_mem z
  obtain ⟨es, _, as, h1, _⟩ := h.2.2.at (List.getElem?_eq_some_iff.2 ⟨hj, e⟩)
  rw [n] at h1; cases h1
theorem MaR.outp {H : Hp} {p q : Addr} {rs : List Addr} {m : Ma} (h : MaR H p rs m) (n : H q = none) : q ≠ p := fun z => by
  have := h.1
  rw [← z, n] at this; cases this
/-! ### the purse -/
section
variable {pp : Addr} {k : Int} {A B C : Hp}
end
end L2

end
section
set_option Elab.async false
set_option linter.all false
set_option maxRecDepth 100000
set_option maxHeartbeats 4000000
namespace L2
open PySem PySem.Spec PyProof.Rows PySem.W
/-! ### the sort of any length, the keys all different -/
section
variable {M : Model} {A : Around} {E : Value → Shared → Prop} {s : Shared} {kf : Keyed → Int} {G : Keyed → Prop} {κ : SortKind}
end
/-! ### two lists in order come to one -/
section
variable {kf : Keyed → Int} {G : Keyed → Prop}
variable {base o ra rb xs : List Keyed}
/-! by arrays -/
variable {a b out : Array Keyed} {ia ib k : Nat} {x y : Keyed}
end
section
variable {M : Model} {A : Around} {E : Value → Shared → Prop} {s : Shared} {kf : Keyed → Int} {G : Keyed → Prop} {κ : SortKind}
set_option hygiene false in
/-- from the second half on: x of a at I is below all of b that is left at J -/
local macro_rules | `(tactic| walk_at "loEnd") => `(tactic| (
  refine wpS_bind (elem_ok hx ?_)
  have S4 := S3.pushA hx hi2
  refine wpS_ite (fun e => ?_) fun e => ?_
  · exact wpS_pure ⟨_, rfl, .inl ⟨_, rfl, S4.lastA (by simpa using e) T.lst⟩⟩
  have e2 : I + 1 + 1 ≠ a.size := by simpa using e
  refine wpS_ite (fun _ => ?_) fun _ => ?_
  · exact wpS_pure ⟨_, rfl, .inr ⟨_, _, _, _, _, _, rfl, S4, by omega, by omega, by omega⟩⟩
  · exact wpS_pure ⟨_, rfl, _, _, _, _, _, _, rfl, S4, by omega, by omega, by omega⟩))
set_option hygiene false in
/-- from the first half on: y of b at ib is below all of a that is left at I -/
local macro_rules | `(tactic| walk_at "loTail") => `(tactic| (
  refine wpS_bind (elem_ok hy ?_)
  have S2 := S1.pushB hy hi
  refine wpS_ite (fun e => ?_) fun e => ?_
  · have e0 : ib + 1 = b.size := by simpa using e
    exact wpS_pure ⟨_, rfl, .inl ⟨_, rfl, S2.done (.inr (by omega))⟩⟩
  have e1 : ib + 1 ≠ b.size := by simpa using e
  obtain ⟨x, hx⟩ := at_some (a := a) (ia := I) (by omega)
  refine wpS_bind (elem_ok hx ?_)
  obtain ⟨L, hL, cutb⟩ := T.cutB (mem_at hx) (bs := ib + 1) (n := b.size - (ib + 1)) (by omega)
  refine wpS_bind (gallop_ok C (K := L) hk (T.ga x (mem_at hx)) cutb (by omega) hL ?_)
  dsimp only
  obtain ⟨S3, hi2⟩ := AI.galB S2 hx cutb
  refine wpS_ite (fun _ => ?_) fun eL => ?_
  · refine wpS_ite (fun e => ?_) fun e => ?_
    · have e0 : ib + 1 + L = b.size := by simpa using e
      exact wpS_pure ⟨_, rfl, .inl ⟨_, rfl, S3.done (.inr (by omega))⟩⟩
    have e3 : ib + 1 + L ≠ b.size := by simpa using e
    walk_at "loEnd"
  · obtain rfl : L = 0 := by omega
    have S3 := S2
    walk_at "loEnd"))
end
/-! ### and from the other end -/
section
variable {kf : Keyed → Int} {G : Keyed → Prop}
variable {a b out : Array Keyed} {na nb k : Nat} {x y : Keyed}
end
section
variable {M : Model} {A : Around} {E : Value → Shared → Prop} {s : Shared} {kf : Keyed → Int} {G : Keyed → Prop} {κ : SortKind}
set_option hygiene false in
/-- from the second half on: x of a at I is above all of b that is left at J -/
local macro_rules | `(tactic| walk_at "hiEnd") => `(tactic| (
  refine wpS_bind (elem_ok hx ?_)
  have S4 := S3.pushA' (by omega) hx hi2
  refine wpS_ite (fun e => ?_) fun e => ?_
  · have e0 : I - 1 = 0 := by simpa using e
    exact wpS_pure ⟨_, rfl, .inl ⟨_, rfl, S4.done (.inl e0)⟩⟩
  have e2 : I - 1 ≠ 0 := by simpa using e
  refine wpS_ite (fun _ => ?_) fun _ => ?_
  · exact wpS_pure ⟨_, rfl, .inr ⟨_, _, _, _, _, _, rfl, S4, by omega, by omega, by omega, by omega, by omega⟩⟩
  · exact wpS_pure ⟨_, rfl, _, _, _, _, _, _, rfl, S4, by omega, by omega, by omega, by omega, by omega⟩))
set_option hygiene false in
/-- from the first half on: y of b at nb - 1 is above all of a that is left at I -/
local macro_rules | `(tactic| walk_at "hiTail") => `(tactic| (
  refine wpS_bind (elem_ok hy ?_)
  have S2 := S1.pushB' (by omega) hy hi
  refine wpS_ite (fun e => ?_) fun e => ?_
  · have e0 : nb - 1 = 1 := by simpa using e
    exact wpS_pure ⟨_, rfl, .inl ⟨_, rfl, S2.firstB e0 T.hd⟩⟩
  have e1 : nb - 1 ≠ 1 := by simpa using e
  obtain ⟨x, hx⟩ := at_some (a := a) (ia := I - 1) (by omega)
  refine wpS_bind (elem_ok hx ?_)
  obtain ⟨L, hL, cutb⟩ := T.cutB (mem_at hx) (bs := 0) (n := nb - 1) (by omega)
  refine wpS_bind (gallop_ok C (K := L) hk (T.ga x (mem_at hx)) cutb (by omega) hL ?_)
  dsimp only
  obtain ⟨S3, hi2, hL1⟩ := HI.galB T S2 (by omega) hx (by omega) hL cutb
  refine wpS_ite (fun _ => ?_) fun eL => ?_
  · refine wpS_ite (fun e => ?_) fun e => ?_
    · have e0 : L = 1 := by simpa using e
      exact wpS_pure ⟨_, rfl, .inl ⟨_, rfl, S3.firstB e0 T.hd⟩⟩
    have e3 : L ≠ 1 := by simpa using e
    rw [if_neg (by simp; omega)]
    walk_at "hiEnd"
  · obtain rfl : L = nb - 1 := by omega
    clear S3
    have S3 := S2
    walk_at "hiEnd"))
end
/-! ### runs -/
section
variable {M : Model} {A : Around} {E : Value → Shared → Prop} {s : Shared} {kf : Keyed → Int} {G : Keyed → Prop} {κ : SortKind}
end
section
variable {M : Model} {A : Around} {E : Value → Shared → Prop} {s : Shared} {kf : Keyed → Int} {G : Keyed → Prop} {κ : SortKind}
end
section
variable {M : Model} {A : Around} {E : Value → Shared → Prop} {s : Shared} {kf : Keyed → Int} {G : Keyed → Prop} {κ : SortKind}
set_option hygiene false in
/-- behind a run of nn at lo: the merges that are due, and the run laid to the others -/
local macro_rules | `(tactic| walk_at "runTail") => `(tactic| (
  refine wpS_bind (wpS_get ?_)
  have push : ∀ (us : Array Keyed) (P' : Array (Nat × Nat × Nat)) (g' : Nat), us.Perm xs → Chain kf us 0 P'.toList lo → Seg kf us lo (lo + nn) → ∃ ys P g, SortSt.mk' κ us (P'.push (lo, nn, 0)) g' none = SortSt.mk' κ ys P g none ∧ ys.Perm xs ∧ ∃ lo', ((none : Option Unit), lo + nn) = (none, lo') ∧ i + 1 ≤ lo' ∧ lo' ≤ xs.size ∧ Chain kf ys 0 P.toList lo' :=
    fun us P' g' pm ch sg => ⟨us, _, g', rfl, pm, lo + nn, rfl, by omega, by omega, by rw [Array.toList_push]; exact Chain.app.2 ⟨lo, ch, rfl, nn1, sg, rfl⟩⟩
  obtain hb | ⟨⟨s1, n1', pw'⟩, hb⟩ : P.back? = none ∨ ∃ t, P.back? = some t := by cases P.back? <;> simp
  · have hb' : (pendingOf (SortSt.mk' κ zs P g none)).back? = none := hb
    rw [hb']
    exact wpS_bind (wpS_modify (wpS_pure (push zs P g pmz chz sgz)))
  · have hb' : (pendingOf (SortSt.mk' κ zs P g none)).back? = some (s1, n1', pw') := hb
    rw [hb']
    dsimp only
    refine wpS_bind (wpS_mono (wpS_forRange (I := fun _ c st' => c = (none, ()) ∧ ∃ us P' g', st' = SortSt.mk' κ us P' g' none ∧ us.Perm xs ∧ Chain kf us 0 P'.toList lo ∧ Seg kf us lo (lo + nn))
      (Q := fun c st' => c = (none, ()) ∧ ∃ us P' g', st' = SortSt.mk' κ us P' g' none ∧ us.Perm xs ∧ Chain kf us 0 P'.toList lo ∧ Seg kf us lo (lo + nn)) ?_ (fun _ _ h => h) ⟨rfl, zs, P, g, rfl, pmz, chz, sgz⟩) ?_)
    · rintro j c st' _ _ ⟨rfl, us, P', g', rfl, pm', ch', sg'⟩
      refine wpS_bind (wpS_get ?_)
      by_cases hs : 1 < P'.size
      · have hs' : (pendingOf (SortSt.mk' κ us P' g' none)).size > 1 := hs
        rw [if_pos hs']
        obtain ⟨⟨q1, q2, q3⟩, hq⟩ : ∃ t, P'[P'.size - 2]? = some t := ⟨_, Array.getElem?_eq_getElem (by omega)⟩
        have hq' : (pendingOf (SortSt.mk' κ us P' g' none))[(pendingOf (SortSt.mk' κ us P' g' none)).size - 2]? = some (q1, q2, q3) := hq
        rw [hq']
        dsimp only
        refine wpS_ite (fun _ => wpS_pure ⟨rfl, us, P', g', rfl, pm', ch', sg'⟩) fun _ => ?_
        have szu := pm'.size_eq
        refine wpS_bind (mergeChain C (hg.perm pm') ch' (by omega) (i := P'.size - 2) (by omega) fun vs P'' g'' pv kv cv _ => ?_)
        rw [if_neg (by simp)]
        exact wpS_pure ⟨rfl, vs, P'', g'', rfl, pv.trans pm', cv, sg'.congr fun k k1 _ => kv k k1⟩
      · have hs' : ¬ (pendingOf (SortSt.mk' κ us P' g' none)).size > 1 := hs
        rw [if_neg hs']
        exact wpS_pure ⟨rfl, us, P', g', rfl, pm', ch', sg'⟩
    · rintro c st' ⟨rfl, us, P', g', rfl, pm', ch', sg'⟩
      dsimp only
      refine wpS_bind (wpS_modify (wpS_bind (wpS_modify (wpS_pure (push us _ g' pm' ?_ sg')))))
      rw [Array.toList_modify]
      refine Chain.pow ?_ _ ch'
      exact fun t => ⟨rfl, rfl⟩))
end
end L2

end
section
set_option Elab.async false
set_option linter.all false
set_option maxRecDepth 100000
set_option maxHeartbeats 4000000
namespace L2
open PySem PySem.Spec PyProof.Rows PySem.W
/-! ### list.sort of tuples that begin with different ints -/
section
variable {prog : Program} {w : World} {A : Around} {E : Value → Shared → Prop} {s : Shared}
end
end L2

end
section
set_option Elab.async false
set_option linter.all false
set_option maxRecDepth 100000
set_option maxHeartbeats 4000000
namespace L2
open PySem PySem.Spec PyProof.Rows PySem.W
/-! ### several new objects at once -/
section
variable {X : Cx} {pins : List (Addr × Obj)} {σ : St} {H H' : Hp} {s : Shared} {h' : Heap}
end
/-! ### the items of a dict of ints -/
abbrev tI (q : Int × V) : HO := .tup [.int q.1, q.2]
/-! ### d.items(), sorted(d.items()), sorted(a list of tuples) -/
section
variable {X : Cx}
end
end L2

end
section
set_option Elab.async false
set_option linter.all false
set_option maxRecDepth 100000
set_option maxHeartbeats 4000000
namespace PySem
open Sem (wp)
section
variable {prog : Program} {w : World} {A : Around} {E : Value → Shared → Prop} {h : Heap} {g : Array GenState} {d : Drawn} {t : Nat} {os : OsState} {a : Addr} {o : Obj} {its : Array Value} {n : Nat}
end
end PySem

end
section
set_option Elab.async false
set_option linter.all false
set_option maxRecDepth 100000
set_option maxHeartbeats 4000000
namespace L2
open PySem PySem.Spec PyProof.Rows PySem.W
section
variable {prog : Program} {w : World} {K : Type} [DecidableEq K] {knd : PySem.KeyKind prog w K} {A : Around} {s : Shared} {R : Result → Shared → Prop}
end
section
variable {X : Cx}
end
end L2

end
section
set_option Elab.async false
set_option linter.all false
set_option maxRecDepth 100000
set_option maxHeartbeats 4000000
namespace PySem
end PySem
namespace L2
open PySem PySem.Spec PyProof.Rows PySem.W HT
section
variable {prog : Program} {w : World} {A : Around} {E : Value → Shared → Prop} {s : Shared}
end
section
variable {X : Cx} {K : PySem.W.Frag}
end
/-- a def that may raise, where it doesn't -/
theorem FnOk.noE {P : Program} {w : World} {K : PySem.W.Frag} {mg : Str → Option Value} {base : Heap} {k : Nat} {f : Addr} {fd : FuncData} {ps : List Str} {sp : Sp} (F : FnOk P w K mg base (CXE P w) k f fd ps sp) :
    FnOk P w K mg base CX0 k f fd ps (fun vs H Q _ => sp vs H Q fun _ _ _ => False) :=
  ⟨fun vs H Q _ h => F.len vs H Q _ h, fun A outer s H args us vs Q E hr he hb hv hs => codeAny_mono (F.run A outer s H args us vs Q (fun _ _ _ => False) hr he hb hv hs) fun r s' hq => by
    cases r with
    | ok fl => cases fl <;> exact hq
    | error e =>
      obtain ⟨x, C, B, hr, a0, H', _, _, _, _, _, _, _, _, _, _, z⟩ := hq
      exact z.elim⟩
end L2

end
section
set_option Elab.async false
set_option linter.all false
set_option maxRecDepth 100000
set_option maxHeartbeats 4000000
namespace L2
open PySem PySem.Spec PyProof.Rows PySem.W
/-! ### marks: a list of places and signs -/
abbrev Mk2 := List (Int × Int)
abbrev iv (ks : Mk2) : List (Int × V) := ks.map fun q => (q.1, V.int q.2)
/-! ### the one order -/
/-! ### strips and setups as they lie -/
section
variable {H H' : Hp} {l t : Addr} {ks : Mk2} {r p : Int}
def Strip (H : Hp) (l : Addr) (ks : Mk2) : Prop := ∃ as : List Addr, H l = some (.lst (as.map V.ref)) ∧ All2 (fun b q => H b = some (tI q)) as (iv ks)
theorem Strip.sub (S : Sub H H') : Strip H l ks → Strip H' l ks := fun ⟨as, h1, h2⟩ => ⟨as, S _ _ h1, h2.mono fun _ _ _ z => S _ _ z⟩
theorem Strip.stay (S : Stay H H') : Strip H l ks → Strip H' l ks := fun ⟨as, h1, h2⟩ => ⟨as, S.refs _ _ h1, h2.mono fun _ _ _ z => S.tup _ _ z⟩
abbrev dP (q : Int × Int) : DD := .tup [.int q.1, .int q.2]
abbrev dL (ks : Mk2) : DD := .lst (ks.map dP)
theorem Strip.den : Strip H l ks → Den H (.ref l) (dL ks) := fun ⟨as, h1, h2⟩ => by
  rw [dL, Den]
  refine ⟨_, _, rfl, h1, dens_of (R := fun b q => H b = some (tI (q.1, V.int q.2))) (f := dP) (fun a q z => ?_) ⟨by rw [h2.1, List.length_map], fun i a q ha hq => h2.2 i a _ ha (by rw [List.getElem?_map, hq]; rfl)⟩⟩
  rw [dP, Den]
  refine ⟨_, _, rfl, z, ?_⟩
  rw [Dens]
  refine ⟨_, _, rfl, by rw [Den], ?_⟩
  rw [Dens]
  exact ⟨_, _, rfl, by rw [Den], by rw [Dens]⟩
end
/-! ### what a machine is, from its rows -/
def okAll (m : Ma) (s : Nat) (r : List En) : Bool := r.all (entryOk m.length s)
theorem isM_cons {r0 : List En} {m' : Ma} (h : isM (r0 :: m') = true) : (r0 :: m').length ≤ 4 ∧ 2 ≤ r0.length ∧ r0.length ≤ 4 ∧ ∀ r ∈ r0 :: m', r.length = r0.length ∧ okAll (r0 :: m') r0.length r = true := by
  have hd : isM (r0 :: m') = (decide ((r0 :: m').length ≤ 4) && decide (2 ≤ r0.length) && decide (r0.length ≤ 4) && (r0 :: m').all (rowOk (r0 :: m').length r0.length)) := rfl
  rw [hd, Bool.and_eq_true, Bool.and_eq_true, Bool.and_eq_true] at h
  obtain ⟨⟨⟨h1, h2⟩, h3⟩, h4⟩ := h
  refine ⟨of_decide_eq_true h1, of_decide_eq_true h2, of_decide_eq_true h3, fun r hr => ?_⟩
  have := List.all_eq_true.1 h4 r hr
  unfold rowOk at this
  rw [Bool.and_eq_true] at this
  exact ⟨by have := of_decide_eq_true this.1; omega, this.2⟩
theorem isM_mk {r0 : List En} {m' : Ma} (h1 : (r0 :: m').length ≤ 4) (h2 : 2 ≤ r0.length) (h3 : r0.length ≤ 4) (h4 : ∀ r ∈ r0 :: m', r.length = r0.length ∧ okAll (r0 :: m') r0.length r = true) : isM (r0 :: m') = true := by
  have hd : isM (r0 :: m') = (decide ((r0 :: m').length ≤ 4) && decide (2 ≤ r0.length) && decide (r0.length ≤ 4) && (r0 :: m').all (rowOk (r0 :: m').length r0.length)) := rfl
  rw [hd, decide_eq_true h1, decide_eq_true h2, decide_eq_true h3]
  refine List.all_eq_true.2 fun r hr => ?_
  unfold rowOk
  rw [(h4 r hr).1]
  have := (h4 r hr).2
  unfold okAll at this
  rw [this]
  simp
/-- the signs of a machine -/
def sgn (m : Ma) : Nat := (m.headD []).length
structure OkM (m : Ma) : Prop where
  n1 : 1 ≤ m.length
  n4 : m.length ≤ 4
  s2 : 2 ≤ sgn m
  s4 : sgn m ≤ 4
  len : ∀ r ∈ m, r.length = sgn m
  ent : ∀ r ∈ m, ∀ e ∈ r, entryOk m.length (sgn m) e = true
theorem OkM.of {m : Ma} (h : isM m = true) : OkM m := by
  cases m with
  | nil => cases h
  | cons r0 m' =>
    obtain ⟨h1, h2, h3, h4⟩ := isM_cons h
    exact ⟨by simp, h1, h2, h3, fun r hr => (h4 r hr).1, fun r hr e he => List.all_eq_true.1 (h4 r hr).2 e he⟩
theorem entryOk_three {rows signs : Int} {e : En} (h : entryOk rows signs e = true) (ne : e ≠ []) : ∃ s w r, e = [s, w, r] ∧ 0 ≤ s ∧ s < signs ∧ (w = -1 ∨ w = 1) ∧ 0 ≤ r ∧ r < rows := by
  match e, h with
  | [], _ => exact (ne rfl).elim
  | [s, w, r], h =>
    have h : ((decide (0 ≤ s) && decide (s < signs)) && (decide (w = -1) || decide (w = 1)) && (decide (0 ≤ r) && decide (r < rows))) = true := h
    simp only [Bool.and_eq_true, Bool.or_eq_true, decide_eq_true_eq] at h
    obtain ⟨⟨⟨a, b⟩, c⟩, d, e⟩ := h
    exact ⟨s, w, r, rfl, a, b, c, d, e⟩
  | [_], h => cases h
  | [_, _], h => cases h
  | _ :: _ :: _ :: _ :: _, h => cases h
/-! ### an object of the class of walks -/
theorem dep_dE1 (e : En) : dep (dE e) ≤ 60 := Nat.le_trans dep_dE (by decide)
theorem eqD_dE {e : En} : eqD (dE e) (dE []) = decide (e = []) := by
  cases e with
  | nil => rw [eqD_refl]; simp
  | cons x e => show eqD (.tup (.int x :: e.map DD.int)) (.tup []) = _; rw [eqD]; simp [eqDs]
/-! ### what the law goes through: rows, places, signs with noughts among them -/
/-! ### a machine mirrored -/
end L2

end
section
set_option Elab.async false
set_option linter.all false
set_option maxRecDepth 100000
set_option maxHeartbeats 4000000
namespace L2
open PySem PySem.Spec PyProof.Rows PySem.W
section
variable {X : Cx} {pos : Pos}
def cMax2 : List V → Hp → VK → Prop := fun xs H Q => match xs with | [.int i, .int j] => ∀ m, m = (if i < j then j else i) → Q (.int m) H | _ => False
theorem q_max2 (hc : X.calm = true) : CallR X (.builtin "max") cMax2 := (call_max2 hc).imp fun xs H Q h => by
  unfold cMax2 at h
  split at h
  · exact ⟨_, _, rfl, h _ rfl⟩
  · exact h.elim
end
/-! ### a walk's states, up to a count -/
/-! ### what a run tells -/
theorem ixN_end {n : Nat} (h : 1 ≤ n) : ixN n (-1) = some (n - 1) := by
  unfold ixN
  rw [if_neg (by decide), if_pos (by omega)]
  congr 1
  omega
theorem atI_end {α : Type} {xs : List α} {v : α} (h : xs[xs.length - 1]? = some v) : atI xs (-1) = some v := by
  have hl := (List.getElem?_eq_some_iff.1 h).1
  unfold atI
  rw [ixN_end (by omega)]
  exact h
end L2

end
section
set_option Elab.async false
set_option linter.all false
set_option maxRecDepth 100000
set_option maxHeartbeats 4000000
namespace L2
open PySem PySem.Spec PyProof.Rows PySem.W
/-! ### for x, y in zip(xs, ys) -/
section
variable {X : Cx}
end
end L2

end
section
set_option Elab.async false
set_option linter.all false
set_option maxRecDepth 100000
set_option maxHeartbeats 4000000
namespace L2
open PySem PySem.Spec PyProof.Rows PySem.W
/-! ### marks in another order -/
/-! ### walks: all states are good; more steps; the next one -/
/-! ### the other way round -/
/-! ### tuple(a list) -/
section
variable {X : Cx} {K : PySem.W.Frag}
end
theorem cut_tail {xs : List V} (h : 1 ≤ xs.length) : cutV xs (some 1) none = xs.drop 1 := by
  unfold cutV
  rw [show HT.sIx xs.length xs.length none = xs.length from rfl, show (1 : Int) = ((1 : Nat) : Int) from rfl, HT.sIx_nat, Nat.min_eq_left h, List.take_of_length_le (by rw [List.length_drop]; omega)]
end L2

end
section
set_option Elab.async false
set_option linter.all false
set_option maxRecDepth 100000
set_option maxHeartbeats 4000000
namespace L2
open PySem PySem.Spec PyProof.Rows PySem.W
section
variable {X : Cx}
end
/-! ### two dicts of whole numbers compared, in tuples of a row, a place and a dict -/
section
variable {X : Cx} {pins : List (Addr × Obj)} {σ : St} {H : Hp} {s : Shared}
open PySem.SeqAt
end
/-! ### where two walks part -/
end L2

end
section
set_option Elab.async false
set_option linter.all false
set_option maxRecDepth 100000
set_option maxHeartbeats 4000000
namespace L2
open PySem PySem.Spec PyProof.Rows PySem.W
/-! ### texts of numbers -/
section
variable {X : Cx}
end
section
variable {X : Cx}
def cInt1 : List V → Hp → VK → Prop := fun xs H Q => match xs with | [.bl k] => Q (.int (if k then 1 else 0)) H | [.int i] => Q (.int i) H | _ => False
theorem q_int1 : CallR X (.type "int") cInt1 := call_int1.imp fun xs H Q h => by
  unfold cInt1 at h
  split at h
  · exact .inr ⟨_, rfl, h⟩
  · exact .inl ⟨_, rfl, h⟩
  · exact h.elim
end
section
variable {X : Cx} {K : PySem.W.Frag} {o e : Expr} {es : List Expr} {to : TE} {t : TA} {name : Str} {apos cpos : Pos} {T id : String} {r : V → List V → Hp → VK → Prop}
end
/-! ### f-texts -/
section
variable {X : Cx} {e e1 e2 e3 : Expr} {te t1 t2 t3 : TE} {pos : Pos}
/-! ### a dict of the text's own, made once -/
variable {K : PySem.W.Frag} {o i : Expr} {td ty : TE}
end
/-! ### xs.count(True), xs.index(True) of truths -/
section
variable {X : Cx}
end
end L2

end
section
set_option Elab.async false
set_option linter.all false
set_option maxRecDepth 100000
set_option maxHeartbeats 4000000
namespace L2
open PySem PySem.Spec PyProof.Rows PySem.W
/-! ### xs += ys -/
section
variable {X : Cx}
/-! ### xs.pop() -/
def cPop0 : V → List V → Hp → VK → Prop := fun x vs H Q => match x, vs with | .ref l, [] => ∃ xs y, H l = some (.lst xs) ∧ xs.getLast? = some y ∧ Q y (upd H l (.lst xs.dropLast)) | _, _ => False
theorem q_pop0 : MtR X "list.pop" cPop0 := MtR.imp (r := rPop) mt_pop fun x vs H Q h => by
  cases x with
  | ref l =>
    cases vs with
    | nil =>
      obtain ⟨xs, y, h1, h2, q⟩ := h
      rw [List.getLast?_eq_getElem?] at h2
      exact ⟨l, xs, y, rfl, rfl, h1, h2, q⟩
    | cons _ _ => exact h.elim
  | _ => exact h.elim
/-! ### xs[::-1] -/
end
section
variable {X : Cx} {K : PySem.W.Frag} {e st : Expr} {te : TE} {ts : TO} {pos p2 : Pos}
theorem pick_revL (its : List Value) : slicePick its.toArray none none (some (-1)) = its.reverse.toArray := by
  unfold slicePick
  have e : sliceBounds none none (some (-1)) its.toArray.size = ((its.length : Int) - 1, -1, -1) := rfl
  rw [e]
  have e2 : sliceRange ((its.length : Int) - 1) (-1) (-1) = (List.range its.length).map fun (k : Nat) => ((its.length : Int) - 1 + (-1) * (k : Int)).toNat := by
    unfold sliceRange
    have h1 : ¬ ((-1 : Int) > 0) := by omega
    have h2 : (- (-1 : Int)) = 1 := rfl
    simp only [h1, if_false, h2, Int.ediv_one]
    congr 2
    split <;> omega
  show (List.filterMap (fun x => its.toArray[x]?) (sliceRange ((its.length : Int) - 1) (-1) (-1))).toArray = _
  rw [e2, List.filterMap_map]
  congr 1
  have := range_pick its.reverse
  rw [List.length_reverse] at this
  refine Eq.trans (filterMap_same fun m hm => ?_) this
  have hm := List.mem_range.1 hm
  rw [List.getElem?_reverse hm]
  show its.toArray[_]? = _
  rw [List.getElem?_toArray]
  congr 1
  show ((its.length : Int) - 1 + -1 * (m : Int)).toNat = _
  omega
def tRevL (K : PySem.W.Frag) (te : TE) (ts : TO) : TE := fun σ H Q => te σ H fun x H1 => ts σ H1 fun o H2 => o = some (-1) ∧ match x with
  | .ref a => ∃ xs, SqL K H2 a xs ∧ ∀ p, H2 p = none → Q (.ref p) (upd H2 p (.lst xs.reverse))
  | _ => False
theorem pe_revL (he : PE X e te) (hs : PO X (some st) ts) : PE X (.Subscript e (.Slice none none (some st) p2) pos) (tRevL X.K te ts) := by
  intro pins s σ H Q I h
  refine Subscript_ (thn (he pins s σ H _ I h) fun v s1 ⟨x, H1, I1, r1, q1⟩ => ?_)
  refine wpAny_Slice ?_
  rw [evalPart_none]
  refine wpAny_pure (wpAny_pure (thn (hs pins s1 σ H1 _ I1 q1) fun vs s3 z => ?_))
  obtain ⟨o, H3, I3, ps, eo, q3⟩ := z
  subst eo
  cases x with
  | ref a =>
    obtain ⟨xs, hx, q⟩ := q3
    cases ps with
    | int _ tk =>
    cases r1
    have I4 : Inv X pins σ H3 { s3 with heap := s3.heap.push { cls := .type "slice", data := .fields #[.none, .none, .int (-1) tk] } } := I3.kept (t' := s3.toks) fun b ob q => Heap.get?_push_of_some _ q
    obtain ⟨its, r, ht, hz⟩ := I4.list hx
    have hlen := r.length
    refine tail_any (ops := [.ref a, .ref s3.heap.objs.size]) ht.isList.typeIs slot_list_getitem.lookup ?_ (by with_unfolding_all rfl)
    refine wpAny_getItem_list_slice ht.isList (Heap.IsSliceOf.new ..) .none .none (.int _ _) (by decide) ?_ (by rw [List.size_toArray] <;> omega)
    rw [pick_revL]
    refine ⟨.ref _, _, I4.laid (t' := s3.toks) (o := .lst xs.reverse) (fun b ob q => Heap.get?_push_of_some _ q) (Nat.le_refl _) ?_, rfl, q _ (I4.hok.fresh (Nat.le_refl _))⟩
    exact ⟨by rw [List.length_reverse]; exact hz, _, 0, r.reverse, Heap.get?_push_size _ rfl⟩
  | _ => exact q3.elim
theorem pe_revLK (hK : X.K = K) (he : PE X e te) (hs : PO X (some st) ts) : PE X (.Subscript e (.Slice none none (some st) p2) pos) (tRevL K te ts) := hK ▸ pe_revL he hs
end
/-! ### zip, its end told -/
/-! ### runs, the nearest one first -/
def laid (rs : Mk2) (s m : Int) : Mk2 :=
  if m = 0 ∨ (rs = [] ∧ s = 0) then rs else match rs with
    | [] => [(s, m)]
    | q :: r => if q.1 = s then (s, q.2 + m) :: r else (s, m) :: q :: r
theorem laid_no {rs : Mk2} {s m : Int} (h : m = 0 ∨ (rs = [] ∧ s = 0)) : laid rs s m = rs := by unfold laid; rw [if_pos h]
theorem laid_nil {s m : Int} (h : ¬ (m = 0 ∨ (([] : Mk2) = [] ∧ s = 0))) : laid [] s m = [(s, m)] := by unfold laid; rw [if_neg h]
theorem laid_on {q : Int × Int} {r : Mk2} {s m : Int} (h : ¬ m = 0) (e : q.1 = s) : laid (q :: r) s m = (s, q.2 + m) :: r := by
  unfold laid; rw [if_neg (by rintro (z | ⟨z, _⟩); exact h z; cases z)]; show (if q.1 = s then _ else _) = _; rw [if_pos e]
theorem laid_off {q : Int × Int} {r : Mk2} {s m : Int} (h : ¬ m = 0) (e : ¬ q.1 = s) : laid (q :: r) s m = (s, m) :: q :: r := by
  unfold laid; rw [if_neg (by rintro (z | ⟨z, _⟩); exact h z; cases z)]; show (if q.1 = s then _ else _) = _; rw [if_neg e]
theorem laid_len (rs : Mk2) (s m : Int) : (laid rs s m).length ≤ rs.length + 1 := by
  by_cases h : m = 0 ∨ (rs = [] ∧ s = 0)
  · rw [laid_no h]; omega
  · cases rs with
    | nil => rw [laid_nil h]; simp
    | cons q r =>
      by_cases e : q.1 = s
      · rw [laid_on (fun z => h (.inl z)) e]; simp
      · rw [laid_off (fun z => h (.inl z)) e]; simp
def lays (rs xs : Mk2) : Mk2 := xs.foldl (fun r q => laid r q.1 q.2) rs
theorem lays_app (rs xs ys : Mk2) : lays rs (xs ++ ys) = lays (lays rs xs) ys := List.foldl_append
theorem lays_one (rs : Mk2) (q : Int × Int) : lays rs [q] = laid rs q.1 q.2 := rfl
theorem lays_len : ∀ (xs rs : Mk2), (lays rs xs).length ≤ rs.length + xs.length
  | [], _ => by show _ ≤ _; exact Nat.le_refl _
  | q :: xs, rs => by
    have h1 := lays_len xs (laid rs q.1 q.2)
    have h2 := laid_len rs q.1 q.2
    show (lays (laid rs q.1 q.2) xs).length ≤ _
    rw [List.length_cons]
    omega
/-! ### lists of pairs -/
theorem den_nil {H : Hp} {p : Addr} (h : H p = some (.lst [])) : Den H (.ref p) (.lst []) := by rw [Den]; exact ⟨_, _, rfl, h, rfl⟩
theorem eqD_nil (rs : Mk2) : eqD (dL rs) (.lst []) = decide (rs = []) := by
  cases rs with
  | nil => rfl
  | cons q r => rfl
theorem dep_dL2 (rs : Mk2) : dep (dL rs) ≤ 3 := by
  rw [dL, dep]
  have : depL (rs.map dP) ≤ 2 := depL_le fun d hd => by
    obtain ⟨q, _, rfl⟩ := List.mem_map.1 hd
    show dep (.tup [.int q.1, .int q.2]) ≤ 2
    rw [dep]
    have : depL [DD.int q.1, DD.int q.2] ≤ 1 := depL_le fun d hd => by
      simp at hd
      rcases hd with rfl | rfl <;> simp [dep]
    omega
  omega
theorem dep_dLs (rs : Mk2) : dep (dL rs) ≤ 60 := Nat.le_trans (dep_dL2 rs) (by decide)
/-- a new list with one more ahead -/
theorem Strip.ahead {H : Hp} {p b : Addr} {as : List Addr} {rs : Mk2} {q : Int × Int} (h : H p = some (.lst ([V.ref b] ++ as.map V.ref))) (hb : H b = some (tI (q.1, V.int q.2))) (hA : All2 (fun b q => H b = some (tI q)) as (iv rs)) : Strip H p (q :: rs) :=
  ⟨b :: as, h, by rw [List.length_cons, hA.1, List.length_map, List.length_map, List.length_cons], fun i a x ha hx => by
    cases i with
    | zero => cases ha; cases hx; exact hb
    | succ i => exact hA.2 i a x ha hx⟩
theorem All2.tail {α : Type} {R : Addr → α → Prop} {a : Addr} {as : List Addr} {x : α} {xs : List α} (h : All2 R (a :: as) (x :: xs)) : R a x ∧ All2 R as xs :=
  ⟨h.2 0 a x rfl rfl, by have := h.1; simpa using this, fun i b y hb hy => h.2 (i + 1) b y hb hy⟩
theorem sa_app {H : Hp} {p b : Addr} {as : List Addr} {ks : Mk2} {q : Int × Int} (h : H p = some (.lst (as.map V.ref))) (hA : All2 (fun b q => H b = some (tI q)) as (iv ks)) (hb : H b = some (tI (q.1, V.int q.2))) :
    (upd H p (.lst (as.map V.ref ++ [V.ref b]))) p = some (.lst ((as ++ [b]).map V.ref)) ∧ All2 (fun x q => (upd H p (.lst (as.map V.ref ++ [V.ref b]))) x = some (tI q)) (as ++ [b]) (iv (ks ++ [q])) := by
  have ne : ∀ (c : Addr) (x : Int × V), H c = some (tI x) → c ≠ p := fun c x hc z => by rw [z, h] at hc; cases hc
  refine ⟨by rw [upd_same, List.map_append]; rfl, ?_⟩
  rw [show iv (ks ++ [q]) = iv ks ++ [(q.1, V.int q.2)] by simp]
  exact (hA.mono fun c x _ z => by rw [upd_ne (ne c x z)]; exact z).app (by rw [upd_ne (ne b _ hb)]; exact hb)
theorem All2.rev {α : Type} {R : Addr → α → Prop} {as : List Addr} {xs : List α} (h : All2 R as xs) : All2 R as.reverse xs.reverse := by
  refine ⟨by rw [List.length_reverse, List.length_reverse]; exact h.1, fun i a x ha hx => ?_⟩
  have hi : i < as.length := by have := (List.getElem?_eq_some_iff.1 ha).1; rw [List.length_reverse] at this; exact this
  rw [List.getElem?_reverse hi] at ha
  rw [List.getElem?_reverse (by rw [← h.1]; exact hi), ← h.1] at hx
  exact h.2 _ a x ha hx
theorem sa_rev {H : Hp} {p : Addr} {as : List Addr} {ks : Mk2} (h : H p = some (.lst (as.map V.ref).reverse)) (hA : All2 (fun b q => H b = some (tI q)) as (iv ks)) :
    H p = some (.lst (as.reverse.map V.ref)) ∧ All2 (fun b q => H b = some (tI q)) as.reverse (iv ks.reverse) := by
  refine ⟨by rw [h, List.map_reverse], ?_⟩
  rw [show iv ks.reverse = (iv ks).reverse by simp]
  exact All2.rev hA
theorem snoc_at {H : Hp} {as : List Addr} {ks : Mk2} {q : Int × Int} (hA : All2 (fun b q => H b = some (tI q)) as (iv (ks ++ [q]))) : ∃ bs b, as = bs ++ [b] ∧ H b = some (tI (q.1, V.int q.2)) ∧ All2 (fun b q => H b = some (tI q)) bs (iv ks) := by
  have e : iv (ks ++ [q]) = iv ks ++ [(q.1, V.int q.2)] := by simp
  rw [e] at hA
  have hl : as.length = ks.length + 1 := by rw [hA.1, List.length_append, List.length_map]; rfl
  have hn : as ≠ [] := by rintro rfl; simp at hl
  refine ⟨as.dropLast, as.getLast hn, (List.dropLast_concat_getLast hn).symm, ?_, ?_⟩
  · refine hA.2 ks.length _ _ ?_ ?_
    · rw [← List.getLast?_eq_some_getLast hn, List.getLast?_eq_getElem?, hl]; rfl
    · rw [List.getElem?_append_right (by simp)]; simp
  · have := hA.take ks.length
    rw [List.take_left' (by simp)] at this
    rw [List.dropLast_eq_take, hl]
    exact this
theorem strip_upd {H : Hp} {l p : Addr} {ks : Mk2} {vs us : List V} (h : Strip H l ks) (hp : H p = some (.lst vs)) (ne : l ≠ p) : Strip (upd H p (.lst us)) l ks := by
  obtain ⟨as, h1, h2⟩ := h
  refine ⟨as, by rw [upd_ne ne]; exact h1, h2.mono fun c x _ z => ?_⟩
  have : c ≠ p := by rintro rfl; rw [hp] at z; cases z
  rw [upd_ne this]
  exact z
abbrev d3 (A : Mk2) (v : Int) (B : Mk2) : DD := .tup [dL A, .int v, dL B]
theorem den3 {H : Hp} {q a b : Addr} {v : Int} {A B : Mk2} (h : H q = some (.tup [.ref a, .int v, .ref b])) (ha : Strip H a A) (hb : Strip H b B) : Den H (.ref q) (d3 A v B) := by
  rw [d3, Den]
  refine ⟨_, _, rfl, h, ?_⟩
  rw [Dens]
  refine ⟨_, _, rfl, ha.den, ?_⟩
  rw [Dens]
  refine ⟨_, _, rfl, by rw [Den], ?_⟩
  rw [Dens]
  exact ⟨_, _, rfl, hb.den, by rw [Dens]⟩
theorem dep_d3 (A : Mk2) (v : Int) (B : Mk2) : dep (d3 A v B) ≤ 60 := by
  rw [d3, dep]
  have : depL [dL A, .int v, dL B] ≤ 4 := depL_le fun d hd => by
    simp only [List.mem_cons, List.not_mem_nil, or_false] at hd
    rcases hd with rfl | rfl | rfl
    · exact Nat.le_trans (dep_dL2 A) (by decide)
    · simp [dep]
    · exact Nat.le_trans (dep_dL2 B) (by decide)
  omega
end L2

end
section
set_option Elab.async false
set_option linter.all false
set_option maxRecDepth 100000
set_option maxHeartbeats 4000000
namespace L2
open PySem PySem.Spec PyProof.Rows
/-! ### a comprehension whose own name an inner one sees: the name has a cell, behind the block's own dict -/
def compEnvY (sc : Scope) (cl : List (Str × Addr)) (C : Addr) (env : Env) (y : Str) : Env := { compEnvC sc cl C env with cells := (y, C + 1) :: cl }
def compCxC (X : Cx) (sc : Scope) (own : List Str) (fr : List Nat) (C : Addr) (s₀ : Shared) (H₀ : Hp) (ex : List Addr) (y : Str) : Cx :=
  { compCx X sc own fr C s₀ H₀ ex with env := compEnvY sc (closOf sc X.env) C X.env y, fn := fun x => decide (x = y) }
theorem fn_y {X : Cx} {sc : Scope} {own : List Str} {fr : List Nat} {C : Addr} {s₀ : Shared} {H₀ : Hp} {ex : List Addr} {y : Str} : (compCxC X sc own fr C s₀ H₀ ex y).fn y = true := decide_eq_true rfl
structure CompScopeC (X : Cx) (sc : Scope) (fr : List Nat) (y : Str) : Prop where
  kind : sc.kind = .function
  one : sc.names.filter (fun x => x.2 == .cell) = [(y, .cell)]
  names : ∀ y ∈ sc.names, y.2 = .local → sc.names.lookup y.1 = some .local
  yk : sc.names.lookup y = some .cell
  frees : FreesOk X (freeNames sc)
  fr : FrOk X sc fr
theorem newEnv_one {M : Model} {A : Around} {E : Value → Shared → Prop} {s : Shared} {sc : Scope} {globals : Addr} {cl : List (Str × Addr)} {qual : Str} {env : Env} {y : Str} {Q : Env → Shared → Prop}
    (h1 : sc.names.filter (fun x => x.2 == .cell) = [(y, .cell)])
    (h : Q { scope := sc, locals := s.heap.objs.size, globals := globals, cells := (y, s.heap.objs.size + 1) :: cl, qual := qual, func := none, code := env.code, frame := env.frame, builtins := env.builtins }
      { s with heap := (s.heap.push { cls := .type "dict", data := .dict #[] }).push { cls := .type "cell", data := .cell none } }) :
    wpAny M A (newFunctionEnv sc globals cl [] qual none .none (some env)) Q E s := by
  have key0 : ∀ (l : List (Str × NameKind)) (cs : List (Str × Addr)), l.filter (fun x => x.2 == .cell) = [] →
      (forIn l cs fun (x : Str × NameKind) (r : List (Str × Addr)) => (if (x.2 == NameKind.cell) = true then (do let a ← alloc { cls := .type "cell", data := .cell none }; pure (ForInStep.yield ((x.1, a) :: r))) else pure (ForInStep.yield r) : Sem (ForInStep (List (Str × Addr)))))
        = pure cs := by
    intro l
    induction l with
    | nil => intro cs _; rfl
    | cons x r ih =>
      intro cs hx
      rw [List.filter_cons] at hx
      split at hx
      · cases hx
      · rename_i e1
        rw [List.forIn_cons, if_neg e1]
        show (forIn r cs _ : Sem _) = _
        exact ih cs hx
  have key : ∀ (l : List (Str × NameKind)) (cs : List (Str × Addr)), l.filter (fun x => x.2 == .cell) = [(y, .cell)] →
      (forIn l cs fun (x : Str × NameKind) (r : List (Str × Addr)) => (if (x.2 == NameKind.cell) = true then (do let a ← alloc { cls := .type "cell", data := .cell none }; pure (ForInStep.yield ((x.1, a) :: r))) else pure (ForInStep.yield r) : Sem (ForInStep (List (Str × Addr)))))
        = (do let a ← alloc { cls := .type "cell", data := .cell none }; pure ((y, a) :: cs)) := by
    intro l
    induction l with
    | nil => intro cs hx; cases hx
    | cons x r ih =>
      intro cs hx
      rw [List.filter_cons] at hx
      split at hx
      · rename_i e1
        injection hx with hx hr
        subst hx
        rw [List.forIn_cons, if_pos (show ((y, NameKind.cell).2 == NameKind.cell) = true from rfl)]
        show (do let a ← alloc { cls := .type "cell", data := .cell none }; forIn r ((y, a) :: cs) _ : Sem _) = _
        congr 1
        funext a
        exact key0 r _ hr
      · rename_i e1
        rw [List.forIn_cons, if_neg e1]
        show (forIn r cs _ : Sem _) = _
        exact ih cs hx
  unfold newFunctionEnv
  refine wpAny_bind (wpAny_alloc ?_)
  have k2 := key sc.names cl h1
  refine wpAny_bind ?_
  have e : (forIn sc.names cl fun (x : Str × NameKind) (__s : List (Str × Addr)) => match x with | (name, kind) => if (kind == NameKind.cell) = true then (do let __do_lift ← alloc { cls := .type "cell", data := .cell none }; pure (ForInStep.yield ((name, __do_lift) :: __s))) else pure (ForInStep.yield __s) : Sem _) = (do let a ← alloc { cls := .type "cell", data := .cell none }; pure ((y, a) :: cl)) := by
    refine Eq.trans (congrArg (fun f => (forIn sc.names cl f : Sem (List (Str × Addr)))) (funext fun x => funext fun r => ?_)) k2
    obtain ⟨n, k⟩ := x
    rfl
  refine (show ∀ {α : Type} {u v : Sem α} {Q' : α → Shared → Prop} {s' : Shared}, u = v → wpAny M A v Q' E s' → wpAny M A u Q' E s' from fun h q => h ▸ q) e (wpAny_bind (wpAny_alloc (wpAny_pure ?_)))
  have es : (s.heap.push { cls := .type "dict", data := .dict #[] }).objs.size = s.heap.objs.size + 1 := by simp [Heap.push]
  refine wpAny_bind (wpAny_pure (wpAny_pure ?_))
  show Q { scope := sc, locals := s.heap.objs.size, globals := globals, cells := (y, (s.heap.push { cls := .type "dict", data := .dict #[] }).objs.size) :: cl, qual := qual, func := none, code := env.code, frame := env.frame, builtins := env.builtins } { s with heap := (s.heap.push { cls := .type "dict", data := .dict #[] }).push { cls := .type "cell", data := .cell none } }
  rw [es]
  exact h
/-- what the relabelled table says a cell or a free name is -/
theorem relabel_back2 {env : Env} {x : Str} : ∀ {names : List (Str × NameKind)},
    ((names.map fun (n, k) => if (k == NameKind.free && env.scope.kind == .function && env.kindOf n == some .cell) then (n, NameKind.cell) else (n, k)).lookup x = some .cell ∨
    (names.map fun (n, k) => if (k == NameKind.free && env.scope.kind == .function && env.kindOf n == some .cell) then (n, NameKind.cell) else (n, k)).lookup x = some .free) → (x, NameKind.free) ∈ names ∨ (x, NameKind.cell) ∈ names
  | [], h => by rcases h with h | h <;> cases h
  | (n, k) :: r, h => by
    change (List.lookup x ((if (k == NameKind.free && env.scope.kind == .function && env.kindOf n == some .cell) = true then (n, NameKind.cell) else (n, k)) :: _) = _ ∨
      List.lookup x ((if (k == NameKind.free && env.scope.kind == .function && env.kindOf n == some .cell) = true then (n, NameKind.cell) else (n, k)) :: _) = _) at h
    by_cases hx : x = n
    · subst hx
      cases k with
      | free => exact .inl (by simp)
      | cell => exact .inr (by simp)
      | _ =>
        exfalso
        rw [if_neg (by simp)] at h
        simp [List.lookup] at h
    · have hb : (x == n) = false := by simpa using hx
      have ih := relabel_back2 (env := env) (x := x) (names := r)
      have e : ∀ k', List.lookup x ((n, k') :: r.map fun (n, k) => if (k == NameKind.free && env.scope.kind == .function && env.kindOf n == some .cell) = true then (n, NameKind.cell) else (n, k)) = List.lookup x (r.map fun (n, k) => if (k == NameKind.free && env.scope.kind == .function && env.kindOf n == some .cell) = true then (n, NameKind.cell) else (n, k)) := fun k' => by
        rw [List.lookup_cons, hb]
      rw [show (if (k == NameKind.free && env.scope.kind == .function && env.kindOf n == some .cell) = true then (n, NameKind.cell) else (n, k)) = (n, if (k == NameKind.free && env.scope.kind == .function && env.kindOf n == some .cell) = true then NameKind.cell else k) by split <;> rfl, e] at h
      rcases ih h with q | q
      · exact .inl (List.mem_cons_of_mem _ q)
      · exact .inr (List.mem_cons_of_mem _ q)
section
variable {X : Cx} {sc : Scope} {own : List Str} {fr : List Nat} {pins : List (Addr × Obj)} {σ : St} {H : Hp} {s : Shared} {y : Str}
theorem CompScopeC.cells (S : CompScopeC X sc fr y) (I : Inv X pins σ H s) : ∀ n ∈ freeNames sc, ∃ c, X.env.cells.lookup n = some c := fun n hn => I.ok.has n (S.frees.mem n hn)
theorem CompScopeC.look (S : CompScopeC X sc fr y) (I : Inv X pins σ H s) {x : Str} {c : Addr} (h : (closOf sc X.env).lookup x = some c) : X.env.cells.lookup x = some c := by
  obtain ⟨a, b⟩ := lookup_tab h
  obtain ⟨d, e⟩ := S.cells I x (List.mem_reverse.mp a)
  rw [e] at b
  rw [e, b]
  rfl
theorem CompScopeC.back (S : CompScopeC X sc fr y) (I : Inv X pins σ H s) {x : Str} (hx : x ∈ freeNames sc) : ∃ c, (closOf sc X.env).lookup x = some c ∧ X.env.cells.lookup x = some c := by
  obtain ⟨c, e⟩ := S.cells I x hx
  refine ⟨c, ?_, e⟩
  unfold closOf
  rw [tab_lookup (List.mem_reverse.mpr hx), e]
  rfl
theorem CompScopeC.oney (S : CompScopeC X sc fr y) {x : Str} (h : (x, NameKind.cell) ∈ sc.names) : x = y := by
  have : (x, NameKind.cell) ∈ sc.names.filter (fun x => x.2 == .cell) := List.mem_filter.2 ⟨h, rfl⟩
  rw [S.one] at this
  simp at this
  exact this
theorem look_y {cl : List (Str × Addr)} {x : Str} {c d : Addr} (h : ((y, d) :: cl).lookup x = some c) : (x = y ∧ c = d) ∨ cl.lookup x = some c := by
  rw [List.lookup_cons] at h
  split at h
  · rename_i e
    exact .inl ⟨by simpa using e, (Option.some.inj h).symm⟩
  · exact .inr h
/-- the block's first state -/
theorem inv_compC (S : CompScopeC X sc fr y) {fp : List Addr} (I : Inv X pins σ H s) (hf : ∀ b ∈ fp, FpOk X pins H b) (ho : ∀ b ∈ fp, ∃ o, s.heap.get? b = some o) {h₁ : Heap} {t : Nat}
    (hns : h₁.Ns s.heap.objs.size (fun _ => none)) (hcn : h₁.IsCell (s.heap.objs.size + 1) none) (hk : ∀ b o, s.heap.get? b = some o → h₁.get? b = some o) :
    Inv (compCxC X sc own fr s.heap.objs.size s H fp y) [] (compSt own.length fr σ) H { s with heap := h₁, toks := t } := by
  have ltC : ∀ b o, s.heap.get? b = some o → b ≠ s.heap.objs.size := fun b o e => Nat.ne_of_lt (Heap.lt_size e)
  have cellOld : ∀ x c, (closOf sc X.env).lookup x = some c → ∃ v, s.heap.IsCell c v := fun x c e => I.cell x c (S.look I e)
  refine ⟨⟨I.ok.mod, S.kind, I.ok.glob, I.ok.blt, Nat.le_refl _, fun x z c h1 h2 => ?inj, fun x hx => ?_, fun x c z hl => ?cab, I.ok.hd, I.ok.frames, .inl rfl, fun b hb => ?_, I.bs, Nat.le_trans I.ok.bsz I.sz, fun b o e hb => ?_, fun b hb => ?_, I.stack, I.stkFree⟩,
    rfl, I.bare, Un.kept hk, ⟨_, hns, fun i x v e1 e2 e3 => ?_⟩, fun x c e => ?_, I.hok.fresh (Nat.le_refl _), fun x c e => ?frc, fun p hp => absurd (show p ∈ ([] : List (Addr × Obj)) from hp) (by simp), I.hok.kept hk, ?_⟩
  case inj =>
    rcases look_y h1 with ⟨a1, b1⟩ | a1
    · rcases look_y h2 with ⟨a2, b2⟩ | a2
      · rw [a1, a2]
      · obtain ⟨v, o, ho', _⟩ := cellOld _ _ a2
        exact absurd (Heap.lt_size ho') (by rw [b1]; exact Nat.not_lt.2 (Nat.le_succ _))
    · rcases look_y h2 with ⟨a2, b2⟩ | a2
      · obtain ⟨v, o, ho', _⟩ := cellOld _ _ a1
        exact absurd (Heap.lt_size ho') (by rw [b2]; exact Nat.not_lt.2 (Nat.le_succ _))
      · exact I.ok.inj x z c (S.look I a1) (S.look I a2)
  case cab =>
    have z : x = y := of_decide_eq_true z
    subst z
    have hl : ((x, s.heap.objs.size + 1) :: closOf sc X.env).lookup x = some c := hl
    rw [List.lookup_cons, beq_self_eq_true] at hl
    rw [← Option.some.inj hl]
    exact Nat.le_succ _
  case frc =>
    rcases look_y e with ⟨_, b1⟩ | a1
    · rw [b1]; exact I.hok.fresh (Nat.le_succ _)
    · exact I.freeC x c (S.look I a1)
  · rcases relabel_back2 (env := X.env) hx with this | this
    · obtain ⟨c, e, _⟩ := S.back I (mem_freeNames this)
      by_cases q : x = y
      · exact ⟨s.heap.objs.size + 1, by show List.lookup x ((y, _) :: _) = _; rw [q, List.lookup_cons, beq_self_eq_true]⟩
      · exact ⟨c, by show List.lookup x ((y, _) :: _) = _; rw [List.lookup_cons, show (x == y) = false by simpa using q]; exact e⟩
    · have q := S.oney this
      exact ⟨s.heap.objs.size + 1, by show List.lookup x ((y, _) :: _) = _; rw [q, List.lookup_cons, beq_self_eq_true]⟩
  · obtain ⟨o, e⟩ := ho b hb
    obtain ⟨_, _, _, _, f4, _⟩ := hf b hb
    refine ⟨ltC b o e, fun x c e' => ?_⟩
    rcases look_y e' with ⟨_, b1⟩ | a1
    · exact fun z => absurd (Heap.lt_size e) (by rw [← z, b1]; exact Nat.not_lt.2 (Nat.le_succ _))
    · exact f4 x c (S.look I a1)
  · obtain ⟨_, _, _, f3, _⟩ := hf b hb
    rcases f3 with z | z
    · exact I.ok.noex b o e z
    · exact absurd (Nat.lt_of_lt_of_le (Heap.lt_size e) (Nat.le_trans I.ok.bsz z)) (Nat.lt_irrefl _)
  · obtain ⟨_, f1, f2, _⟩ := hf b hb
    intro z
    rcases List.mem_cons.mp (I.stkSub b z) with q | q
    · exact f1 q
    · exact f2 q
  · -- a name that is bound
    have hi : own.length ≤ i := by
      rcases Nat.lt_or_ge i own.length with z | z
      · exfalso
        change (List.replicate own.length none ++ fr.map fun k => (σ[k]?).join)[i]? = some (some v) at e2
        rw [List.getElem?_append_left (by simpa using z), List.getElem?_replicate, if_pos z] at e2
        cases e2
      · exact z
    change (List.replicate own.length none ++ fr.map fun k => (σ[k]?).join)[i]? = some (some v) at e2
    rw [List.getElem?_append_right (by simpa using hi), List.length_replicate, List.getElem?_map] at e2
    change (own ++ fr.map fun k => X.N.getD k Str.empty)[i]? = some x at e1
    rw [List.getElem?_append_right hi, List.getElem?_map] at e1
    cases e : fr[i - own.length]? with
    | none => rw [e] at e1; cases e1
    | some k =>
      rw [e] at e1 e2
      have e1 : X.N.getD k Str.empty = x := Option.some.inj e1
      have e2 : (σ[k]?).join = some v := Option.some.inj e2
      have e2' : σ[k]? = some (some v) := by
        cases q : σ[k]? with
        | none => rw [q] at e2; cases e2
        | some z => rw [q] at e2; cases z with
          | none => cases e2
          | some z => rw [show z = v from Option.some.inj e2]
      have hkl : k < X.N.length := by
        have := (List.getElem?_eq_some_iff.mp e2').1
        rw [I.len] at this
        exact this
      have e1' : X.N[k]? = some x := by
        rw [List.getElem?_eq_getElem hkl, ← e1]
        simp [List.getD, hkl]
      obtain ⟨q1, q2⟩ := S.fr.mem k (List.mem_of_getElem? e)
      rw [e1] at q1 q2
      have hvis : Vis X.env.scope x := by
        rcases q2 with z | z
        · exact .inr (.inl z)
        · exact .inr (.inr z)
      obtain ⟨m, hn, hl⟩ := I.loc
      obtain ⟨u, r, l⟩ := hl k x v e1' e2' hvis
      refine ⟨u, r, .inr ⟨?_, ?_⟩⟩
      · exact lookup_relabel_free (env := X.env) q1
      · rcases l with ⟨z, _⟩ | ⟨_, c, hc, z⟩
        · exfalso
          have z : X.env.scope.names.lookup x = some .local := z
          rcases q2 with y | y
          · rw [z] at y; cases y
          · rw [z] at y; cases y
        · obtain ⟨c', h1, h2⟩ := S.back I (mem_freeNames (PySem.mem_of_lookup q1))
          rw [hc] at h2
          cases h2
          obtain ⟨o, ho', hd⟩ := z
          have nxy : (x == y) = false := by
            rw [beq_eq_false_iff_ne]
            rintro rfl
            rw [S.yk] at q1; cases q1
          exact ⟨c, by show List.lookup x ((y, _) :: _) = _; rw [List.lookup_cons, nxy]; exact h1, o, hk c o ho', hd⟩
  · rcases look_y e with ⟨_, b1⟩ | a1
    · exact ⟨none, by rw [b1]; exact hcn⟩
    · obtain ⟨v, o, ho', hd⟩ := cellOld x c a1
      exact ⟨v, o, hk c o ho', hd⟩
  · show (List.replicate own.length none ++ fr.map fun k => (σ[k]?).join).length = (own ++ fr.map fun k => X.N.getD k Str.empty).length
    simp
end
section
variable {X : Cx} {sc : Scope} {own : List Str} {fr : List Nat} {e tg iter : Expr} {ifs : List Expr} {emit : Env → Addr → Sem Unit} {wi : TI} {g : TG} {tc : TT} {tm : TM} {acc : HO} {y : Str}

/-- the loop -/
theorem comp_loopC (F : CompForm e tg iter ifs emit) (hc : X.calm = true) {C : Addr} {s₀ : Shared} {H₀ : Hp} {fp : List Addr} {it D : Addr} {tn : Nat → Heap → Prop} {J : It} {R : Result → Shared → Prop} {s : Shared}
    (hg : PG (compCxC X sc own fr C s₀ H₀ fp y) tg g) (ht : PTs (compCxC X sc own fr C s₀ H₀ fp y) ifs tc) (hm : PM (compCxC X sc own fr C s₀ H₀ fp y) emit tm)
    (T : Turn X.prog X.w X.K tg J fp it tn) (hfp : ∀ b ∈ fp, b ≠ C ∧ b ∉ frs X.stack ∧ ∀ x c, ((y, C + 1) :: closOf sc X.env).lookup x = some c → c ≠ b)
    (W : Nat → Nat → St → Hp → Prop) {Q : Hp → Prop} (turn : ∀ i m σ' H', W i m σ' H' → (J.stop i H' ∧ Q H') ∨ (J.go i H' ∧ ∃ N : St → Hp → Prop, (∀ σ2 H2, N σ2 H2 → ∃ m', m' < m ∧ W (i + 1) m' σ2 H2) ∧ ∀ x H2, J.yld i H' x H2 → g x σ' H2 fun σ3 H3 => tc σ3 H3 fun b H4 =>
      if b = true then tm D σ3 H4 (N σ3) else N σ3 H4))
    (hR : ∀ σ' H' s', Inv (compCxC X sc own fr C s₀ H₀ fp y) [] σ' H' s' → Q H' → R (.ok .next) s')
    {m0 : Nat} {σ0 : St} {H0 : Hp} (I0 : Inv (compCxC X sc own fr C s₀ H₀ fp y) [] σ0 H0 s) (st0 : tn 0 s.heap) (fr0 : ∀ b ∈ fp, H0 b = none) (w0 : W 0 m0 σ0 H0) :
    codeAny (model X.prog X.w) X.A (.compLoop e 0 (.ref it) (.ref D) (compEnvY sc (closOf sc X.env) C X.env y)) R s := by
  have stat : ∀ {H' : Hp}, (∀ b ∈ fp, H' b = none) → ∀ b ∈ fp, FpOk (compCxC X sc own fr C s₀ H₀ fp y) [] H' b := fun hn b hb =>
    ⟨hn b hb, (hfp b hb).1, (hfp b hb).2.1, .inl hb, (hfp b hb).2.2, fun p hp => absurd (show p ∈ ([] : List (Addr × Obj)) from hp) (by simp)⟩
  refine codeAny_loop rfl (fun n s' => ∃ i σ' H', Inv (compCxC X sc own fr C s₀ H₀ fp y) [] σ' H' s' ∧ tn i s'.heap ∧ (∀ b ∈ fp, H' b = none) ∧ W i n σ' H') (fun n s hI => ?_) m0 ⟨0, σ0, H0, I0, st0, fr0, w0⟩
  rw [F.under, F.den]
  refine wpAny_noted ?_
  rw [F.turn]
  obtain ⟨i, σ3, H3, I3, st3, fr3, w3⟩ := hI
  have lift : ∀ {α : Type} {t : Sem α} {Q' : α → Shared → Prop} {E : Value → Shared → Prop} {s : Shared}, wpAny (model X.prog X.w) X.A t Q' (fun _ _ => False) s → wpAny (model X.prog X.w) X.A t Q' E s := fun h => wpAny_mono h (fun _ _ q => q) fun _ _ z => z.elim
  refine wpAny_bind (wpAny_standAt (wpAny_bind ?_))
  rcases turn i n σ3 H3 w3 with ⟨stop, qn⟩ | ⟨go, N, hN, step⟩
  · refine lift (thn (T.done (compCxC X sc own fr C s₀ H₀ fp y) rfl rfl rfl hc i [] s σ3 H3 (fun _ _ => False) I3 (stat fr3) st3 stop) fun r s4 ⟨hr, I4⟩ => ?_)
    subst hr
    exact wpAny_pure (hR σ3 H3 s4 I4 qn)
  · refine lift (thn (T.item (compCxC X sc own fr C s₀ H₀ fp y) rfl rfl rfl hc i [] s σ3 H3 (fun _ _ => False) I3 (stat fr3) st3 go) fun r s4 ⟨u, hr, h4⟩ => ?_)
    subst hr
    refine wpAny_bind (lift (thn h4 fun _ s5 ⟨x, H5, I5, r5, y5, st5, fr5⟩ => ?_))
    have I5' := I5.pinned (stat fr5) (T.obj _ _ st5)
    refine wpAny_bind (lift (thn (hg _ s5 σ3 H5 x u _ I5' r5 (step x H5 y5)) fun _ s6 ⟨σ6, H6, I6, q6⟩ => ?_))
    refine wpAny_bind (lift (thn (ht _ s6 σ6 H6 _ I6 q6) fun ok s7 ⟨H7, I7, q7⟩ => ?_))
    have again : ∀ {σ8 : St} {H8 : Hp} {s8 : Shared}, Inv (compCxC X sc own fr C s₀ H₀ fp y) ([] ++ pinsAt fp s5.heap) σ8 H8 s8 → (∃ m', m' < n ∧ W (i + 1) m' σ8 H8) → ∃ m, m < n ∧ ∃ i σ' H', Inv (compCxC X sc own fr C s₀ H₀ fp y) [] σ' H' s8 ∧ tn i s8.heap ∧ (∀ b ∈ fp, H' b = none) ∧ W i m σ' H' := fun {σ8 H8 s8} I8 ⟨m', hm', w8⟩ => by
      refine ⟨m', hm', i + 1, σ8, H8, I8.unpinned, T.keep _ _ _ st5 fun b hb o e => (I8.pin (b, o) (List.mem_append_right _ (List.mem_append_right _ (mem_pinsAt hb e)))).1, fun b hb => ?_, w8⟩
      obtain ⟨o, e, d⟩ := T.obj _ _ st5 b hb
      exact (I8.pin (b, o) (List.mem_append_right _ (List.mem_append_right _ (mem_pinsAt hb e)))).2.1
    cases ok with
    | false => exact wpAny_pure ⟨rfl, again I7 (hN _ _ q7)⟩
    | true =>
      refine wpAny_bind (lift (thn (hm _ s7 σ6 H7 D _ I7 q7) fun _ s8 ⟨H8, I8, q8⟩ => ?_))
      exact wpAny_pure ⟨rfl, again I8 (hN _ _ q8)⟩
end

section
variable {X : Cx} {sc : Scope} {own : List Str} {fr : List Nat} {e tg iter : Expr} {ifs : List Expr} {emit : Env → Addr → Sem Unit} {wi : TI} {g : TG} {tc : TT} {tm : TM} {acc : HO} {y : Str} {newAcc : Sem Value} {pos : Pos}

/-- a comprehension, whatever is done with its value -/
theorem comp_anyC (F : CompForm e tg iter ifs emit) (hc : X.calm = true) (S : CompScopeC X sc fr y) (hi : PI X tg iter wi) (hnew : PNew X newAcc acc)
    (hg : ∀ C s₀ H₀ fp, PG (compCxC X sc own fr C s₀ H₀ fp y) tg g) (ht : ∀ C s₀ H₀ fp, PTs (compCxC X sc own fr C s₀ H₀ fp y) ifs tc) (hm : ∀ C s₀ H₀ fp, PM (compCxC X sc own fr C s₀ H₀ fp y) emit tm)
    (hs : ∀ x, foldedSetIterable iter X.env x = pure x) {use : Option (Value → Sem Unit)} {pins : List (Addr × Obj)} {s : Shared} {σ : St} {H : Hp} {Q : Addr → Hp → Prop} {Q' : Value → Shared → Prop} (I : Inv X pins σ H s)
    (h : tCompB acc wi own.length fr g tc tm σ H Q)
    (hq : ∀ (p C : Addr) (H' : Hp) (s' : Shared) (m : Str → Option Value), Inv X pins σ H' s' → Q p H' → s'.heap.Ns C m → H' C = none → C ≠ X.env.locals → X.s₀.heap.objs.size ≤ C → (∀ x c, X.env.cells.lookup x = some c → c ≠ C) → (∀ q ∈ X.pn ++ pins, q.1 ≠ C) →
      compPost (model X.prog X.w) X.A X.xe use Q' (.ref p) C (.ok .next) s') :
    wpAny (model X.prog X.w) X.A (comprehension e sc X.env pos newAcc false (eval iter X.env) use) Q' X.xe s := by
  obtain ⟨gs, hcl⟩ := F.cl
  refine wpAny_comprehension_free hcl hs (closureFor_of (S.cells I)) S.kind S.names (thn (hi pins s σ H _ I h) fun v s1 h1 => thn h1 fun itv s2 h2 => ?_)
  obtain ⟨it, fp, tn, J, H2, e2, I2, T, st2, f2, q2⟩ := h2
  subst e2
  refine hnew pins s2 σ H2 _ _ I2 fun p s3 np hp k3 os3 I3 => ?_
  obtain ⟨W, ⟨m0, w0⟩, turn⟩ := q2 p np
  refine newEnv_one S.one ?_
  generalize hh₁ : (s3.heap.push { cls := .type "dict", data := .dict #[] }).push { cls := .type "cell", data := .cell none } = h₁
  have hk : ∀ b o, s3.heap.get? b = some o → h₁.get? b = some o := fun b o eb => by rw [← hh₁]; exact Heap.get?_push_of_some _ (Heap.get?_push_of_some _ eb)
  have hns : h₁.Ns s3.heap.objs.size (fun _ => none) := by
    obtain ⟨o, es, ep, q1, q2⟩ := Heap.Ns.new s3.heap (.type "dict")
    rw [← hh₁]
    exact ⟨o, es, ep, Heap.get?_push_of_some _ q1, q2⟩
  have hcn : h₁.IsCell (s3.heap.objs.size + 1) none := by
    rw [← hh₁]
    have es : (s3.heap.push { cls := .type "dict", data := .dict #[] }).objs.size = s3.heap.objs.size + 1 := by simp [Heap.push]
    exact ⟨_, by rw [← es]; exact Heap.get?_push_size _ rfl, rfl⟩
  have ob2 : ∀ b ∈ fp, ∃ o, s2.heap.get? b = some o := fun b hb => let ⟨o, eo, _⟩ := T.obj _ _ st2 b hb; ⟨o, eo⟩
  have fpn : ∀ b ∈ fp, b ≠ p := fun b hb z => by
    obtain ⟨o, eo⟩ := ob2 b hb
    rw [z, hp] at eo
    exact absurd (Heap.lt_size eo) (Nat.lt_irrefl _)
  have f3 : ∀ b ∈ fp, FpOk X pins (upd H2 p acc) b := fun b hb => by
    obtain ⟨a1, a2⟩ := f2 b hb
    exact ⟨by rw [upd_ne (fpn b hb)]; exact a1, a2⟩
  have ob3 : ∀ b ∈ fp, ∃ o, s3.heap.get? b = some o := fun b hb => let ⟨o, eo⟩ := ob2 b hb; ⟨o, k3 b o eo⟩
  have I4 := inv_compC (own := own) (t := s3.toks) S I3 f3 ob3 (h₁ := h₁) hns hcn hk
  have st4 : tn 0 h₁ := T.keep _ _ _ st2 fun b hb o eo => hk b o (k3 b o eo)
  have hfp : ∀ b ∈ fp, b ≠ s3.heap.objs.size ∧ b ∉ frs X.stack ∧ ∀ x c, ((y, s3.heap.objs.size + 1) :: closOf sc X.env).lookup x = some c → c ≠ b := fun b hb => by
    obtain ⟨_, f1, f2', _, f4, _⟩ := f3 b hb
    obtain ⟨o, eo⟩ := ob3 b hb
    refine ⟨Nat.ne_of_lt (Heap.lt_size eo), fun z => ?_, fun x c ec => ?lk⟩
    case lk =>
      rcases look_y ec with ⟨_, b1⟩ | a1
      · exact fun z => absurd (Heap.lt_size eo) (by rw [← z, b1]; exact Nat.not_lt.2 (Nat.le_succ _))
      · exact f4 x c (S.look I3 a1)
    rcases List.mem_cons.mp (I3.stkSub b z) with q | q
    · exact f1 q
    · exact f2' q
  have loop : codeAny (model X.prog X.w) X.A (.compLoop e 0 (.ref it) (.ref p) (compEnvY sc (closOf sc X.env) s3.heap.objs.size X.env y)) (compPost (model X.prog X.w) X.A X.xe use Q' (.ref p) s3.heap.objs.size) { s3 with heap := h₁, toks := s3.toks } := by
    refine comp_loopC (s₀ := s3) (H₀ := upd H2 p acc) (own := own) (fr := fr) (Q := fun H' => Q p H') F hc (hg _ _ _ _) (ht _ _ _ _) (hm _ _ _ _) T hfp W turn (fun σ' H' s' J' qq => ?_) I4 st4 (fun b hb => (f3 b hb).1) w0
    obtain ⟨m, hn, _⟩ := J'.loc
    have un : Un (frs X.stack) fp H2 H' s2.heap s'.heap := (Un.laid (o := acc) k3 (by rw [hp]; exact Nat.le_refl _) np).trans J'.base
    have IX : Inv X pins σ H' s' := I2.call' (ch := fp) (J'.os.trans os3) un J'.hok J'.bare fun b hb => by
      obtain ⟨_, f1, _, f3', f4, f5⟩ := f2 b hb
      exact ⟨f3', f1, f4, f5⟩
    refine hq p s3.heap.objs.size H' s' m IX qq hn J'.free (Ne.symm (Nat.ne_of_lt I3.lt)) I3.sz (fun x c ec => ?_) fun q hq' => ?_
    · obtain ⟨v, o, eo, _⟩ := I3.cell x c ec
      exact Nat.ne_of_lt (Heap.lt_size eo)
    · exact Nat.ne_of_lt (Heap.lt_size (I3.pin q hq').1)
  exact F.start _ _ _ _ _ _ _ _ loop (T.self _ _ _ _ _ st4 loop)

theorem comp_valueC (F : CompForm e tg iter ifs emit) (hc : X.calm = true) (S : CompScopeC X sc fr y) (hi : PI X tg iter wi) (hnew : PNew X newAcc acc)
    (hg : ∀ C s₀ H₀ fp, PG (compCxC X sc own fr C s₀ H₀ fp y) tg g) (ht : ∀ C s₀ H₀ fp, PTs (compCxC X sc own fr C s₀ H₀ fp y) ifs tc) (hm : ∀ C s₀ H₀ fp, PM (compCxC X sc own fr C s₀ H₀ fp y) emit tm)
    (hs : ∀ x, foldedSetIterable iter X.env x = pure x) {pins : List (Addr × Obj)} {s : Shared} {σ : St} {H : Hp} {Q : VK} (I : Inv X pins σ H s)
    (h : tCompB acc wi own.length fr g tc tm σ H fun p H' => Q (.ref p) H') :
    wpAny (model X.prog X.w) X.A (comprehension e sc X.env pos newAcc false (eval iter X.env) none) (EP X pins σ Q) X.xe s := by
  refine comp_anyC F hc S hi hnew hg ht hm hs I h fun p C H' s' m I' q hn h1 h2 h3 h4 h5 => ⟨m, hn, fun h' hb => ?_⟩
  exact ⟨.ref p, H', I'.turned (t' := s'.toks) (fun b o hne eo => hb.extBut b o hne eo) h1 h2 (.inr h3) h4 h5, rfl, q⟩
end
section
variable {X : Cx} {sc : Scope} {own : List Str} {fr : List Nat} {elt tg iter : Expr} {ifs : List Expr} {wi : TI} {g : TG} {tc : TT} {te : TE} {pos : Pos} {y : Str}
theorem pe_lcC (hc : X.calm = true) (S : CompScopeC X sc fr y) (hi : PI X tg iter wi)
    (hg : ∀ C s₀ H₀ fp, PG (compCxC X sc own fr C s₀ H₀ fp y) tg g) (ht : ∀ C s₀ H₀ fp, PTs (compCxC X sc own fr C s₀ H₀ fp y) ifs tc) (he : ∀ C s₀ H₀ fp, PE (compCxC X sc own fr C s₀ H₀ fp y) elt te)
    (hs : ∀ x, foldedSetIterable iter X.env x = pure x := by intro _; rfl) : PE X (.ListComp elt [⟨tg, iter, ifs, 0⟩] sc pos) (tLC wi own.length fr g tc te) := by
  intro pins s σ H Q I h
  rw [eval_ListComp]
  exact comp_valueC form_list hc S hi pnew_list hg ht (fun _ _ _ _ => pm_list (he _ _ _ _)) hs I h
end
end L2

end
section
set_option Elab.async false
set_option linter.all false
set_option maxRecDepth 100000
set_option maxHeartbeats 4000000
namespace L2
open PySem PySem.Spec PyProof.Rows PySem.W
/-! ### runs that are told as point 24 says -/
def wfR : Mk2 → Prop
  | [] => True
  | [q] => 1 ≤ q.2 ∧ q.1 ≠ 0
  | q :: q' :: r => 1 ≤ q.2 ∧ q.1 ≠ q'.1 ∧ wfR (q' :: r)
theorem wfR.tail {q : Int × Int} {r : Mk2} (h : wfR (q :: r)) : wfR r := by
  cases r with
  | nil => trivial
  | cons q' r => exact h.2.2
theorem wfR.one {q : Int × Int} {r : Mk2} (h : wfR (q :: r)) : 1 ≤ q.2 := by
  cases r with
  | nil => exact h.1
  | cons q' r => exact h.1
theorem wfR.laid {rs : Mk2} {s m : Int} (h : wfR rs) (hm : 1 ≤ m) : wfR (laid rs s m) := by
  have h0 : ¬ m = 0 := by omega
  cases rs with
  | nil =>
    by_cases hs : s = 0
    · rw [laid_no (.inr ⟨rfl, hs⟩)]; trivial
    · rw [laid_nil (by rintro (z | ⟨_, z⟩); exact h0 z; exact hs z)]; exact ⟨hm, hs⟩
  | cons q r =>
    have h1 := h.one
    by_cases e : q.1 = s
    · rw [laid_on h0 e]
      cases r with
      | nil => exact ⟨by show 1 ≤ q.2 + m; omega, fun z => h.2 (e.trans z)⟩
      | cons q' r => exact ⟨by show 1 ≤ q.2 + m; omega, fun z => h.2.1 (e.trans z), h.2.2⟩
    · rw [laid_off h0 e]
      exact ⟨hm, fun z => e z.symm, h⟩
/-- the nearest sign taken -/
def taken (rs : Mk2) : Int × Mk2 := match rs with
  | [] => (0, [])
  | q :: r => (q.1, if q.2 = 1 then r else (q.1, q.2 - 1) :: r)
theorem wfR.take {q : Int × Int} {r : Mk2} (h : wfR (q :: r)) : L2.laid r q.1 (q.2 - 1) = if q.2 = 1 then r else (q.1, q.2 - 1) :: r := by
  by_cases e : q.2 = 1
  · rw [if_pos e, laid_no (.inl (by omega))]
  · rw [if_neg e]
    have h0 : ¬ q.2 - 1 = 0 := by omega
    cases r with
    | nil => rw [laid_nil (by rintro (z | ⟨_, z⟩); exact h0 z; exact h.2 z)]
    | cons q' r => rw [laid_off h0 (fun z => h.2.1 z.symm)]
theorem wfR.taken {rs : Mk2} (h : wfR rs) : wfR (L2.taken rs).2 := by
  cases rs with
  | nil => trivial
  | cons q r =>
    show wfR (if q.2 = 1 then r else (q.1, q.2 - 1) :: r)
    have h1 := h.one
    by_cases e : q.2 = 1
    · rw [if_pos e]; exact h.tail
    · rw [if_neg e]
      cases r with
      | nil => exact ⟨by show 1 ≤ q.2 - 1; omega, h.2⟩
      | cons q' r => exact ⟨by show 1 ≤ q.2 - 1; omega, h.2.1, h.2.2⟩
theorem lays_wf : ∀ ys : Mk2, wfR ys → lays [] ys.reverse = ys
  | [], _ => rfl
  | q :: r, h => by
    rw [List.reverse_cons, lays_app, lays_wf r h.tail, lays_one]
    have h0 : ¬ q.2 = 0 := by have := h.one; omega
    cases r with
    | nil => rw [laid_nil (by rintro (z | ⟨_, z⟩); exact h0 z; exact h.2 z)]
    | cons q' r => rw [laid_off h0 (fun z => h.2.1 z.symm)]
/-! ### strides -/
structure SS where
  row : Int
  sign : Int
  L : Mk2
  R : Mk2
  steps : Int
def enS (m : Ma) (r s : Int) : En := ((m[r.toNat]?).bind fun es => es[s.toNat]?).getD []
def nearS (w : Int) (x : SS) : Mk2 := if w = 1 then x.R else x.L
def farS (w : Int) (x : SS) : Mk2 := if w = 1 then x.L else x.R
def wdS (m : Ma) (x : SS) : Str := match enS m x.row x.sign with
  | [_, w, n] => if n = x.row ∧ x.sign = 0 ∧ nearS w x = [] then "never" else "on"
  | _ => "end"
/-- how many of a sign stand nearest, and what is behind them -/
def runLen (rs : Mk2) (s : Int) : Int := match rs with | [] => 0 | q :: _ => if q.1 = s then q.2 else 0
def runOff (rs : Mk2) (s : Int) : Mk2 := match rs with | [] => [] | q :: r => if q.1 = s then r else q :: r
def manyS (n w : Int) (x : SS) : Int := if n = x.row then 1 + runLen (nearS w x) x.sign else 1
def restS (n w : Int) (x : SS) : Mk2 := if n = x.row then runOff (nearS w x) x.sign else nearS w x
def stS (m : Ma) (x : SS) : SS := match enS m x.row x.sign with
  | [p, w, n] =>
    if w = 1 then ⟨n, (taken (restS n w x)).1, laid x.L p (manyS n w x), (taken (restS n w x)).2, x.steps + manyS n w x⟩
    else ⟨n, (taken (restS n w x)).1, (taken (restS n w x)).2, laid x.R p (manyS n w x), x.steps + manyS n w x⟩
  | _ => x
def goS (m : Ma) : Nat → SS → SS
  | 0, x => x
  | k + 1, x => if wdS m x = "on" then goS m k (stS m x) else x
def sgR (g : Int) (rs : Mk2) : Prop := ∀ q ∈ rs, 0 ≤ q.1 ∧ q.1 < g
structure OkX (m : Ma) (x : SS) : Prop where
  r0 : 0 ≤ x.row
  r1 : x.row < m.length
  s0 : 0 ≤ x.sign
  s1 : x.sign < sgn m
  wL : wfR x.L
  wR : wfR x.R
  gL : sgR (sgn m) x.L
  gR : sgR (sgn m) x.R
theorem OkX.at {m : Ma} {x : SS} (h : OkX m x) (M : OkM m) : ∃ es, m[x.row.toNat]? = some es ∧ es[x.sign.toNat]? = some (enS m x.row x.sign) ∧ entryOk m.length (sgn m) (enS m x.row x.sign) = true := by
  have hr : x.row.toNat < m.length := by have := h.r0; have := h.r1; omega
  have e1 := List.getElem?_eq_getElem hr
  have hl := M.len _ (List.getElem_mem hr)
  have hs : x.sign.toNat < (m[x.row.toNat]).length := by rw [hl]; have := h.s0; have := h.s1; omega
  have e2 := List.getElem?_eq_getElem hs
  have e3 : enS m x.row x.sign = (m[x.row.toNat])[x.sign.toNat] := by
    unfold enS
    rw [e1]
    show ((m[x.row.toNat])[x.sign.toNat]?).getD [] = _
    rw [e2]; rfl
  refine ⟨_, e1, by rw [e2, e3], ?_⟩
  rw [e3]
  exact M.ent _ (List.getElem_mem hr) _ (List.getElem_mem hs)
theorem wfR.runOff {rs : Mk2} (h : wfR rs) (s : Int) : wfR (L2.runOff rs s) := by
  cases rs with
  | nil => trivial
  | cons q r =>
    show wfR (if q.1 = s then r else q :: r)
    split
    · exact h.tail
    · exact h
theorem runLen_nn {rs : Mk2} (h : wfR rs) (s : Int) : 0 ≤ runLen rs s := by
  cases rs with
  | nil => exact Int.le_refl _
  | cons q r =>
    show 0 ≤ if q.1 = s then q.2 else 0
    have := h.one
    split <;> omega
theorem sgR.off {g : Int} {rs : Mk2} (h : sgR g rs) (s : Int) : sgR g (runOff rs s) := by
  cases rs with
  | nil => exact h
  | cons q r =>
    show sgR g (if q.1 = s then r else q :: r)
    split
    · exact fun x hx => h x (List.mem_cons_of_mem _ hx)
    · exact h
theorem sgR.laid {g : Int} {rs : Mk2} (h : sgR g rs) {s m : Int} (h0 : 0 ≤ s) (h1 : s < g) : sgR g (L2.laid rs s m) := by
  unfold L2.laid
  split
  · exact h
  · cases rs with
    | nil => intro q hq; simp at hq; subst hq; exact ⟨h0, h1⟩
    | cons q r =>
      show sgR g (if q.1 = s then (s, q.2 + m) :: r else (s, m) :: q :: r)
      split
      · intro x hx
        rcases List.mem_cons.1 hx with rfl | hx
        · exact ⟨h0, h1⟩
        · exact h x (List.mem_cons_of_mem _ hx)
      · intro x hx
        rcases List.mem_cons.1 hx with rfl | hx
        · exact ⟨h0, h1⟩
        · exact h x hx
theorem sgR.taken {g : Int} {rs : Mk2} (hg : 0 < g) (h : sgR g rs) : (0 ≤ (L2.taken rs).1 ∧ (L2.taken rs).1 < g) ∧ sgR g (L2.taken rs).2 := by
  cases rs with
  | nil => exact ⟨⟨Int.le_refl _, hg⟩, h⟩
  | cons q r =>
    refine ⟨h q (by simp), ?_⟩
    show sgR g (if q.2 = 1 then r else (q.1, q.2 - 1) :: r)
    split
    · exact fun x hx => h x (List.mem_cons_of_mem _ hx)
    · intro x hx
      rcases List.mem_cons.1 hx with rfl | hx
      · exact h q (by simp)
      · exact h x (List.mem_cons_of_mem _ hx)
theorem OkX.st {m : Ma} {x : SS} (h : OkX m x) (M : OkM m) : OkX m (stS m x) := by
  obtain ⟨es, _, _, hok⟩ := h.at M
  unfold stS
  generalize enS m x.row x.sign = e at hok
  by_cases z : e = []
  · subst z; exact h
  obtain ⟨p, w, n, rfl, a0, a1, a2, a3, a4⟩ := entryOk_three hok z
  have hg : (0 : Int) < sgn m := by have := M.s2; omega
  have wn : wfR (nearS w x) := by unfold nearS; split; exact h.wR; exact h.wL
  have gn : sgR (sgn m) (nearS w x) := by unfold nearS; split; exact h.gR; exact h.gL
  have wr : wfR (restS n w x) := by unfold restS; split; exact wn.runOff _; exact wn
  have gr : sgR (sgn m) (restS n w x) := by unfold restS; split; exact gn.off _; exact gn
  have hm : 1 ≤ manyS n w x := by
    unfold manyS
    have := runLen_nn wn x.sign
    split <;> omega
  have ht := gr.taken hg
  show OkX m (if w = 1 then _ else _)
  split
  · exact ⟨by assumption, by assumption, ht.1.1, ht.1.2, h.wL.laid hm, wr.taken, h.gL.laid (by assumption) (by assumption), ht.2⟩
  · exact ⟨by assumption, by assumption, ht.1.1, ht.1.2, wr.taken, h.wR.laid hm, ht.2, h.gR.laid (by assumption) (by assumption)⟩
theorem off_len (rs : Mk2) (s : Int) : (runOff rs s).length ≤ rs.length := by
  cases rs with
  | nil => exact Nat.le_refl _
  | cons q r => show (if q.1 = s then r else q :: r).length ≤ _; split <;> simp
theorem taken_len (rs : Mk2) : (taken rs).2.length ≤ rs.length := by
  cases rs with
  | nil => exact Nat.le_refl _
  | cons q r => show (if q.2 = 1 then r else (q.1, q.2 - 1) :: r).length ≤ _; split <;> simp
theorem st_len {m : Ma} {x : SS} {B : Nat} (hL : x.L.length ≤ B) (hR : x.R.length ≤ B) : (stS m x).L.length ≤ B + 1 ∧ (stS m x).R.length ≤ B + 1 := by
  unfold stS
  split
  · rename_i p w n _
    have h1 : (nearS w x).length ≤ B := by unfold nearS; split <;> assumption
    have h2 : (restS n w x).length ≤ B := by unfold restS; split; exact Nat.le_trans (off_len _ _) h1; exact h1
    have h3 := taken_len (restS n w x)
    split
    · exact ⟨Nat.le_trans (laid_len _ _ _) (by omega), by show (taken (restS n w x)).2.length ≤ _; omega⟩
    · exact ⟨by show (taken (restS n w x)).2.length ≤ _; omega, Nat.le_trans (laid_len _ _ _) (by omega)⟩
  · exact ⟨by omega, by omega⟩
theorem goS_stop {m : Ma} {x : SS} (h : wdS m x ≠ "on") : ∀ k, goS m k x = x
  | 0 => rfl
  | k + 1 => by show (if wdS m x = "on" then _ else x) = x; rw [if_neg h]
theorem goS_on {m : Ma} {x : SS} (h : wdS m x = "on") (k : Nat) : goS m (k + 1) x = goS m k (stS m x) := by show (if wdS m x = "on" then _ else x) = _; rw [if_pos h]
theorem wd_end {m : Ma} {x : SS} (h : enS m x.row x.sign = []) : wdS m x = "end" := by unfold wdS; rw [h]
theorem wd_never {m : Ma} {x : SS} {p w n : Int} (h : enS m x.row x.sign = [p, w, n]) (h1 : n = x.row ∧ x.sign = 0 ∧ nearS w x = []) : wdS m x = "never" := by unfold wdS; rw [h]; show (if _ then _ else _) = _; rw [if_pos h1]
theorem wd_on {m : Ma} {x : SS} {p w n : Int} (h : enS m x.row x.sign = [p, w, n]) (h1 : ¬ (n = x.row ∧ x.sign = 0 ∧ nearS w x = [])) : wdS m x = "on" := by unfold wdS; rw [h]; show (if _ then _ else _) = _; rw [if_neg h1]
theorem end_on : ¬ (("end" : Str) = "on") := by decide +kernel
theorem never_on : ¬ (("never" : Str) = "on") := by decide +kernel
/-! ### an object of the class of striders -/
def sf (t : Addr) (r s : Int) (d : Addr) (k : Int) : List (Str × V) := [("table", .ref t), ("row", .int r), ("sign", .int s), ("sides", .ref d), ("steps", .int k)]
theorem sf_mk (t : Addr) (r s : Int) (d : Addr) (k : Int) : putF "steps" (.int k) (putF "sides" (.ref d) (putF "sign" (.int s) (putF "row" (.int r) (putF "table" (.ref t) [])))) = sf t r s d k := by
  have a1 : ¬ (("table" : Str) = "row") := by decide +kernel
  have a2 : ¬ (("table" : Str) = "sign") := by decide +kernel
  have a3 : ¬ (("table" : Str) = "sides") := by decide +kernel
  have a4 : ¬ (("table" : Str) = "steps") := by decide +kernel
  have a5 : ¬ (("row" : Str) = "sign") := by decide +kernel
  have a6 : ¬ (("row" : Str) = "sides") := by decide +kernel
  have a7 : ¬ (("row" : Str) = "steps") := by decide +kernel
  have a8 : ¬ (("sign" : Str) = "sides") := by decide +kernel
  have a9 : ¬ (("sign" : Str) = "steps") := by decide +kernel
  have b1 : ¬ (("sides" : Str) = "steps") := by decide +kernel
  simp only [putF, a1, a2, a3, a4, a5, a6, a7, a8, a9, b1, if_false, sf]
theorem sf_row (t : Addr) (r s y : Int) (d : Addr) (k : Int) : putF "row" (.int y) (sf t r s d k) = sf t y s d k := by
  have a1 : ¬ (("table" : Str) = "row") := by decide +kernel
  simp only [sf, putF, a1, if_false, if_true]
theorem sf_sign (t : Addr) (r s y : Int) (d : Addr) (k : Int) : putF "sign" (.int y) (sf t r s d k) = sf t r y d k := by
  have a2 : ¬ (("table" : Str) = "sign") := by decide +kernel
  have a5 : ¬ (("row" : Str) = "sign") := by decide +kernel
  simp only [sf, putF, a2, a5, if_false, if_true]
theorem sf_steps (t : Addr) (r s y : Int) (d : Addr) (k : Int) : putF "steps" (.int y) (sf t r s d k) = sf t r s d y := by
  have a4 : ¬ (("table" : Str) = "steps") := by decide +kernel
  have a7 : ¬ (("row" : Str) = "steps") := by decide +kernel
  have a9 : ¬ (("sign" : Str) = "steps") := by decide +kernel
  have b1 : ¬ (("sides" : Str) = "steps") := by decide +kernel
  simp only [sf, putF, a4, a7, a9, b1, if_false, if_true]
theorem sf_lt (t : Addr) (r s : Int) (d : Addr) (k : Int) : (sf t r s d k).lookup ("table" : Str) = some (.ref t) := rfl
theorem sf_lr (t : Addr) (r s : Int) (d : Addr) (k : Int) : (sf t r s d k).lookup ("row" : Str) = some (.int r) := rfl
theorem sf_ls (t : Addr) (r s : Int) (d : Addr) (k : Int) : (sf t r s d k).lookup ("sign" : Str) = some (.int s) := rfl
theorem sf_ld (t : Addr) (r s : Int) (d : Addr) (k : Int) : (sf t r s d k).lookup ("sides" : Str) = some (.ref d) := rfl
theorem sf_lk (t : Addr) (r s : Int) (d : Addr) (k : Int) : (sf t r s d k).lookup ("steps" : Str) = some (.int k) := rfl
theorem sf_len (t : Addr) (r s : Int) (d : Addr) (k : Int) : (sf t r s d k).length < 1000 := by show 5 < 1000; decide
end L2

end
namespace Law
open PySem PySem.Spec PyProof.Rows L2
local macro_rules | `(tactic| walk_at "w") => `(tactic| conv => whnf)
local macro_rules | `(tactic| walk_at "hp") => `(tactic| (repeat (first | assumption | exact upd_same | refine keepN ?_ (by assumption))))
local macro_rules | `(tactic| walk_at "frees") => `(tactic| (repeat ((conv => whnf); first | exact True.intro | refine ⟨Or.inl rfl, ?_⟩ | refine ⟨Or.inr rfl, ?_⟩ | refine ⟨⟨rfl, Or.inl rfl⟩, ?_⟩ | refine ⟨⟨rfl, Or.inr rfl⟩, ?_⟩)))
local macro_rules | `(tactic| walk_at "comp_ok") => `(tactic| exact ⟨rfl, by decide +kernel, by decide +kernel, by walk_at "frees", by walk_at "frees"⟩)
def top (i : Nat) : Stmt := PySem.Challenge.pw_endnever_k74_strides_told.main.body.getD i (.Pass ⟨0, 0, 0, 0⟩)
abbrev s_l_at : Stmt := top 16
abbrev s_l_whole : Stmt := top 17
abbrev s_l_mixed : Stmt := top 18
abbrev s_l_purse : Stmt := top 19
abbrev s_l_draw : Stmt := top 20
abbrev s_is_entry : Stmt := top 7
abbrev s_is_row : Stmt := top 8
abbrev s_is_machine : Stmt := top 9
abbrev s_must_machine : Stmt := top 10
abbrev s_l_laid : Stmt := top 24
abbrev s_l_are_runs : Stmt := top 26
abbrev s_Side_lay : Stmt := inClass (top 12) 1
abbrev s_Side___init__ : Stmt := inClass (top 12) 0
abbrev s_Side_take_run : Stmt := inClass (top 12) 2
abbrev s_Side_take : Stmt := inClass (top 12) 3
abbrev s_Strider___init__ : Stmt := inClass (top 13) 0
abbrev s_Strider_word : Stmt := inClass (top 13) 1
abbrev s_Strider_stride : Stmt := inClass (top 13) 2
abbrev s_Strider_told : Stmt := inClass (top 13) 3
abbrev s_by_strides : Stmt := top 14
abbrev s_l_entry : Stmt := top 21
abbrev s_l_machine : Stmt := top 22
abbrev s_l_kept : Stmt := top 23
abbrev s_l_taken : Stmt := top 25
abbrev s_l_side : Stmt := top 27
abbrev s_l_runs : Stmt := top 28
abbrev s_l_copied : Stmt := top 29
abbrev s_l_told : Stmt := top 30
abbrev s_l_strides : Stmt := top 31
abbrev s_l_good : Stmt := top 32
abbrev s_law : Stmt := top 33
structure Ad where
  l_at : Addr
  l_at_d : FuncData
  l_whole : Addr
  l_whole_d : FuncData
  l_mixed : Addr
  l_mixed_d : FuncData
  l_purse : Addr
  l_purse_d : FuncData
  l_draw : Addr
  l_draw_d : FuncData
  is_entry : Addr
  is_entry_d : FuncData
  is_row : Addr
  is_row_d : FuncData
  is_machine : Addr
  is_machine_d : FuncData
  must_machine : Addr
  must_machine_d : FuncData
  l_laid : Addr
  l_laid_d : FuncData
  l_are_runs : Addr
  l_are_runs_d : FuncData
  Side_lay : Addr
  Side_lay_d : FuncData
  Side___init__ : Addr
  Side___init___d : FuncData
  Side_take_run : Addr
  Side_take_run_d : FuncData
  Side_take : Addr
  Side_take_d : FuncData
  Strider___init__ : Addr
  Strider___init___d : FuncData
  Strider_word : Addr
  Strider_word_d : FuncData
  Strider_stride : Addr
  Strider_stride_d : FuncData
  Strider_told : Addr
  Strider_told_d : FuncData
  by_strides : Addr
  by_strides_d : FuncData
  l_entry : Addr
  l_entry_d : FuncData
  l_machine : Addr
  l_machine_d : FuncData
  l_kept : Addr
  l_kept_d : FuncData
  l_taken : Addr
  l_taken_d : FuncData
  l_side : Addr
  l_side_d : FuncData
  l_runs : Addr
  l_runs_d : FuncData
  l_copied : Addr
  l_copied_d : FuncData
  l_told : Addr
  l_told_d : FuncData
  l_strides : Addr
  l_strides_d : FuncData
  l_good : Addr
  l_good_d : FuncData
  law : Addr
  law_d : FuncData
  MillError : Addr
  NoMachine : Addr
  Side : Addr
  Strider : Addr
structure Tx (K : PySem.W.Frag) (mg : Str → Option Value) (a : Ad) : Prop where
  f_l_at : Fun K "_law_at" "_law_at" s_l_at a.l_at a.l_at_d
  b_l_at : Binds K a.l_at_d ["_law_script", "_law_k"] []
  g_l_at : mg "_law_at" = some (.ref a.l_at)
  f_l_whole : Fun K "_law_whole" "_law_whole" s_l_whole a.l_whole a.l_whole_d
  b_l_whole : Binds K a.l_whole_d ["_law_found"] []
  g_l_whole : mg "_law_whole" = some (.ref a.l_whole)
  f_l_mixed : Fun K "_law_mixed" "_law_mixed" s_l_mixed a.l_mixed a.l_mixed_d
  b_l_mixed : Binds K a.l_mixed_d ["_law_cell", "_law_k"] []
  g_l_mixed : mg "_law_mixed" = some (.ref a.l_mixed)
  f_l_purse : Fun K "_law_purse" "_law_purse" s_l_purse a.l_purse a.l_purse_d
  b_l_purse : Binds K a.l_purse_d ["_law_script", "_law_at_here"] []
  g_l_purse : mg "_law_purse" = some (.ref a.l_purse)
  f_l_draw : Fun K "_law_draw" "_law_draw" s_l_draw a.l_draw a.l_draw_d
  b_l_draw : Binds K a.l_draw_d ["_law_purse_here", "_law_out_of"] []
  g_l_draw : mg "_law_draw" = some (.ref a.l_draw)
  f_is_entry : Fun K "is_entry" "is_entry" s_is_entry a.is_entry a.is_entry_d
  b_is_entry : Binds K a.is_entry_d ["entry", "rows", "signs"] []
  g_is_entry : mg "is_entry" = some (.ref a.is_entry)
  f_is_row : Fun K "is_row" "is_row" s_is_row a.is_row a.is_row_d
  b_is_row : Binds K a.is_row_d ["row", "rows", "signs"] []
  g_is_row : mg "is_row" = some (.ref a.is_row)
  f_is_machine : Fun K "is_machine" "is_machine" s_is_machine a.is_machine a.is_machine_d
  b_is_machine : Binds K a.is_machine_d ["machine"] []
  g_is_machine : mg "is_machine" = some (.ref a.is_machine)
  f_must_machine : Fun K "must_machine" "must_machine" s_must_machine a.must_machine a.must_machine_d
  b_must_machine : Binds K a.must_machine_d ["machine"] []
  g_must_machine : mg "must_machine" = some (.ref a.must_machine)
  f_l_laid : Fun K "_law_laid" "_law_laid" s_l_laid a.l_laid a.l_laid_d
  b_l_laid : Binds K a.l_laid_d ["_law_runs_here", "_law_sign", "_law_many"] []
  g_l_laid : mg "_law_laid" = some (.ref a.l_laid)
  f_l_are_runs : Fun K "_law_are_runs" "_law_are_runs" s_l_are_runs a.l_are_runs a.l_are_runs_d
  b_l_are_runs : Binds K a.l_are_runs_d ["_law_runs_here"] []
  g_l_are_runs : mg "_law_are_runs" = some (.ref a.l_are_runs)
  f_Side_lay : Fun K "lay" "Side.lay" s_Side_lay a.Side_lay a.Side_lay_d
  b_Side_lay : Binds K a.Side_lay_d ["self", "sign", "many"] []
  m_Side_lay : Meth K a.Side "lay" a.Side_lay
  f_Side___init__ : Fun K "__init__" "Side.__init__" s_Side___init__ a.Side___init__ a.Side___init___d
  b_Side___init__ : Binds K a.Side___init___d ["self", "begin"] []
  mk_Side : Mk K a.Side a.Side___init__
  f_Side_take_run : Fun K "take_run" "Side.take_run" s_Side_take_run a.Side_take_run a.Side_take_run_d
  b_Side_take_run : Binds K a.Side_take_run_d ["self", "sign"] []
  m_Side_take_run : Meth K a.Side "take_run" a.Side_take_run
  f_Side_take : Fun K "take" "Side.take" s_Side_take a.Side_take a.Side_take_d
  b_Side_take : Binds K a.Side_take_d ["self"] []
  m_Side_take : Meth K a.Side "take" a.Side_take
  f_Strider___init__ : Fun K "__init__" "Strider.__init__" s_Strider___init__ a.Strider___init__ a.Strider___init___d
  b_Strider___init__ : Binds K a.Strider___init___d ["self", "table", "row", "runs"] []
  mk_Strider : Mk K a.Strider a.Strider___init__
  f_Strider_word : Fun K "word" "Strider.word" s_Strider_word a.Strider_word a.Strider_word_d
  b_Strider_word : Binds K a.Strider_word_d ["self"] []
  m_Strider_word : Meth K a.Strider "word" a.Strider_word
  f_Strider_stride : Fun K "stride" "Strider.stride" s_Strider_stride a.Strider_stride a.Strider_stride_d
  b_Strider_stride : Binds K a.Strider_stride_d ["self"] []
  m_Strider_stride : Meth K a.Strider "stride" a.Strider_stride
  f_Strider_told : Fun K "told" "Strider.told" s_Strider_told a.Strider_told a.Strider_told_d
  b_Strider_told : Binds K a.Strider_told_d ["self"] []
  m_Strider_told : Meth K a.Strider "told" a.Strider_told
  f_by_strides : Fun K "by_strides" "by_strides" s_by_strides a.by_strides a.by_strides_d
  b_by_strides : Binds K a.by_strides_d ["machine", "row", "runs", "many"] []
  g_by_strides : mg "by_strides" = some (.ref a.by_strides)
  f_l_entry : Fun K "_law_entry" "_law_entry" s_l_entry a.l_entry a.l_entry_d
  b_l_entry : Binds K a.l_entry_d ["_law_purse_here", "_law_rows", "_law_signs", "_law_row", "_law_few"] []
  g_l_entry : mg "_law_entry" = some (.ref a.l_entry)
  f_l_machine : Fun K "_law_machine" "_law_machine" s_l_machine a.l_machine a.l_machine_d
  b_l_machine : Binds K a.l_machine_d ["_law_purse_here"] []
  g_l_machine : mg "_law_machine" = some (.ref a.l_machine)
  f_l_kept : Fun K "_law_kept" "_law_kept" s_l_kept a.l_kept a.l_kept_d
  b_l_kept : Binds K a.l_kept_d ["_law_machine_here"] []
  g_l_kept : mg "_law_kept" = some (.ref a.l_kept)
  f_l_taken : Fun K "_law_taken" "_law_taken" s_l_taken a.l_taken a.l_taken_d
  b_l_taken : Binds K a.l_taken_d ["_law_runs_here"] []
  g_l_taken : mg "_law_taken" = some (.ref a.l_taken)
  f_l_side : Fun K "_law_side" "_law_side" s_l_side a.l_side a.l_side_d
  b_l_side : Binds K a.l_side_d ["_law_purse_here", "_law_signs", "_law_near_first"] []
  g_l_side : mg "_law_side" = some (.ref a.l_side)
  f_l_runs : Fun K "_law_runs" "_law_runs" s_l_runs a.l_runs a.l_runs_d
  b_l_runs : Binds K a.l_runs_d ["_law_purse_here", "_law_signs"] []
  g_l_runs : mg "_law_runs" = some (.ref a.l_runs)
  f_l_copied : Fun K "_law_copied" "_law_copied" s_l_copied a.l_copied a.l_copied_d
  b_l_copied : Binds K a.l_copied_d ["_law_runs_here"] []
  g_l_copied : mg "_law_copied" = some (.ref a.l_copied)
  f_l_told : Fun K "_law_told" "_law_told" s_l_told a.l_told a.l_told_d
  b_l_told : Binds K a.l_told_d ["_law_sides", "_law_sign"] []
  g_l_told : mg "_law_told" = some (.ref a.l_told)
  f_l_strides : Fun K "_law_strides" "_law_strides" s_l_strides a.l_strides a.l_strides_d
  b_l_strides : Binds K a.l_strides_d ["_law_machine_here", "_law_row", "_law_runs_here", "_law_many"] []
  g_l_strides : mg "_law_strides" = some (.ref a.l_strides)
  f_l_good : Fun K "_law_good" "_law_good" s_l_good a.l_good a.l_good_d
  b_l_good : Binds K a.l_good_d ["_law_found", "_law_due"] []
  g_l_good : mg "_law_good" = some (.ref a.l_good)
  f_law : Fun K "law" "law" s_law a.law a.law_d
  b_law : Binds K a.law_d ["_law_script"] []
  g_law : mg "law" = some (.ref a.law)
  e_MillError : ExK K a.MillError
  t_MillError : ExC K a.MillError
  g_MillError : mg "MillError" = some (.ref a.MillError)
  m_MillError : ExM K a.MillError ([.ref a.MillError])
  e_NoMachine : ExK K a.NoMachine
  t_NoMachine : ExC K a.NoMachine
  g_NoMachine : mg "NoMachine" = some (.ref a.NoMachine)
  m_NoMachine : ExM K a.NoMachine ([.ref a.NoMachine, .ref a.MillError])
  k_Side : Cls K a.Side
  g_Side : mg "Side" = some (.ref a.Side)
  n_Side_runs : NoAttr K a.Side "runs"
  k_Strider : Cls K a.Strider
  g_Strider : mg "Strider" = some (.ref a.Strider)
  n_Strider_table : NoAttr K a.Strider "table"
  n_Strider_row : NoAttr K a.Strider "row"
  n_Strider_sign : NoAttr K a.Strider "sign"
  n_Strider_sides : NoAttr K a.Strider "sides"
  n_Strider_steps : NoAttr K a.Strider "steps"
  c_MOST_ROWS : CV mg "MOST_ROWS" (.int 4)
  c_LEAST_SIGNS : CV mg "LEAST_SIGNS" (.int 2)
  c_MOST_SIGNS : CV mg "MOST_SIGNS" (.int 4)
  z_range : mg "range" = none
  z_len : mg "len" = none
  z_abs : mg "abs" = none
  z_list : mg "list" = none
  z_tuple : mg "tuple" = none
  z_int : mg "int" = none
  z_bool : mg "bool" = none
  z_dict : mg "dict" = none
  z_isinstance : mg "isinstance" = none
  z_max : mg "max" = none
  z_min : mg "min" = none
  z_zip : mg "zip" = none
  z_all : mg "all" = none
  ex_nd : [a.MillError, a.NoMachine].Nodup
section
variable {P : Program} {w : World} {K : PySem.W.Frag} {mg : Str → Option Value} {base : Heap} {a : Ad}
theorem sc_l_at : FnScope ["_law_script", "_law_k"] ["_law_script", "_law_k"] (defScope s_l_at) := ⟨rfl, rfl, rfl, by decide +kernel, rfl, by decide +kernel, by decide +kernel⟩
def sp_at (K : PySem.W.Frag) : Sp := fun vs H Q _ => match vs with
  | [.ref b, .int k] => ∃ ns : List Int, SqL K H b (ns.map V.int) ∧ 0 ≤ k ∧ ∀ n : Int, Q (.int n) H
  | _ => False
theorem ok_l_at (T : Tx K mg a) : FnOk P w K mg base CX0 1 a.l_at a.l_at_d ["_law_script", "_law_k"] (sp_at K) := by
  refine T.f_l_at.ok sc_l_at (fun vs H Q E h => ?_) (fun cdv A outer s H vs Q E hr h => ?_)
  · unfold sp_at at h
    split at h
    · rfl
    · exact h.elim
  · unfold sp_at at h
    split at h
    · have nd := sc_l_at.nd
      have hu := hu_of hr
      rename_i b k
      obtain ⟨ns, hS, hk, h⟩ := h
      refine ⟨_, (pss_cons (ps_c (pt_c q_lt (qv 1) (pe_callB (q_lenK (K := K) rfl) rfl T.z_len bt_len (pa_cons (qv 0) pa_nil))) (pss_one (ps_ret (pe_ix (q_ixLK (K := K) rfl) (qv 0) (qv 1) (fun _ _ => rfl)))) pss_nil)
    (pss_one (ps_ret pe_int))), ?_⟩
      walk_at "w"
      refine ⟨_, .inl hS, ?_⟩
      walk_at "w"
      refine ifB.dec (fun z => ?_) (fun z => ?_)
      · have z : k < ((ns.map V.int).length : Int) := z
        rw [List.length_map] at z
        have hl : k.toNat < ns.length := by omega
        walk_at "w"
        refine ⟨_, _, hS, atI_toNat hk (v := V.int ns[k.toNat]) (by rw [List.getElem?_map, List.getElem?_eq_getElem hl]; rfl), ?_⟩
        exact h _
      · exact h 0
    · exact h.elim
theorem sc_l_whole : FnScope ["_law_found"] ["_law_found"] (defScope s_l_whole) := ⟨rfl, rfl, rfl, by decide +kernel, rfl, by decide +kernel, by decide +kernel⟩
def sp_whole : Sp := fun vs H Q _ => match vs with
  | [.int _] => Q (.bl true) H
  | _ => False
theorem ok_l_whole (T : Tx K mg a) : FnOk P w K mg base CX0 1 a.l_whole a.l_whole_d ["_law_found"] (sp_whole) := by
  refine T.f_l_whole.ok sc_l_whole (fun vs H Q E h => ?_) (fun cdv A outer s H vs Q E hr h => ?_)
  · unfold sp_whole at h
    split at h
    · rfl
    · exact h.elim
  · unfold sp_whole at h
    split at h
    · have nd := sc_l_whole.nd
      have hu := hu_of hr
      refine ⟨_, (pss_one (ps_ret (pe_andC (pe_callB (q_isiK (K := K) rfl) rfl T.z_isinstance bt_isinstance (pa_cons (qv 0) (pa_cons (pe_bltn (v := V.ty "int") rfl T.z_int bt_int rfl) pa_nil))) (pe_one (pe_notC (pe_callB (q_isiK (K := K) rfl) rfl T.z_isinstance bt_isinstance (pa_cons (qv 0) (pa_cons (pe_bltn (v := V.ty "bool") rfl T.z_bool bt_bool rfl) pa_nil)))))))), ?_⟩
      walk_at "w"
      refine ⟨_, true, (.of (.int _)), rfl, rfl, ?_⟩
      walk_at "w"
      refine ifB.yes rfl ?_
      walk_at "w"
      refine ⟨_, false, (.of (.int _)), rfl, rfl, ?_⟩
      exact h
    · exact h.elim
theorem sc_l_mixed : FnScope ["_law_cell", "_law_k", "_law_number"] ["_law_cell", "_law_k"] (defScope s_l_mixed) := ⟨rfl, rfl, rfl, by decide +kernel, rfl, by decide +kernel, by decide +kernel⟩
def sp_mixed : Sp := fun vs H Q _ => match vs with
  | [.int _, .int k] => (0 ≤ k ∧ k < 2 ^ 62) ∧ ∀ (n : Int), 0 ≤ n → n < 2147483587 → Q (.int n) H
  | _ => False
theorem ok_l_mixed (T : Tx K mg a) : FnOk P w K mg base CX0 1 a.l_mixed a.l_mixed_d ["_law_cell", "_law_k"] (sp_mixed) := by
  refine T.f_l_mixed.ok sc_l_mixed (fun vs H Q E h => ?_) (fun cdv A outer s H vs Q E hr h => ?_)
  · unfold sp_mixed at h
    split at h
    · rfl
    · exact h.elim
  · unfold sp_mixed at h
    split at h
    · have nd := sc_l_mixed.nd
      have hu := hu_of hr
      rename_i c k
      obtain ⟨⟨k0, k1⟩, h⟩ := h
      refine ⟨_, (pss_cons (ps_set (i := 0) nd rfl (by first | exact Or.inl rfl | exact Or.inr rfl) (pe_op q_mod (qv 0) pe_int))
    (pss_cons (ps_set (i := 2) nd rfl (by first | exact Or.inl rfl | exact Or.inr rfl) (pe_op q_mod (pe_op q_add (pe_op q_add (pe_op q_mul (qv 0) pe_int) (pe_op q_mul (pe_op q_mul pe_int (qv 1)) (qv 1))) (qv 1)) pe_int))
    (pss_cons (ps_set (i := 2) nd rfl (by first | exact Or.inl rfl | exact Or.inr rfl) (pe_op q_mod (pe_op q_mul (qv 2) (qv 2)) pe_int))
    (pss_one (ps_ret (pe_op q_mod (pe_op q_mul (qv 2) pe_int) pe_int)))))), ?_⟩
      walk_at "w"
      refine ⟨by show (0 : Int) < _; decide, fun r _ ⟨r0, r1⟩ => ?_⟩
      walk_at "w"
      refine ⟨.inr ⟨by decide, by decide⟩, fun m1 _ _ => ?_⟩
      walk_at "w"
      refine ⟨.inl ⟨by decide, by decide⟩, fun m2 _ _ => ?_⟩
      walk_at "w"
      refine ⟨.inr ⟨by omega, by omega⟩, fun m3 _ _ => ?_⟩
      walk_at "w"
      refine ⟨by show (0 : Int) < _; decide, fun m4 _ ⟨a0, a1⟩ => ?_⟩
      walk_at "w"
      refine ⟨.inl ⟨by omega, by omega⟩, fun m5 _ _ => ?_⟩
      walk_at "w"
      refine ⟨by show (0 : Int) < _; decide, fun m6 _ ⟨b0, b1⟩ => ?_⟩
      walk_at "w"
      refine ⟨.inl ⟨by omega, by omega⟩, fun m7 _ _ => ?_⟩
      walk_at "w"
      refine ⟨by show (0 : Int) < _; decide, fun m8 _ ⟨c0, c1⟩ => ?_⟩
      exact h _ c0 c1
    · exact h.elim
theorem sc_l_purse : FnScope ["_law_script", "_law_at_here", "_law_cell"] ["_law_script", "_law_at_here"] (defScope s_l_purse) := ⟨rfl, rfl, rfl, by decide +kernel, rfl, by decide +kernel, by decide +kernel⟩
def sp_purse (K : PySem.W.Frag) : Sp := fun vs H Q _ => match vs with
  | [.ref b, .int k] => ∃ ns : List Int, SqL K H b (ns.map V.int) ∧ (0 ≤ k ∧ k ≤ 10) ∧ ∀ (p : Addr) (H' : Hp) (n c m : Int), Sub H H' → H p = none → H' p = some (.lst [.int n, .int c, .int m]) → m = 1000 * k → Q (.ref p) H'
  | _ => False
theorem ok_l_purse (T : Tx K mg a) : FnOk P w K mg base CX0 2 a.l_purse a.l_purse_d ["_law_script", "_law_at_here"] (sp_purse K) := by
  have G_l_at := ok_l_at (P := P) (w := w) (base := base) T
  refine T.f_l_purse.ok sc_l_purse (fun vs H Q E h => ?_) (fun cdv A outer s H vs Q E hr h => ?_)
  · unfold sp_purse at h
    split at h
    · rfl
    · exact h.elim
  · unfold sp_purse at h
    split at h
    · have nd := sc_l_purse.nd
      have hu := hu_of hr
      rename_i b k
      obtain ⟨ns, hS, ⟨k0, k1⟩, h⟩ := h
      refine ⟨_, (pss_cons (ps_set (i := 2) nd rfl (by first | exact Or.inl rfl | exact Or.inr rfl) (pe_call G_l_at (hr.mono (by decide)) rfl T.g_l_at T.f_l_at.kp T.b_l_at .nil pass0 (pa_cons (qv 0) (pa_cons (qv 1) pa_nil))))
    (pss_one (ps_ret (pe_lst (pa_cons (pe_callB (q_max2 rfl) rfl T.z_max bt_max (pa_cons (pe_op q_sub (qv 2) (pe_op q_pow pe_int pe_int)) (pa_cons pe_int pa_nil))) (pa_cons (qv 2) (pa_cons (pe_op q_mul pe_int (qv 1)) pa_nil))))))), ?_⟩
      walk_at "w"
      refine ⟨ns, hS, k0, fun c => ?_⟩
      walk_at "w"
      refine ⟨cpow (by decide), fun m0 _ _ => ?_⟩
      walk_at "w"
      intro m1 _
      walk_at "w"
      refine ⟨.inl ⟨by decide, by decide⟩, fun m2 hm2 _ => ?_⟩
      walk_at "w"
      refine ⟨by show 3 ≤ sizeLine; decide, ?_⟩
      intro p1 n1
      generalize hU1 : upd _ p1 _ = H1
      obtain ⟨S1, e1⟩ := upd_sub n1 hU1
      clear hU1
      exact h p1 H1 _ _ _ S1 n1 e1 hm2
    · exact h.elim
theorem sc_l_draw : FnScope ["_law_purse_here", "_law_out_of", "_law_drawn", "_law_number"] ["_law_purse_here", "_law_out_of"] (defScope s_l_draw) := ⟨rfl, rfl, rfl, by decide +kernel, rfl, by decide +kernel, by decide +kernel⟩
/-- a purse of three numbers turns -/
structure P3 (pp : Addr) (c : Int) (H H' : Hp) : Prop where
  had : ∃ n m : Int, H pp = some (.lst [.int n, .int c, .int m])
  has : ∃ n m : Int, H' pp = some (.lst [.int n, .int c, .int m])
  keep : ∀ a o, a ≠ pp → H a = some o → H' a = some o
section
variable {pp : Addr} {c : Int} {A B C : Hp}
theorem P3.refl (h : ∃ n m : Int, A pp = some (.lst [.int n, .int c, .int m])) : P3 pp c A A := ⟨h, h, fun _ _ _ e => e⟩
theorem P3.trans (h : P3 pp c A B) (h' : P3 pp c B C) : P3 pp c A C := ⟨h.had, h'.has, fun a o n e => h'.keep a o n (h.keep a o n e)⟩
theorem P3.sub (h : P3 pp c A B) (S : Sub B C) : P3 pp c A C := ⟨h.had, h.has.imp fun _ z => z.imp fun _ e => S _ _ e, fun a o n e => S _ _ (h.keep a o n e)⟩
theorem P3.draw (h : P3 pp c A B) (n m : Int) : P3 pp c A (upd B pp (.lst [.int n, .int c, .int m])) := ⟨h.had, ⟨n, m, upd_same⟩, fun a o ne e => by rw [upd_ne ne]; exact h.keep a o ne e⟩
theorem P3.set {p : Addr} {o : HO} (h : P3 pp c A B) (hp : A p = none) : P3 pp c A (upd B p o) := by
  obtain ⟨n, m, e⟩ := h.had
  have ne : pp ≠ p := by rintro rfl; rw [e] at hp; cases hp
  refine ⟨h.had, ?_, fun a u na z => ?_⟩
  · obtain ⟨n', m', e'⟩ := h.has
    exact ⟨n', m', by rw [upd_ne ne]; exact e'⟩
  · have : a ≠ p := by rintro rfl; rw [z] at hp; cases hp
    rw [upd_ne this]
    exact h.keep a u na z
theorem P3.free (h : P3 pp c A B) {p : Addr} (n : B p = none) : A p = none := by
  cases e : A p with
  | none => rfl
  | some o =>
    by_cases q : p = pp
    · obtain ⟨n', m', e'⟩ := h.has
      rw [q, e'] at n; cases n
    · rw [h.keep p o q e] at n; cases n
theorem P3.of_draw (n m : Int) {n' m' : Int} (h : A pp = some (.lst [.int n', .int c, .int m'])) : P3 pp c A (upd A pp (.lst [.int n, .int c, .int m])) := (P3.refl ⟨n', m', h⟩).draw n m
end
theorem P3.stay {pp : Addr} {c : Int} {A B : Hp} (h : P3 pp c A B) : Stay A B := by
  obtain ⟨n, m, e⟩ := h.had
  refine ⟨fun a xs q => h.keep _ _ ?_ q, fun a as q => h.keep _ _ ?_ q⟩
  · rintro rfl; rw [q] at e; cases e
  · rintro rfl
    rw [q] at e
    cases as with
    | nil => cases e
    | cons x xs => cases e
theorem P3.sa {pp : Addr} {c : Int} {A B : Hp} (h : P3 pp c A B) {p : Addr} {as : List Addr} {ks : Mk2} (hp : p ≠ pp) (h1 : A p = some (.lst (as.map V.ref))) (hA : All2 (fun b q => A b = some (tI q)) as (iv ks)) :
    B p = some (.lst (as.map V.ref)) ∧ All2 (fun b q => B b = some (tI q)) as (iv ks) :=
  ⟨h.keep _ _ hp h1, hA.mono fun b q _ z => h.keep _ _ (by rintro rfl; obtain ⟨n, m, e⟩ := h.had; rw [e] at z; cases z) z⟩
theorem lg {j : Int} (h0 : 0 < j) (h1 : j ≤ 1000) : 0 < j ∧ j.natAbs.log2 < 9000 := by
  refine ⟨h0, ?_⟩
  have : j.natAbs.log2 < 10 := (Nat.log2_lt (by omega)).2 (by show _ < 1024; omega)
  omega
/-- a number from 0 below k -/
def sp_draw : Sp := fun vs H Q _ => match vs with
  | [.ref b, .int k] => (0 < k ∧ k.natAbs.log2 < 9000) ∧ ∃ n c m, H b = some (.lst [.int n, .int c, .int m]) ∧ (0 ≤ m ∧ m < 2 ^ 60) ∧ ∀ d n' m' : Int, 0 ≤ d → d < k → m ≤ m' → m' ≤ m + 2 → Q (.int d) (upd H b (.lst [.int n', .int c, .int m']))
  | _ => False
theorem ok_l_draw (T : Tx K mg a) : FnOk P w K mg base CX0 2 a.l_draw a.l_draw_d ["_law_purse_here", "_law_out_of"] (sp_draw) := by
  have G_l_mixed := ok_l_mixed (P := P) (w := w) (base := base) T
  refine T.f_l_draw.ok sc_l_draw (fun vs H Q E h => ?_) (fun cdv A outer s H vs Q E hr h => ?_)
  · unfold sp_draw at h
    split at h
    · rfl
    · exact h.elim
  · unfold sp_draw at h
    split at h
    · have nd := sc_l_draw.nd
      have hu := hu_of hr
      rename_i b k
      obtain ⟨hk, n, c, m, hb, ⟨hm0, hm1⟩, h⟩ := h
      refine ⟨_, (pss_cons (ps_c (pt_c q_gt (pe_ix (q_ixLK (K := K) rfl) (qv 0) pe_int (fun _ _ => rfl)) pe_int) (pss_cons (ps_set (i := 2) nd rfl (by first | exact Or.inl rfl | exact Or.inr rfl) (pe_op q_mod (pe_ix (q_ixLK (K := K) rfl) (qv 0) pe_int (fun _ _ => rfl)) (qv 1)))
        (pss_cons (ps_asg (pe_op q_fdiv (pe_ix (q_ixLK (K := K) rfl) (qv 0) pe_int (fun _ _ => rfl)) (qv 1)) (pg_sub (qv 0) pe_int q_setL))
        (pss_one (ps_ret (qv 2))))) pss_nil)
    (pss_cons (ps_asg (pe_op q_add (pe_ix (q_ixLK (K := K) rfl) (qv 0) pe_int (fun _ _ => rfl)) pe_int) (pg_sub (qv 0) pe_int q_setL))
    (pss_cons (ps_set (i := 3) nd rfl (by first | exact Or.inl rfl | exact Or.inr rfl) (pe_call G_l_mixed (hr.mono (by decide)) rfl T.g_l_mixed T.f_l_mixed.kp T.b_l_mixed .nil pass0 (pa_cons (pe_ix (q_ixLK (K := K) rfl) (qv 0) pe_int (fun _ _ => rfl)) (pa_cons (pe_ix (q_ixLK (K := K) rfl) (qv 0) pe_int (fun _ _ => rfl)) pa_nil))))
    (pss_one (ps_ret (pe_op q_mod (pe_op q_fdiv (pe_op q_add (pe_op q_mul (qv 3) pe_int) (pe_call G_l_mixed (hr.mono (by decide)) rfl T.g_l_mixed T.f_l_mixed.kp T.b_l_mixed .nil pass0 (pa_cons (pe_op q_add (pe_ix (q_ixLK (K := K) rfl) (qv 0) pe_int (fun _ _ => rfl)) (qv 3)) (pa_cons (pe_op q_add (pe_ix (q_ixLK (K := K) rfl) (qv 0) pe_int (fun _ _ => rfl)) pe_int) pa_nil)))) pe_int) (qv 1))))))), ?_⟩
      walk_at "w"
      refine ⟨_, _, SqL.of hb, rfl, ?_⟩
      walk_at "w"
      refine ifB.mk (fun _ => ?_) (fun _ => ?_)
      · walk_at "w"
        refine ⟨_, _, SqL.of hb, rfl, ?_⟩
        walk_at "w"
        refine ⟨hk.1, fun d _ ⟨d0, d1⟩ => ?_⟩
        walk_at "w"
        refine ⟨_, _, SqL.of hb, rfl, ?_⟩
        walk_at "w"
        refine ⟨hk, fun q _ _ => ?_⟩
        walk_at "w"
        refine ⟨_, 0, hb, rfl, ?_⟩
        exact h d q m d0 d1 (Int.le_refl _) (by omega)
      · walk_at "w"
        refine ⟨_, _, SqL.of hb, rfl, ?_⟩
        walk_at "w"
        refine ⟨_, 2, hb, rfl, ?_⟩
        generalize hU : upd H b _ = H1
        have hb1 : H1 b = some (.lst [.int n, .int c, .int (m + 2)]) := by rw [← hU]; exact upd_same
        have fin : ∀ d, 0 ≤ d → d < k → Q (.int d) H1 := fun d d0 d1 => by rw [← hU]; exact h d n (m + 2) d0 d1 (by omega) (by omega)
        clear h hU
        walk_at "w"
        refine ⟨_, _, SqL.of hb1, rfl, ?_⟩
        walk_at "w"
        refine ⟨_, _, SqL.of hb1, rfl, ?_⟩
        walk_at "w"
        refine ⟨⟨by omega, by omega⟩, fun n1 n10 n11 => ?_⟩
        walk_at "w"
        refine ⟨.inr ⟨by decide, by decide⟩, fun m1 _ _ => ?_⟩
        walk_at "w"
        refine ⟨_, _, SqL.of hb1, rfl, ?_⟩
        walk_at "w"
        refine ⟨_, _, SqL.of hb1, rfl, ?_⟩
        walk_at "w"
        refine ⟨⟨by omega, by omega⟩, fun n2 n20 n21 => ?_⟩
        walk_at "w"
        refine ⟨⟨by decide, by decide⟩, fun m2 _ _ => ?_⟩
        walk_at "w"
        refine ⟨hk.1, fun d _ ⟨d0, d1⟩ => ?_⟩
        exact fin d d0 d1
    · exact h.elim
theorem sc_is_entry : FnScope ["entry", "rows", "signs", "sign", "way", "row"] ["entry", "rows", "signs"] (defScope s_is_entry) := ⟨rfl, rfl, rfl, by decide +kernel, rfl, by decide +kernel, by decide +kernel⟩
def sp_is_entry : Sp := fun vs H Q _ => match vs with
  | [.ref b, .int rows, .int signs] => ∃ e : En, Ent H b e ∧ ∀ H', Sub H H' → Q (.bl (entryOk rows signs e)) H'
  | _ => False
theorem ent_at {K : PySem.W.Frag} {H : Hp} {b : Addr} {e : En} (h : Ent H b e) : SqT K H b (e.map V.int) := SqT.of h
theorem in_two {y : Int} : (decide (y = -1) || decide (y = 1)) = inV (.int y) [.int (-1), .int 1] := by
  unfold inV
  simp only [List.any_cons, List.any_nil, eqV, Bool.or_false]
  by_cases h1 : y = -1
  · subst h1; rfl
  · by_cases h2 : y = 1
    · subst h2; rfl
    · have h3 : ¬ (-1 = y) := fun e => h1 e.symm
      have h4 : ¬ (1 = y) := fun e => h2 e.symm
      simp [h1, h2, h3, h4]
theorem ok_is_entry (T : Tx K mg a) : FnOk P w K mg base CX0 1 a.is_entry a.is_entry_d ["entry", "rows", "signs"] (sp_is_entry) := by
  refine T.f_is_entry.ok sc_is_entry (fun vs H Q E h => ?_) (fun cdv A outer s H vs Q E hr h => ?_)
  · unfold sp_is_entry at h
    split at h
    · rfl
    · exact h.elim
  · unfold sp_is_entry at h
    split at h
    · have nd := sc_is_entry.nd
      have hu := hu_of hr
      rename_i b rows signs
      obtain ⟨e, hb, h⟩ := h
      refine ⟨_, (pss_cons (ps_c (pt_c q_eq (pe_callB (q_lenK (K := K) rfl) rfl T.z_len bt_len (pa_cons (qv 0) pa_nil)) pe_int) (pss_one (ps_ret pe_bl)) pss_nil)
    (pss_cons (ps_c (pt_c q_ne (pe_callB (q_lenK (K := K) rfl) rfl T.z_len bt_len (pa_cons (qv 0) pa_nil)) pe_int) (pss_one (ps_ret pe_bl)) pss_nil)
    (pss_cons (ps_asg (qv 0) (qg_tupK (K := K) (n := 3) rfl rfl (qgs_cons (pg_name (i := 3) nd rfl (by first | exact Or.inl rfl | exact Or.inr rfl)) (qgs_cons (pg_name (i := 4) nd rfl (by first | exact Or.inl rfl | exact Or.inr rfl)) (qgs_cons (pg_name (i := 5) nd rfl (by first | exact Or.inl rfl | exact Or.inr rfl)) qgs_nil)))))
    (pss_one (ps_ret (pe_andC (pe_ch q_le q_lt pe_int (qv 3) (qv 2)) (pe_andC (pe_cmpR (q_inK (K := K) rfl) (qv 4) (pe_tup (pa_cons (pe_un q_neg pe_int) (pa_cons pe_int pa_nil))) (by first | exact nomark _ | rfl)) (pe_one (pe_ch q_le q_lt pe_int (qv 5) (qv 1)))))))))), ?_⟩
      walk_at "w"
      refine ⟨_, .inr (ent_at hb), ?_⟩
      walk_at "w"
      refine ifB.dec (fun h0 => ?_) (fun h0 => ?_)
      · have e0 : e = [] := by cases e with
          | nil => rfl
          | cons x r => simp at h0; omega
        subst e0
        exact h H Sub.refl
      · walk_at "w"
        refine ⟨_, .inr (ent_at hb), ?_⟩
        walk_at "w"
        refine ifB.mk (fun h3 => ?_) (fun h3 => ?_)
        · have : entryOk rows signs e = false := by
            match e, h0, h3 with
            | [], h0, _ => simp at h0
            | [_], _, _ => rfl
            | [_, _], _, _ => rfl
            | [_, _, _], _, h3 => simp at h3
            | _ :: _ :: _ :: _ :: _, _, _ => rfl
          have h := h H Sub.refl
          rw [this] at h
          exact h
        · obtain ⟨x, y, z, rfl⟩ : ∃ x y z, e = [x, y, z] := by
            match e, h3 with
            | [], h3 => simp at h3
            | [_], h3 => simp at h3
            | [_, _], h3 => simp at h3
            | [x, y, z], _ => exact ⟨x, y, z, rfl⟩
            | _ :: _ :: _ :: _ :: _, h3 => simp at h3; omega
          walk_at "w"
          refine ⟨_, ent_at hb, rfl, ?_⟩
          walk_at "w"
          have fin : ∀ (c : Bool) (H' : Hp), Sub H H' → entryOk rows signs [x, y, z] = c → Q (.bl c) H' := fun c H' S e => e ▸ h H' S
          have hd : entryOk rows signs [x, y, z] = ((decide (0 ≤ x) && decide (x < signs)) && (decide (y = -1) || decide (y = 1)) && (decide (0 ≤ z) && decide (z < rows))) := rfl
          refine ifB.dec (fun h1 => ?_) (fun h1 => ?_)
          · walk_at "w"
            refine ifB.dec (fun h2 => ?_) (fun h2 => ?_)
            · walk_at "w"
              refine ⟨by show 2 ≤ sizeLine; decide, ?_⟩
              intro p1 n1
              generalize hU1 : upd _ p1 _ = H1
              obtain ⟨S1, e1⟩ := upd_sub n1 hU1
              clear hU1
              walk_at "w"
              refine ⟨_, .inr (SqT.of e1), rfl, rfl, ?_⟩
              walk_at "w"
              refine ifB.mk (fun h3 => ?_) (fun h3 => ?_)
              · have h3 : (decide (y = -1) || decide (y = 1)) = true := by rw [← h3]; exact in_two
                walk_at "w"
                refine ifB.dec (fun h4 => ?_) (fun h4 => ?_)
                · exact fin _ _ S1 (by rw [hd, h3]; simp [h1, h2, h4])
                · exact fin _ _ S1 (by rw [hd, h3]; simp [h1, h2, h4])
              · have h3 : (decide (y = -1) || decide (y = 1)) = false := by rw [← h3]; exact in_two
                exact fin _ _ S1 (by rw [hd, h3]; simp)
            · exact fin _ _ Sub.refl (by rw [hd]; simp [h2])
          · walk_at "w"
            refine ifB.no rfl ?_
            exact fin false _ Sub.refl (by rw [hd]; simp [h1])
    · exact h.elim
theorem sc_is_row : FnScope ["row", "rows", "signs"] ["row", "rows", "signs"] (defScope s_is_row) := ⟨rfl, rfl, rfl, by decide +kernel, rfl, by decide +kernel, by decide +kernel⟩
def sp_is_row : Sp := fun vs H Q _ => match vs with
  | [.ref b, .int rows, .int signs] => ∃ es : List En, Row H b es ∧ es.length ≤ 100 ∧ ∀ H', Sub H H' → Q (.bl (rowOk rows signs es)) H'
  | _ => False
theorem all_id (f : α → Bool) (l : List α) : (l.map f).all id = l.all f := by rw [List.all_map]; rfl
theorem ok_is_row (T : Tx K mg a) : FnOk P w K mg base CX0 2 a.is_row a.is_row_d ["row", "rows", "signs"] (sp_is_row) := by
  have G_is_entry := ok_is_entry (P := P) (w := w) (base := base) T
  refine T.f_is_row.ok sc_is_row (fun vs H Q E h => ?_) (fun cdv A outer s H vs Q E hr h => ?_)
  · unfold sp_is_row at h
    split at h
    · rfl
    · exact h.elim
  · unfold sp_is_row at h
    split at h
    · have nd := sc_is_row.nd
      have hu := hu_of hr
      rename_i b rows signs
      obtain ⟨es, ⟨as, hb, ha⟩, hlen, h⟩ := h
      refine ⟨_, (pss_one (ps_ret (pe_andC (pe_cmpR q_eq (pe_callB (q_lenK (K := K) rfl) rfl T.z_len bt_len (pa_cons (qv 0) pa_nil)) (qv 2) (by first | exact nomark _ | rfl)) (pe_one (pe_callB (q_allK (K := K) rfl rfl) rfl T.z_all bt_all (pa_cons (pe_lc (own := ["entry"]) (fr := [1, 2]) rfl (by walk_at "comp_ok") (qi_listK (K := K) rfl (qv 0)) (fun _ _ _ _ => (pg_name (i := 0) (show List.Nodup (α := Str) ["entry", "rows", "signs"] from by decide +kernel) rfl (by first | exact Or.inl rfl | exact Or.inr rfl))) (fun _ _ _ _ => pts_nil) (fun _ _ _ _ => (pe_call G_is_entry (hr.mono (by decide)) rfl T.g_is_entry T.f_is_entry.kp T.b_is_entry .nil pass0 (pa_cons (qv 0) (pa_cons (qv 1) (pa_cons (qv 2) pa_nil)))))) pa_nil)))))), ?_⟩
      walk_at "w"
      refine ⟨_, .inl (SqL.of hb), ?_⟩
      walk_at "w"
      have el : ((as.map V.ref).length : Int) = es.length := by rw [List.length_map, ha.1]
      rw [el]
      refine ifB.dec (fun h1 => ?_) (fun h1 => ?_)
      · walk_at "w"
        refine ⟨⟨_, SqL.of hb⟩, ?_⟩
        intro p1 n1
        refine comp_list (K := K) (a := b) (xs := as.map V.ref) (fun i σ H4 => ∃ v : Option V, σ = [v, some (.int rows), some (.int signs)] ∧ Sub H H4 ∧ H4 p1 = some (.lst (((es.take i).map (entryOk rows signs)).map V.bl))) ?_ ?_ ?_ ?_
        · exact ⟨none, rfl, Sub.new n1, by rw [upd_same]; rfl⟩
        · rintro i σ H4 _ ⟨v, rfl, S4, _⟩
          exact SqL.of (S4 _ _ hb)
        · rintro i x σ H4 hi ⟨v, rfl, S4, g4⟩
          rw [List.getElem?_map] at hi
          obtain ⟨c, hc, rfl⟩ := Option.map_eq_some_iff.1 hi
          obtain ⟨e, he, hE⟩ := ha.at hc
          walk_at "w"
          refine ⟨e, S4 _ _ hE, fun H5 S5 => ?_⟩
          walk_at "w"
          refine ⟨_, S5 _ _ g4, ?_, _, rfl, (S4.trans S5).upd n1, ?_⟩
          · rw [List.length_map, List.length_map, List.length_take]; exact Nat.lt_of_le_of_lt (Nat.min_le_right _ _) (Nat.lt_of_le_of_lt hlen (by decide))
          · rw [upd_same, List.take_add_one, he, List.map_append, List.map_append]; rfl
        · rintro σ H4 ⟨v, rfl, S4, g4⟩
          rw [List.length_map, ha.1, List.take_length] at g4
          walk_at "w"
          refine ⟨_, SqL.of g4, ?_⟩
          rw [all_id]
          have h := h H4 S4
          unfold rowOk at h
          rw [decide_eq_true h1, Bool.true_and] at h
          exact h
      · have h := h H Sub.refl
        unfold rowOk at h
        rw [decide_eq_false h1, Bool.false_and] at h
        exact h
    · exact h.elim
theorem sc_is_machine : FnScope ["machine", "rows", "signs"] ["machine"] (defScope s_is_machine) := ⟨rfl, rfl, rfl, by decide +kernel, rfl, by decide +kernel, by decide +kernel⟩
def Bd (k : Nat) (m : Ma) : Prop := m.length ≤ k ∧ ∀ r ∈ m, r.length ≤ k
def sp_is_machine : Sp := fun vs H Q _ => match vs with
  | [.ref b] => ∃ m : Ma, Mach H b m ∧ Bd 100 m ∧ ∀ H', Sub H H' → Q (.bl (isM m)) H'
  | _ => False
theorem isM_long {m : Ma} (h : ¬ m.length ≤ 4) : isM m = false := by
  unfold isM
  cases m with
  | nil => rfl
  | cons r m => simp only; rw [decide_eq_false h]; rfl
theorem ok_is_machine (T : Tx K mg a) : FnOk P w K mg base CX0 3 a.is_machine a.is_machine_d ["machine"] (sp_is_machine) := by
  have G_is_row := ok_is_row (P := P) (w := w) (base := base) T
  refine T.f_is_machine.ok sc_is_machine (fun vs H Q E h => ?_) (fun cdv A outer s H vs Q E hr h => ?_)
  · unfold sp_is_machine at h
    split at h
    · rfl
    · exact h.elim
  · unfold sp_is_machine at h
    split at h
    · have nd := sc_is_machine.nd
      have hu := hu_of hr
      rename_i b
      obtain ⟨m, ⟨rs, hb, hnd, hrw⟩, ⟨hl1, hl2⟩, h⟩ := h
      refine ⟨_, (pss_cons (ps_set (i := 1) nd rfl (by first | exact Or.inl rfl | exact Or.inr rfl) (pe_callB (q_lenK (K := K) rfl) rfl T.z_len bt_len (pa_cons (qv 0) pa_nil)))
    (pss_cons (ps_c (pt_not (pt_ch q_le q_le pe_int (qv 1) (pe_cv rfl T.c_MOST_ROWS))) (pss_one (ps_ret pe_bl)) pss_nil)
    (pss_cons (ps_set (i := 2) nd rfl (by first | exact Or.inl rfl | exact Or.inr rfl) (pe_callB (q_lenK (K := K) rfl) rfl T.z_len bt_len (pa_cons (pe_ix (q_ixLK (K := K) rfl) (qv 0) pe_int (fun _ _ => rfl)) pa_nil)))
    (pss_cons (ps_c (pt_not (pt_ch q_le q_le (pe_cv rfl T.c_LEAST_SIGNS) (qv 2) (pe_cv rfl T.c_MOST_SIGNS))) (pss_one (ps_ret pe_bl)) pss_nil)
    (pss_one (ps_ret (pe_callB (q_allK (K := K) rfl rfl) rfl T.z_all bt_all (pa_cons (pe_lc (own := ["row"]) (fr := [1, 2]) rfl (by walk_at "comp_ok") (qi_listK (K := K) rfl (qv 0)) (fun _ _ _ _ => (pg_name (i := 0) (show List.Nodup (α := Str) ["row", "rows", "signs"] from by decide +kernel) rfl (by first | exact Or.inl rfl | exact Or.inr rfl))) (fun _ _ _ _ => pts_nil) (fun _ _ _ _ => (pe_call G_is_row (hr.mono (by decide)) rfl T.g_is_row T.f_is_row.kp T.b_is_row .nil pass0 (pa_cons (qv 0) (pa_cons (qv 1) (pa_cons (qv 2) pa_nil)))))) pa_nil)))))))), ?_⟩
      walk_at "w"
      refine ⟨_, .inl (SqL.of hb), ?_⟩
      walk_at "w"
      have el : ((rs.map V.ref).length : Int) = m.length := by rw [List.length_map, hrw.1]
      rw [el]
      have fin : ∀ (c : Bool) (H' : Hp), Sub H H' → isM m = c → Q (.bl c) H' := fun c H' S e => e ▸ h H' S
      refine ifB.dec (fun h1 => ?_) (fun h1 => ?_)
      · walk_at "w"
        refine ifB.ndec (fun h2 => ?_) (fun h2 => ?_)
        · obtain ⟨r0, m', rfl⟩ : ∃ r0 m', m = r0 :: m' := by
            cases m with
            | nil => simp at h1
            | cons r m => exact ⟨r, m, rfl⟩
          obtain ⟨q0, rs', rfl⟩ : ∃ q0 rs', rs = q0 :: rs' := by
            cases rs with
            | nil => have := hrw.1; simp at this
            | cons r rs => exact ⟨r, rs, rfl⟩
          obtain ⟨as0, hq0, ha0⟩ := hrw.2 0 q0 r0 rfl rfl
          walk_at "w"
          refine ⟨_, _, SqL.of hb, atI_nat (j := 0) rfl, ?_⟩
          walk_at "w"
          refine ⟨_, .inl (SqL.of hq0), ?_⟩
          walk_at "w"
          have el0 : ((as0.map V.ref).length : Int) = r0.length := by rw [List.length_map, ha0.1]
          rw [el0]
          have hd : isM (r0 :: m') = (decide ((r0 :: m').length ≤ 4) && decide (2 ≤ r0.length) && decide (r0.length ≤ 4) && (r0 :: m').all (rowOk (r0 :: m').length r0.length)) := rfl
          refine ifB.dec (fun h3 => ?_) (fun h3 => ?_)
          · walk_at "w"
            refine ifB.ndec (fun h4 => ?_) (fun h4 => ?_)
            · walk_at "w"
              refine ⟨⟨_, SqL.of hb⟩, ?_⟩
              intro p1 n1
              refine comp_list (K := K) (a := b) (xs := (q0 :: rs').map V.ref) (fun i σ H4 => ∃ v : Option V, σ = [v, some (.int (r0 :: m').length), some (.int r0.length)] ∧ Sub H H4 ∧ H4 p1 = some (.lst ((((r0 :: m').take i).map (rowOk (r0 :: m').length r0.length)).map V.bl))) ?_ ?_ ?_ ?_
              · exact ⟨none, rfl, Sub.new n1, by rw [upd_same]; rfl⟩
              · rintro i σ H4 _ ⟨v, rfl, S4, _⟩
                exact SqL.of (S4 _ _ hb)
              · rintro i x σ H4 hi ⟨v, rfl, S4, g4⟩
                rw [List.getElem?_map] at hi
                obtain ⟨c, hc, rfl⟩ := Option.map_eq_some_iff.1 hi
                obtain ⟨e, he, hE⟩ := hrw.at hc
                walk_at "w"
                refine ⟨e, hE.stay (.sub S4), hl2 e (List.mem_of_getElem? he), fun H5 S5 => ?_⟩
                walk_at "w"
                refine ⟨_, S5 _ _ g4, ?_, _, rfl, (S4.trans S5).upd n1, ?_⟩
                · rw [List.length_map, List.length_map, List.length_take]; exact Nat.lt_of_le_of_lt (Nat.min_le_right _ _) (Nat.lt_of_le_of_lt hl1 (by decide))
                · rw [upd_same, List.take_add_one, he, List.map_append, List.map_append]; rfl
              · rintro σ H4 ⟨v, rfl, S4, g4⟩
                rw [List.length_map, hrw.1, List.take_length] at g4
                walk_at "w"
                refine ⟨_, SqL.of g4, ?_⟩
                rw [all_id]
                refine fin _ _ S4 ?_
                rw [hd, decide_eq_true (show (r0 :: m').length ≤ 4 by omega), decide_eq_true (show 2 ≤ r0.length by omega), decide_eq_true (show r0.length ≤ 4 by omega)]
                rfl
            · exact fin false _ Sub.refl (by rw [hd, decide_eq_false (show ¬ r0.length ≤ 4 by omega)]; simp)
          · walk_at "w"
            refine ifB.yes rfl ?_
            exact fin false _ Sub.refl (by rw [hd, decide_eq_false (show ¬ 2 ≤ r0.length by omega)]; simp)
        · exact fin false _ Sub.refl (isM_long (by omega))
      · walk_at "w"
        refine ifB.yes rfl ?_
        exact fin false _ Sub.refl (by cases m with
          | nil => rfl
          | cons r m => simp at h1; omega)
    · exact h.elim
theorem sc_must_machine : FnScope ["machine"] ["machine"] (defScope s_must_machine) := ⟨rfl, rfl, rfl, by decide +kernel, rfl, by decide +kernel, by decide +kernel⟩
def sp_must_machine (a : Ad) : Sp := fun vs H Q E => match vs with
  | [.ref b] => ∃ m : Ma, Mach H b m ∧ Bd 100 m ∧ (isM m = true → ∀ H', Sub H H' → Q .non H') ∧ (isM m = false → ∀ H', Sub H H' → E (.ref a.NoMachine) none H')
  | _ => False
theorem ok_must_machine (T : Tx K mg a) : FnOk P w K mg base (CXE P w) 4 a.must_machine a.must_machine_d ["machine"] (sp_must_machine a) := by
  have G_is_machine := ok_is_machine (P := P) (w := w) (base := base) T
  refine T.f_must_machine.okE sc_must_machine (fun vs H Q E h => ?_) (fun cdv A outer s H vs Q E hr h => ?_)
  · unfold sp_must_machine at h
    split at h
    · rfl
    · exact h.elim
  · unfold sp_must_machine at h
    split at h
    · have nd := sc_must_machine.nd
      have hu := hu_of hr
      rename_i b
      obtain ⟨m, hm, hb, h1, h2⟩ := h
      refine ⟨_, (pss_one (ps_c (pt_not (pt_e (pe_call G_is_machine (hr.mono (by decide)) rfl T.g_is_machine T.f_is_machine.kp T.b_is_machine .nil pass0 (pa_cons (qv 0) pa_nil)))) (pss_one (ps_raise rfl T.e_NoMachine rfl T.g_NoMachine wants_fn (pa_cons pe_str pa_nil))) pss_nil)), ?_⟩
      walk_at "w"
      refine ⟨m, hm, hb, fun H1 S1 => ?_⟩
      walk_at "w"
      refine ifB.mk (fun e => ?_) (fun e => ?_)
      · have e : isM m = false := by simpa using e
        walk_at "w"
        exact ⟨by show 1 ≤ sizeLine; decide, h2 e H1 S1⟩
      · have e : isM m = true := by simpa using e
        exact h1 e H1 S1
    · exact h.elim
theorem sc_l_laid : FnScope ["_law_runs_here", "_law_sign", "_law_many"] ["_law_runs_here", "_law_sign", "_law_many"] (defScope s_l_laid) := ⟨rfl, rfl, rfl, by decide +kernel, rfl, by decide +kernel, by decide +kernel⟩
def sp_laid : Sp := fun vs H Q _ => match vs with
  | [.ref r, .int s, .int m] => ∃ rs : Mk2, Strip H r rs ∧ rs.length ≤ 1000 ∧ ∀ (p : Addr) (H' : Hp), Sub H H' → Strip H' p (laid rs s m) → Q (.ref p) H'
  | _ => False
theorem ok_l_laid (T : Tx K mg a) : FnOk P w K mg base CX0 1 a.l_laid a.l_laid_d ["_law_runs_here", "_law_sign", "_law_many"] (sp_laid) := by
  refine T.f_l_laid.ok sc_l_laid (fun vs H Q E h => ?_) (fun cdv A outer s H vs Q E hr h => ?_)
  · unfold sp_laid at h
    split at h
    · rfl
    · exact h.elim
  · unfold sp_laid at h
    split at h
    · have nd := sc_l_laid.nd
      have hu := hu_of hr
      rename_i r s' m
      obtain ⟨rs, ⟨as, hr1, hA⟩, hlen, h⟩ := h
      have al : as.length = rs.length := by rw [hA.1, List.length_map]
      refine ⟨_, (pss_cons (ps_c (PW.pt (pw_orR (pt_c q_eq (qv 2) pe_int) (qw_or1 (PW.pt (pw_andR (pt_c (op_eqD hr) (qv 0) (pe_lst pa_nil)) (qw_and1 (pt_c q_eq (qv 1) pe_int))))))) (pss_one (ps_ret (qv 0))) pss_nil)
    (pss_cons (ps_c (PW.pt (pw_andR (pt_c (op_neD hr) (qv 0) (pe_lst pa_nil)) (qw_and1 (pt_c q_eq (pe_ix (q_ixTK (K := K) rfl) (pe_ix (q_ixLK (K := K) rfl) (qv 0) pe_int (fun _ _ => rfl)) pe_int (fun _ _ => rfl)) (qv 1))))) (pss_one (ps_ret (pe_op q_cat (pe_lst (pa_cons (pe_tup (pa_cons (qv 1) (pa_cons (pe_op q_add (pe_ix (q_ixTK (K := K) rfl) (pe_ix (q_ixLK (K := K) rfl) (qv 0) pe_int (fun _ _ => rfl)) pe_int (fun _ _ => rfl)) (qv 2)) pa_nil))) pa_nil)) (pe_slice (q_slLK (K := K) rfl) (qv 0) (qo_some pe_int) po_none)))) pss_nil)
    (pss_one (ps_ret (pe_op q_cat (pe_lst (pa_cons (pe_tup (pa_cons (qv 1) (pa_cons (qv 2) pa_nil))) pa_nil)) (qv 0)))))), ?_⟩
      walk_at "w"
      refine ifB.mk (fun z => ?_) (fun z => ?_)
      · have z : m = 0 := of_decide_eq_true z
        refine ifB.yes rfl ?_
        exact h r H Sub.refl (by rw [laid_no (.inl z)]; exact ⟨as, hr1, hA⟩)
      · have z : ¬ m = 0 := of_decide_eq_false z
        walk_at "w"
        refine ⟨Nat.zero_le _, ?_⟩
        intro p1 n1
        generalize hU1 : upd _ p1 _ = H1
        obtain ⟨S1, e1⟩ := upd_sub n1 hU1
        clear hU1
        walk_at "w"
        refine ⟨_, _, Strip.den (Strip.sub S1 ⟨as, hr1, hA⟩), den_nil e1, dep_dLs _, ?_⟩
        rw [eqD_nil]
        walk_at "w"
        cases rs with
        | nil =>
          obtain rfl : as = [] := List.eq_nil_of_length_eq_zero al
          refine ifB.yes rfl ?_
          walk_at "w"
          refine ifB.mk (fun y => ?_) (fun y => ?_)
          · have y : s' = 0 := of_decide_eq_true y
            exact h r H1 S1 (by rw [laid_no (.inr ⟨rfl, y⟩)]; exact ⟨[], S1 _ _ hr1, .nil⟩)
          · have y : ¬ s' = 0 := of_decide_eq_false y
            have T1 := S1
            walk_at "w"
            refine ⟨Nat.zero_le _, ?_⟩
            intro p2 n2
            generalize hU2 : upd _ p2 _ = H2
            obtain ⟨S2, e2⟩ := upd_sub n2 hU2
            clear hU2
            have T2 := T1.trans S2
            walk_at "w"
            refine ⟨_, _, Strip.den (ks := []) (Strip.sub T2 ⟨[], hr1, .nil⟩), den_nil e2, dep_dLs _, ?_⟩
            walk_at "w"
            refine ifB.no rfl ?_
            walk_at "w"
            refine ifB.no rfl ?_
            walk_at "w"
            refine ⟨by show 2 ≤ sizeLine; decide, ?_⟩
            intro p3 n3
            generalize hU3 : upd _ p3 _ = H3
            obtain ⟨S3, e3⟩ := upd_sub n3 hU3
            clear hU3
            have T3 := T2.trans S3
            walk_at "w"
            refine ⟨by show 1 ≤ sizeLine; decide, ?_⟩
            intro p4 n4
            generalize hU4 : upd _ p4 _ = H4
            obtain ⟨S4, e4⟩ := upd_sub n4 hU4
            clear hU4
            have T4 := T3.trans S4
            walk_at "w"
            refine ⟨_, _, e4, T4 _ _ hr1, by show 1 ≤ sizeLine; decide, ?_⟩
            intro p5 n5
            generalize hU5 : upd _ p5 _ = H5
            obtain ⟨S5, e5⟩ := upd_sub n5 hU5
            clear hU5
            have T5 := T4.trans S5
            refine h p5 H5 T5 ?_
            rw [laid_nil (by rintro (u | ⟨_, u⟩); exact z u; exact y u)]
            exact Strip.ahead (as := []) (q := (s', m)) e5 (S5 _ _ (S4 _ _ e3)) .nil
        | cons q rs =>
          cases as with
          | nil => cases al
          | cons a0 as =>
          obtain ⟨h0, hA'⟩ := All2.tail hA
          refine ifB.no rfl ?_
          have T1 := S1
          walk_at "w"
          refine ifB.no rfl ?_
          walk_at "w"
          refine ⟨Nat.zero_le _, ?_⟩
          intro p2 n2
          generalize hU2 : upd _ p2 _ = H2
          obtain ⟨S2, e2⟩ := upd_sub n2 hU2
          clear hU2
          have T2 := T1.trans S2
          walk_at "w"
          refine ⟨_, _, Strip.den (Strip.sub T2 ⟨_, hr1, hA⟩), den_nil e2, dep_dLs _, ?_⟩
          walk_at "w"
          refine ifB.yes rfl ?_
          walk_at "w"
          refine ⟨_, _, SqL.of (T2 _ _ hr1), atI_nat (j := 0) rfl, ?_⟩
          walk_at "w"
          refine ⟨_, _, SqT.of (T2 _ _ h0), atI_nat (j := 0) rfl, ?_⟩
          walk_at "w"
          refine ifB.mk (fun y => ?_) (fun y => ?_)
          · have y : q.1 = s' := of_decide_eq_true y
            walk_at "w"
            refine ⟨_, _, SqL.of (T2 _ _ hr1), atI_nat (j := 0) rfl, ?_⟩
            walk_at "w"
            refine ⟨_, _, SqT.of (T2 _ _ h0), atI_nat (j := 1) rfl, ?_⟩
            walk_at "w"
            refine ⟨by show 2 ≤ sizeLine; decide, ?_⟩
            intro p3 n3
            generalize hU3 : upd _ p3 _ = H3
            obtain ⟨S3, e3⟩ := upd_sub n3 hU3
            clear hU3
            have T3 := T2.trans S3
            walk_at "w"
            refine ⟨by show 1 ≤ sizeLine; decide, ?_⟩
            intro p4 n4
            generalize hU4 : upd _ p4 _ = H4
            obtain ⟨S4, e4⟩ := upd_sub n4 hU4
            clear hU4
            have T4 := T3.trans S4
            walk_at "w"
            refine ⟨_, SqL.of (T4 _ _ hr1), ?_⟩
            intro p5 n5
            generalize hU5 : upd _ p5 _ = H5
            obtain ⟨S5, e5⟩ := upd_sub n5 hU5
            clear hU5
            have T5 := T4.trans S5
            rw [cut_tail (by simp)] at e5
            walk_at "w"
            refine ⟨_, _, S5 _ _ e4, e5, ?_, ?_⟩
            · show 1 + (as.map V.ref).length ≤ sizeLine
              rw [List.length_map]
              simp only [List.length_cons] at al hlen
              exact Nat.le_trans (show 1 + as.length ≤ 1001 by omega) (by decide)
            intro p6 n6
            generalize hU6 : upd _ p6 _ = H6
            obtain ⟨S6, e6⟩ := upd_sub n6 hU6
            clear hU6
            have T6 := T5.trans S6
            refine h p6 H6 T6 ?_
            rw [laid_on z y]
            exact Strip.ahead (as := as) (q := (s', q.2 + m)) e6 (S6 _ _ (S5 _ _ (S4 _ _ e3))) (hA'.mono fun _ _ _ z => T6 _ _ z)
          · have y : ¬ q.1 = s' := of_decide_eq_false y
            walk_at "w"
            refine ⟨by show 2 ≤ sizeLine; decide, ?_⟩
            intro p3 n3
            generalize hU3 : upd _ p3 _ = H3
            obtain ⟨S3, e3⟩ := upd_sub n3 hU3
            clear hU3
            have T3 := T2.trans S3
            walk_at "w"
            refine ⟨by show 1 ≤ sizeLine; decide, ?_⟩
            intro p4 n4
            generalize hU4 : upd _ p4 _ = H4
            obtain ⟨S4, e4⟩ := upd_sub n4 hU4
            clear hU4
            have T4 := T3.trans S4
            walk_at "w"
            refine ⟨_, _, e4, T4 _ _ hr1, ?_, ?_⟩
            · show 1 + ((a0 :: as).map V.ref).length ≤ sizeLine
              rw [List.length_map, al]
              exact Nat.le_trans (show 1 + (q :: rs).length ≤ 1001 by omega) (by decide)
            intro p5 n5
            generalize hU5 : upd _ p5 _ = H5
            obtain ⟨S5, e5⟩ := upd_sub n5 hU5
            clear hU5
            have T5 := T4.trans S5
            refine h p5 H5 T5 ?_
            rw [laid_off z y]
            exact Strip.ahead (as := a0 :: as) (q := (s', m)) e5 (S5 _ _ (S4 _ _ e3)) (hA.mono fun _ _ _ z => T5 _ _ z)
    · exact h.elim
theorem sc_l_are_runs : FnScope ["_law_runs_here", "_law_side_here", "_law_one"] ["_law_runs_here"] (defScope s_l_are_runs) := ⟨rfl, rfl, rfl, by decide +kernel, rfl, by decide +kernel, by decide +kernel⟩
def sp_are_runs : Sp := fun vs H Q _ => match vs with
  | [.ref f] => ∃ (l r : Addr) (v : Int) (rs1 rs2 : Mk2), H f = some (.tup [.ref l, .int v, .ref r]) ∧ Strip H l rs1 ∧ Strip H r rs2 ∧ ∀ H' : Hp, Sub H H' → Q (.bl true) H'
  | _ => False
theorem ok_l_are_runs (T : Tx K mg a) : FnOk P w K mg base CX0 2 a.l_are_runs a.l_are_runs_d ["_law_runs_here"] (sp_are_runs) := by
  have G_l_whole := ok_l_whole (P := P) (w := w) (base := base) T
  refine T.f_l_are_runs.ok sc_l_are_runs (fun vs H Q E h => ?_) (fun cdv A outer s H vs Q E hr h => ?_)
  · unfold sp_are_runs at h
    split at h
    · rfl
    · exact h.elim
  · unfold sp_are_runs at h
    split at h
    · have nd := sc_l_are_runs.nd
      have hu := hu_of hr
      rename_i f
      obtain ⟨l, r, v, rs1, rs2, hf, h1, h2, h⟩ := h
      refine ⟨_, (pss_cons (ps_c (PW.pt (pw_orR (pt_not (pt_e (pe_callB (q_isiK (K := K) rfl) rfl T.z_isinstance bt_isinstance (pa_cons (qv 0) (pa_cons (pe_bltn (v := V.ty "tuple") rfl T.z_tuple bt_tuple rfl) pa_nil))))) (pw_orR (pt_c q_ne (pe_callB (q_lenK (K := K) rfl) rfl T.z_len bt_len (pa_cons (qv 0) pa_nil)) pe_int) (qw_or1 (pt_not (pt_e (pe_call G_l_whole (hr.mono (by decide)) rfl T.g_l_whole T.f_l_whole.kp T.b_l_whole .nil pass0 (pa_cons (pe_ix (q_ixTK (K := K) rfl) (qv 0) pe_int (fun _ _ => rfl)) pa_nil)))))))) (pss_one (ps_ret pe_bl)) pss_nil)
    (pss_cons (ps_for PassesOwn.never rfl (qi_tupK (K := K) rfl (pe_tup (pa_cons (pe_ix (q_ixTK (K := K) rfl) (qv 0) pe_int (fun _ _ => rfl)) (pa_cons (pe_ix (q_ixTK (K := K) rfl) (qv 0) pe_int (fun _ _ => rfl)) pa_nil)))) (pg_name (i := 1) nd rfl (by first | exact Or.inl rfl | exact Or.inr rfl)) (pss_cons (ps_c (pt_not (pt_e (pe_callB (q_isiK (K := K) rfl) rfl T.z_isinstance bt_isinstance (pa_cons (qv 1) (pa_cons (pe_bltn (v := V.ty "list") rfl T.z_list bt_list rfl) pa_nil))))) (pss_one (ps_ret pe_bl)) pss_nil)
        (pss_one (ps_for PassesOwn.never rfl (qi_listK (K := K) rfl (qv 1)) (pg_name (i := 2) nd rfl (by first | exact Or.inl rfl | exact Or.inr rfl)) (pss_one (ps_c (PW.pt (pw_orR (pt_not (pt_e (pe_callB (q_isiK (K := K) rfl) rfl T.z_isinstance bt_isinstance (pa_cons (qv 2) (pa_cons (pe_bltn (v := V.ty "tuple") rfl T.z_tuple bt_tuple rfl) pa_nil))))) (pw_orR (pt_c q_ne (pe_callB (q_lenK (K := K) rfl) rfl T.z_len bt_len (pa_cons (qv 2) pa_nil)) pe_int) (pw_orR (pt_not (pt_e (pe_call G_l_whole (hr.mono (by decide)) rfl T.g_l_whole T.f_l_whole.kp T.b_l_whole .nil pass0 (pa_cons (pe_ix (q_ixTK (K := K) rfl) (qv 2) pe_int (fun _ _ => rfl)) pa_nil)))) (qw_or1 (pt_not (pt_e (pe_call G_l_whole (hr.mono (by decide)) rfl T.g_l_whole T.f_l_whole.kp T.b_l_whole .nil pass0 (pa_cons (pe_ix (q_ixTK (K := K) rfl) (qv 2) pe_int (fun _ _ => rfl)) pa_nil))))))))) (pss_one (ps_ret pe_bl)) pss_nil))))))
    (pss_one (ps_ret pe_bl)))), ?_⟩
      walk_at "w"
      refine ⟨_, true, .of (.tup hf), rfl, rfl, ?_⟩
      walk_at "w"
      refine ifB.no rfl ?_
      walk_at "w"
      refine ⟨_, .inr (SqT.of hf), ?_⟩
      walk_at "w"
      refine ifB.no rfl ?_
      walk_at "w"
      refine ⟨_, _, SqT.of hf, atI_nat (j := 1) rfl, ?_⟩
      walk_at "w"
      refine ifB.no rfl ?_
      walk_at "w"
      refine ⟨_, _, SqT.of hf, atI_nat (j := 0) rfl, ?_⟩
      walk_at "w"
      refine ⟨_, _, SqT.of hf, atI_nat (j := 2) rfl, ?_⟩
      walk_at "w"
      refine ⟨by show 2 ≤ sizeLine; decide, ?_⟩
      intro p1 n1
      generalize hU1 : upd _ p1 _ = H1
      obtain ⟨S1, e1⟩ := upd_sub n1 hU1
      clear hU1
      have T1 := S1
      walk_at "w"
      refine ⟨⟨_, SqT.of e1⟩, ?_⟩
      refine for_tup (K := K) (a := p1) (xs := [.ref l, .ref r]) (fun i σ H5 => ∃ v1 v2, σ = [some (.ref f), v1, v2] ∧ Sub H1 H5) ?_ ?_ ?_ ?_
      · exact ⟨none, none, rfl, Sub.refl⟩
      · rintro i σ H5 _ ⟨v1, v2, rfl, S5⟩
        exact SqT.of (S5 _ _ e1)
      · rintro i x σ H5 hi ⟨v1, v2, rfl, S5⟩
        obtain ⟨d, rs, rfl, hd⟩ : ∃ d rs, x = V.ref d ∧ Strip H d rs := by
          match i, hi with
          | 0, hi => cases hi; exact ⟨l, rs1, rfl, h1⟩
          | 1, hi => cases hi; exact ⟨r, rs2, rfl, h2⟩
        obtain ⟨as, ha, hA⟩ := hd.sub (T1.trans S5)
        walk_at "w"
        refine ⟨_, true, .of (.lst ha), rfl, rfl, ?_⟩
        walk_at "w"
        refine ifB.no rfl ?_
        walk_at "w"
        refine ⟨⟨_, SqL.of ha⟩, ?_⟩
        refine for_list (K := K) (a := d) (xs := as.map V.ref) (fun i σ H6 => ∃ v1 v2, σ = [some (.ref f), v1, v2] ∧ Sub H5 H6) ?_ ?_ ?_ ?_
        · exact ⟨_, v2, rfl, Sub.refl⟩
        · rintro i σ H6 _ ⟨v1, v2, rfl, S6⟩
          exact SqL.of (S6 _ _ ha)
        · rintro i x σ H6 hi ⟨v1, v2, rfl, S6⟩
          rw [List.getElem?_map] at hi
          obtain ⟨b, hb, rfl⟩ := Option.map_eq_some_iff.1 hi
          obtain ⟨q, hq, hbq⟩ := hA.at hb
          rw [List.getElem?_map] at hq
          obtain ⟨k, hk, rfl⟩ := Option.map_eq_some_iff.1 hq
          have hbq := S6 _ _ hbq
          walk_at "w"
          refine ⟨_, true, .of (.tup hbq), rfl, rfl, ?_⟩
          walk_at "w"
          refine ifB.no rfl ?_
          walk_at "w"
          refine ⟨_, .inr (SqT.of hbq), ?_⟩
          walk_at "w"
          refine ifB.no rfl ?_
          walk_at "w"
          refine ⟨_, _, SqT.of hbq, atI_nat (j := 0) rfl, ?_⟩
          walk_at "w"
          refine ifB.no rfl ?_
          walk_at "w"
          refine ⟨_, _, SqT.of hbq, atI_nat (j := 1) rfl, ?_⟩
          walk_at "w"
          refine ifB.no rfl ?_
          exact ⟨_, _, rfl, S6⟩
        · rintro σ H6 ⟨v1, v2, rfl, S6⟩
          exact ⟨_, _, rfl, S5.trans S6⟩
      · rintro σ H5 ⟨v1, v2, rfl, S5⟩
        exact h H5 (T1.trans S5)
    · exact h.elim
theorem sc_Side_lay : FnScope ["self", "sign", "many"] ["self", "sign", "many"] (defScope s_Side_lay) := ⟨rfl, rfl, rfl, by decide +kernel, rfl, by decide +kernel, by decide +kernel⟩
def SD (C : Addr) (H : Hp) (o l : Addr) (rs : Mk2) : Prop := (∃ dx, H o = some (.ins C dx [("runs", .ref l)])) ∧ Strip H l rs.reverse
def sp_lay (a : Ad) : Sp := fun vs H Q _ => match vs with
  | [.ref o, .int s, .int m] => ∃ (l : Addr) (rs : Mk2), SD a.Side H o l rs ∧ rs.length ≤ 1000 ∧ ∀ H' : Hp, SD a.Side H' o l (laid rs s m) → (∀ c u, H c = some u → c ≠ l → H' c = some u) → Q .non H'
  | _ => False
theorem ok_Side_lay (T : Tx K mg a) : FnOk P w K mg base CX0 1 a.Side_lay a.Side_lay_d ["self", "sign", "many"] (sp_lay a) := by
  refine T.f_Side_lay.ok sc_Side_lay (fun vs H Q E h => ?_) (fun cdv A outer s H vs Q E hr h => ?_)
  · unfold sp_lay at h
    split at h
    · rfl
    · exact h.elim
  · unfold sp_lay at h
    split at h
    · have nd := sc_Side_lay.nd
      have hu := hu_of hr
      rename_i o s' m
      obtain ⟨l, rs, ⟨⟨dx, ho⟩, as, hl, hA⟩, hlen, h⟩ := h
      have al : as.length = rs.length := by rw [hA.1, List.length_map, List.length_reverse]
      have nlo : o ≠ l := by rintro rfl; rw [ho] at hl; cases hl
      refine ⟨_, (pss_cons (ps_c (PW.pt (pw_orR (pt_c q_eq (qv 2) pe_int) (qw_or1 (PW.pt (pw_andR (pt_c q_eq (qv 1) pe_int) (qw_and1 (pt_c (op_eqD hr) (pe_fld (qv 0) rfl) (pe_lst pa_nil)))))))) (pss_one ps_retN) pss_nil)
    (pss_cons (ps_c (PW.pt (pw_andR (pt_c (op_neD hr) (pe_fld (qv 0) rfl) (pe_lst pa_nil)) (qw_and1 (pt_c q_eq (pe_ix (q_ixTK (K := K) rfl) (pe_ix (q_ixLK (K := K) rfl) (pe_fld (qv 0) rfl) (pe_un q_neg pe_int) (fun _ _ => rfl)) pe_int (fun _ _ => rfl)) (qv 1))))) (pss_one (ps_aug (i := 2) nd rfl (by first | exact Or.inl rfl | exact Or.inr rfl) (pe_ix (q_ixTK (K := K) rfl) (pe_bm0 PySem.F.plainAttrs_list PySem.F.slot_list_pop PySem.F.type_list_pop q_pop0 (pe_fld (qv 0) rfl)) pe_int (fun _ _ => rfl)) ip_add)) pss_nil)
    (pss_one (ps_expr (pe_bm PySem.F.plainAttrs_list PySem.F.slot_list_append PySem.F.type_list_append q_app (pe_fld (qv 0) rfl) (pa_cons (pe_tup (pa_cons (qv 1) (pa_cons (qv 2) pa_nil))) pa_nil)))))), ?_⟩
      walk_at "w"
      refine ifB.mk (fun z => ?_) (fun z => ?_)
      · have z : m = 0 := of_decide_eq_true z
        refine ifB.yes rfl ?_
        exact h H (by rw [laid_no (.inl z)]; exact ⟨⟨dx, ho⟩, as, hl, hA⟩) fun c u e _ => e
      · have z : ¬ m = 0 := of_decide_eq_false z
        walk_at "w"
        refine ifB.mk (fun y => ?ra) (fun y => ?rb)
        case' ra =>
          have y : s' = 0 := of_decide_eq_true y
          walk_at "w"
          refine ⟨_, _, _, _, _, rfl, ho, T.k_Side, T.n_Side_runs, rfl, ?_⟩
          walk_at "w"
          refine ⟨Nat.zero_le _, ?_⟩
          intro p1 n1
          generalize hU1 : upd _ p1 _ = H1
          obtain ⟨S1, e1⟩ := upd_sub n1 hU1
          clear hU1
          walk_at "w"
          refine ⟨_, _, Strip.den (Strip.sub S1 ⟨as, hl, hA⟩), den_nil e1, dep_dLs _, ?_⟩
          rw [eqD_nil]
          walk_at "w"
          refine ifB.dec (fun e => ?_) (fun e => ?_)
          · have e : rs = [] := List.reverse_eq_nil_iff.1 e
            exact h H1 (by rw [laid_no (.inr ⟨e, y⟩)]; exact ⟨⟨dx, S1 _ _ ho⟩, Strip.sub S1 ⟨as, hl, hA⟩⟩) fun c u e _ => S1 _ _ e
          have ny : ¬ (m = 0 ∨ (rs = [] ∧ s' = 0)) := by rintro (u | ⟨u, _⟩); exact z u; subst u; exact e rfl
          have T1 := S1
          have ho1 := S1 _ _ ho
          have hl1 := S1 _ _ hl
          have hA1 : All2 (fun b q => H1 b = some (tI q)) as (iv rs.reverse) := hA.mono fun _ _ _ z => S1 _ _ z
          clear S1
          walk_at "w"
          refine ⟨_, _, _, _, _, rfl, ho1, T.k_Side, T.n_Side_runs, rfl, ?_⟩
        case' rb =>
          have y : ¬ s' = 0 := of_decide_eq_false y
          have ny : ¬ (m = 0 ∨ (rs = [] ∧ s' = 0)) := by rintro (u | ⟨_, u⟩); exact z u; exact y u
          have T1 : Sub H H := Sub.refl
          have ho1 := ho
          have hl1 := hl
          have hA1 := hA
          refine ifB.no rfl ?_
          walk_at "w"
          refine ⟨_, _, _, _, _, rfl, ho1, T.k_Side, T.n_Side_runs, rfl, ?_⟩
        all_goals
          walk_at "w"
          refine ⟨Nat.zero_le _, ?_⟩
          intro p2 n2
          generalize hU2 : upd _ p2 _ = H2
          obtain ⟨S2, e2⟩ := upd_sub n2 hU2
          clear hU2
          have T2 := T1.trans S2
          have ho2 := S2 _ _ ho1
          have hl2 := S2 _ _ hl1
          have hA2 : All2 (fun b q => H2 b = some (tI q)) as (iv rs.reverse) := hA1.mono fun _ _ _ z => S2 _ _ z
          walk_at "w"
          refine ⟨_, _, Strip.den ⟨as, hl2, hA2⟩, den_nil e2, dep_dLs _, ?_⟩
          rw [eqD_nil]
          cases rs with
          | nil =>
            obtain rfl : as = [] := List.eq_nil_of_length_eq_zero al
            walk_at "w"
            refine ifB.no rfl ?_
            walk_at "w"
            refine ifB.no rfl ?_
            walk_at "w"
            refine ⟨_, _, _, _, _, rfl, ho2, T.k_Side, T.n_Side_runs, rfl, ?_⟩
            walk_at "w"
            refine ⟨.inl ⟨rfl, _, SqL.of hl2⟩, ?_⟩
            walk_at "w"
            refine ⟨by show 2 ≤ sizeLine; decide, ?_⟩
            intro p3 n3
            generalize hU3 : upd _ p3 _ = H3
            obtain ⟨S3, e3⟩ := upd_sub n3 hU3
            clear hU3
            have T3 := T2.trans S3
            walk_at "w"
            refine ⟨_, S3 _ _ hl2, by show 0 < sizeLine; decide, ?_⟩
            obtain ⟨F4, A4⟩ := sa_app (q := (s', m)) (ks := []) (as := []) (S3 _ _ hl2) .nil e3
            refine h _ ?_ fun c u e ne => by rw [upd_ne ne]; exact T3 _ _ e
            rw [laid_nil ny]
            exact ⟨⟨dx, by rw [upd_ne nlo]; exact S3 _ _ ho2⟩, _, F4, A4⟩
          | cons q r =>
            rw [List.reverse_cons] at hA2
            obtain ⟨bs, b, rfl, hb, hB⟩ := snoc_at hA2
            have nbl : b ≠ l := by rintro rfl; rw [hl2] at hb; cases hb
            have hbl : bs.length = r.length := by rw [hB.1, List.length_map, List.length_reverse]
            walk_at "w"
            refine ifB.yes (by simp) ?_
            walk_at "w"
            refine ⟨_, _, _, _, _, rfl, ho2, T.k_Side, T.n_Side_runs, rfl, ?_⟩
            walk_at "w"
            refine ⟨_, _, SqL.of hl2, atI_end (v := V.ref b) (by simp), ?_⟩
            walk_at "w"
            refine ⟨_, _, SqT.of hb, atI_nat (j := 0) rfl, ?_⟩
            walk_at "w"
            refine ifB.mk (fun x => ?_) (fun x => ?_)
            · have x : q.1 = s' := of_decide_eq_true x
              walk_at "w"
              refine ⟨_, rfl, ?_⟩
              walk_at "w"
              refine ⟨_, _, _, _, _, rfl, ho2, T.k_Side, T.n_Side_runs, rfl, ?_⟩
              walk_at "w"
              refine ⟨.inl ⟨rfl, _, SqL.of hl2⟩, ?_⟩
              walk_at "w"
              refine ⟨_, V.ref b, hl2, by simp, ?_⟩
              generalize hU3 : upd H2 l _ = H3
              have hl3 : H3 l = some (.lst (bs.map V.ref)) := by rw [← hU3, upd_same]; simp
              have k3 : ∀ c u, H2 c = some u → c ≠ l → H3 c = some u := fun c u e ne => by rw [← hU3, upd_ne ne]; exact e
              clear hU3
              have hB3 : All2 (fun b q => H3 b = some (tI q)) bs (iv r.reverse) := hB.mono fun c _ _ z => k3 _ _ z (by rintro rfl; rw [hl2] at z; cases z)
              walk_at "w"
              refine ⟨_, _, SqT.of (k3 _ _ hb nbl), atI_nat (j := 1) rfl, ?_⟩
              walk_at "w"
              refine ⟨_, _, rfl, rfl, ?_⟩
              walk_at "w"
              refine ⟨_, _, _, _, _, rfl, k3 _ _ ho2 nlo, T.k_Side, T.n_Side_runs, rfl, ?_⟩
              walk_at "w"
              refine ⟨.inl ⟨rfl, _, SqL.of hl3⟩, ?_⟩
              walk_at "w"
              refine ⟨by show 2 ≤ sizeLine; decide, ?_⟩
              intro p4 n4
              generalize hU4 : upd _ p4 _ = H4
              obtain ⟨S4, e4⟩ := upd_sub n4 hU4
              clear hU4
              walk_at "w"
              refine ⟨_, S4 _ _ hl3, by rw [List.length_map, hbl]; simp only [List.length_cons] at hlen; exact Nat.lt_of_le_of_lt (show r.length ≤ 1000 by omega) (by decide), ?_⟩
              obtain ⟨F4, A4⟩ := sa_app (q := (s', m + q.2)) (S4 _ _ hl3) (hB3.mono fun _ _ _ z => S4 _ _ z) e4
              refine h _ ?_ fun c u e ne => by rw [upd_ne ne]; exact S4 _ _ (k3 _ _ (T2 _ _ e) ne)
              rw [laid_on z x]
              refine ⟨⟨dx, by rw [upd_ne nlo]; exact S4 _ _ (k3 _ _ ho2 nlo)⟩, _, F4, ?_⟩
              rw [List.reverse_cons, Int.add_comm q.2 m]
              exact A4
            · have x : ¬ q.1 = s' := of_decide_eq_false x
              walk_at "w"
              refine ⟨_, _, _, _, _, rfl, ho2, T.k_Side, T.n_Side_runs, rfl, ?_⟩
              walk_at "w"
              refine ⟨.inl ⟨rfl, _, SqL.of hl2⟩, ?_⟩
              walk_at "w"
              refine ⟨by show 2 ≤ sizeLine; decide, ?_⟩
              intro p3 n3
              generalize hU3 : upd _ p3 _ = H3
              obtain ⟨S3, e3⟩ := upd_sub n3 hU3
              clear hU3
              have T3 := T2.trans S3
              walk_at "w"
              refine ⟨_, S3 _ _ hl2, by rw [List.length_map, al]; exact Nat.lt_of_le_of_lt hlen (by decide), ?_⟩
              obtain ⟨F4, A4⟩ := sa_app (q := (s', m)) (S3 _ _ hl2) (hA2.mono fun _ _ _ z => S3 _ _ z) e3
              refine h _ ?_ fun c u e ne => by rw [upd_ne ne]; exact T3 _ _ e
              rw [laid_off z x]
              refine ⟨⟨dx, by rw [upd_ne nlo]; exact S3 _ _ ho2⟩, _, F4, ?_⟩
              rw [List.reverse_cons, List.reverse_cons]
              exact A4
    · exact h.elim
theorem sc_Side___init__ : FnScope ["self", "begin", "sign", "many"] ["self", "begin"] (defScope s_Side___init__) := ⟨rfl, rfl, rfl, by decide +kernel, rfl, by decide +kernel, by decide +kernel⟩
def sp_sinit (a : Ad) : Sp := fun vs H Q _ => match vs with
  | [.ref o, .ref b] => ∃ (dx : Addr) (as : List Addr) (xs : Mk2), H o = some (.ins a.Side dx []) ∧ H b = some (.lst (as.map V.ref)) ∧ All2 (fun b q => H b = some (tI q)) as (iv xs) ∧ xs.length ≤ 900 ∧ ∀ (l : Addr) (H' : Hp), H l = none → SD a.Side H' o l (lays [] xs) → (∀ c u, H c = some u → c ≠ o → H' c = some u) → Q .non H'
  | _ => False
theorem ok_Side___init__ (T : Tx K mg a) : FnOk P w K mg base CX0 2 a.Side___init__ a.Side___init___d ["self", "begin"] (sp_sinit a) := by
  have G_Side_lay := ok_Side_lay (P := P) (w := w) (base := base) T
  refine T.f_Side___init__.ok sc_Side___init__ (fun vs H Q E h => ?_) (fun cdv A outer s H vs Q E hr h => ?_)
  · unfold sp_sinit at h
    split at h
    · rfl
    · exact h.elim
  · unfold sp_sinit at h
    split at h
    · have nd := sc_Side___init__.nd
      have hu := hu_of hr
      rename_i o b
      obtain ⟨dx, as, xs, ho, hb, hA, hlen, h⟩ := h
      have al : as.length = xs.length := by rw [hA.1, List.length_map]
      have nbo : b ≠ o := by rintro rfl; rw [ho] at hb; cases hb
      refine ⟨_, (pss_cons (ps_fld (qv 0) (pe_lst pa_nil) rfl)
    (pss_one (ps_for PassesOwn.never rfl (qi_listK (K := K) rfl (qv 1)) (qg_tupK (K := K) (n := 2) rfl rfl (qgs_cons (pg_name (i := 2) nd rfl (by first | exact Or.inl rfl | exact Or.inr rfl)) (qgs_cons (pg_name (i := 3) nd rfl (by first | exact Or.inl rfl | exact Or.inr rfl)) qgs_nil))) (pss_one (ps_expr (pe_meth (qv 0) T.k_Side T.m_Side_lay G_Side_lay (hr.mono (by decide)) T.b_Side_lay .nil pass0 (pa_cons (qv 2) (pa_cons (qv 3) pa_nil)))))))), ?_⟩
      walk_at "w"
      refine ⟨Nat.zero_le _, ?_⟩
      intro p1 n1
      generalize hU1 : upd _ p1 _ = H1
      obtain ⟨S1, e1⟩ := upd_sub n1 hU1
      clear hU1
      walk_at "w"
      refine ⟨_, _, _, _, rfl, S1 _ _ ho, T.k_Side, T.n_Side_runs, by show 0 < 1000; decide, ?_⟩
      generalize hU2 : upd _ o _ = H2
      have nlo : p1 ≠ o := by rintro rfl; rw [ho] at n1; cases n1
      have k2 : ∀ c u, H c = some u → c ≠ o → H2 c = some u := fun c u e ne => by rw [← hU2, upd_ne ne]; exact S1 _ _ e
      have ho2 : H2 o = some (.ins a.Side dx [("runs", .ref p1)]) := by rw [← hU2]; exact upd_same
      have hl2 : H2 p1 = some (.lst []) := by rw [← hU2, upd_ne nlo]; exact e1
      clear hU2
      have ne1 : ∀ c u, H c = some u → c ≠ p1 := fun c u e z => by rw [z, n1] at e; cases e
      walk_at "w"
      refine ⟨⟨_, SqL.of (k2 _ _ hb nbo)⟩, ?_⟩
      refine for_list (K := K) (a := b) (xs := as.map V.ref) (fun i σ H3 => ∃ v2 v3, σ = [some (.ref o), some (.ref b), v2, v3] ∧ (∀ c u, H c = some u → c ≠ o → H3 c = some u) ∧ SD a.Side H3 o p1 (lays [] (xs.take i))) ?_ ?_ ?_ ?_
      · exact ⟨none, none, rfl, k2, ⟨dx, ho2⟩, [], hl2, .nil⟩
      · rintro i σ H3 _ ⟨v2, v3, rfl, k3, D3⟩
        exact SqL.of (k3 _ _ hb nbo)
      · rintro i x σ H3 hi ⟨v2, v3, rfl, k3, D3⟩
        rw [List.getElem?_map] at hi
        obtain ⟨d, hd, rfl⟩ := Option.map_eq_some_iff.1 hi
        obtain ⟨q', hq', hdq⟩ := hA.at hd
        rw [List.getElem?_map] at hq'
        obtain ⟨q, hq, rfl⟩ := Option.map_eq_some_iff.1 hq'
        have hil : i < xs.length := (List.getElem?_eq_some_iff.1 hq).1
        have hdo : d ≠ o := by rintro rfl; rw [ho] at hdq; cases hdq
        walk_at "w"
        refine ⟨_, SqT.of (k3 _ _ hdq hdo), rfl, ?_⟩
        walk_at "w"
        obtain ⟨⟨dx3, ho3⟩, hs3⟩ := D3
        refine ⟨_, _, _, rfl, ho3, rfl, ?_⟩
        walk_at "w"
        have l3 := lays_len (xs.take i) []
        refine ⟨p1, lays [] (xs.take i), ⟨⟨dx3, ho3⟩, hs3⟩, ?_, fun H4 D4 k4 => ?_⟩
        · rw [List.length_take] at l3
          simp only [List.length_nil] at l3
          omega
        refine ⟨_, _, rfl, fun c u e ne => k4 _ _ (k3 _ _ e ne) (ne1 _ _ e), ?_⟩
        rw [List.take_add_one, hq, show (some q).toList = [q] from rfl, lays_app, lays_one]
        exact D4
      · rintro σ H3 ⟨v2, v3, rfl, k3, D3⟩
        rw [List.length_map, al, List.take_length] at D3
        exact h p1 H3 n1 D3 k3
    · exact h.elim
theorem sc_Side_take_run : FnScope ["self", "sign"] ["self", "sign"] (defScope s_Side_take_run) := ⟨rfl, rfl, rfl, by decide +kernel, rfl, by decide +kernel, by decide +kernel⟩
def sp_take_run (a : Ad) : Sp := fun vs H Q _ => match vs with
  | [.ref o, .int s] => ∃ (l : Addr) (rs : Mk2), SD a.Side H o l rs ∧ ∀ H' : Hp, SD a.Side H' o l (runOff rs s) → (∀ c u, H c = some u → c ≠ l → H' c = some u) → Q (.int (runLen rs s)) H'
  | _ => False
theorem ok_Side_take_run (T : Tx K mg a) : FnOk P w K mg base CX0 1 a.Side_take_run a.Side_take_run_d ["self", "sign"] (sp_take_run a) := by
  refine T.f_Side_take_run.ok sc_Side_take_run (fun vs H Q E h => ?_) (fun cdv A outer s H vs Q E hr h => ?_)
  · unfold sp_take_run at h
    split at h
    · rfl
    · exact h.elim
  · unfold sp_take_run at h
    split at h
    · have nd := sc_Side_take_run.nd
      have hu := hu_of hr
      rename_i o s'
      obtain ⟨l, rs, ⟨⟨dx, ho⟩, as, hl, hA⟩, h⟩ := h
      have al : as.length = rs.length := by rw [hA.1, List.length_map, List.length_reverse]
      have nlo : o ≠ l := by rintro rfl; rw [ho] at hl; cases hl
      refine ⟨_, (pss_cons (ps_c (PW.pt (pw_orR (pt_c (op_eqD hr) (pe_fld (qv 0) rfl) (pe_lst pa_nil)) (qw_or1 (pt_c q_ne (pe_ix (q_ixTK (K := K) rfl) (pe_ix (q_ixLK (K := K) rfl) (pe_fld (qv 0) rfl) (pe_un q_neg pe_int) (fun _ _ => rfl)) pe_int (fun _ _ => rfl)) (qv 1))))) (pss_one (ps_ret pe_int)) pss_nil)
    (pss_one (ps_ret (pe_ix (q_ixTK (K := K) rfl) (pe_bm0 PySem.F.plainAttrs_list PySem.F.slot_list_pop PySem.F.type_list_pop q_pop0 (pe_fld (qv 0) rfl)) pe_int (fun _ _ => rfl))))), ?_⟩
      walk_at "w"
      refine ⟨_, _, _, _, _, rfl, ho, T.k_Side, T.n_Side_runs, rfl, ?_⟩
      walk_at "w"
      refine ⟨Nat.zero_le _, ?_⟩
      intro p1 n1
      generalize hU1 : upd _ p1 _ = H1
      obtain ⟨S1, e1⟩ := upd_sub n1 hU1
      clear hU1
      have ho1 := S1 _ _ ho
      have hl1 := S1 _ _ hl
      have hA1 : All2 (fun b q => H1 b = some (tI q)) as (iv rs.reverse) := hA.mono fun _ _ _ z => S1 _ _ z
      walk_at "w"
      refine ⟨_, _, Strip.den ⟨as, hl1, hA1⟩, den_nil e1, dep_dLs _, ?_⟩
      rw [eqD_nil]
      cases rs with
      | nil =>
        walk_at "w"
        refine ifB.yes rfl ?_
        refine ifB.yes rfl ?_
        exact h H1 ⟨⟨dx, ho1⟩, as, hl1, hA1⟩ fun c u e _ => S1 _ _ e
      | cons q r =>
        rw [List.reverse_cons] at hA1
        obtain ⟨bs, b, rfl, hb, hB⟩ := snoc_at hA1
        have nbl : b ≠ l := by rintro rfl; rw [hl1] at hb; cases hb
        walk_at "w"
        refine ifB.no (by simp) ?_
        walk_at "w"
        refine ⟨_, _, _, _, _, rfl, ho1, T.k_Side, T.n_Side_runs, rfl, ?_⟩
        walk_at "w"
        refine ⟨_, _, SqL.of hl1, atI_end (v := V.ref b) (by simp), ?_⟩
        walk_at "w"
        refine ⟨_, _, SqT.of hb, atI_nat (j := 0) rfl, ?_⟩
        walk_at "w"
        refine ifB.mk (fun x => ?_) (fun x => ?_)
        · have x : ¬ q.1 = s' := by simpa using x
          have e1 : runLen (q :: r) s' = 0 := by show (if q.1 = s' then q.2 else 0) = 0; rw [if_neg x]
          have e2 : runOff (q :: r) s' = q :: r := by show (if q.1 = s' then r else q :: r) = _; rw [if_neg x]
          rw [e1, e2] at h
          exact h H1 ⟨⟨dx, ho1⟩, _, hl1, by rw [List.reverse_cons]; exact hA1⟩ fun c u e _ => S1 _ _ e
        · have x : q.1 = s' := by simpa using x
          have e1 : runLen (q :: r) s' = q.2 := by show (if q.1 = s' then q.2 else 0) = _; rw [if_pos x]
          have e2 : runOff (q :: r) s' = r := by show (if q.1 = s' then r else q :: r) = _; rw [if_pos x]
          rw [e1, e2] at h
          walk_at "w"
          refine ⟨_, _, _, _, _, rfl, ho1, T.k_Side, T.n_Side_runs, rfl, ?_⟩
          walk_at "w"
          refine ⟨.inl ⟨rfl, _, SqL.of hl1⟩, ?_⟩
          walk_at "w"
          refine ⟨_, V.ref b, hl1, by simp, ?_⟩
          generalize hU3 : upd H1 l _ = H3
          have hl3 : H3 l = some (.lst (bs.map V.ref)) := by rw [← hU3, upd_same]; simp
          have k3 : ∀ c u, H1 c = some u → c ≠ l → H3 c = some u := fun c u e ne => by rw [← hU3, upd_ne ne]; exact e
          clear hU3
          have hB3 : All2 (fun b q => H3 b = some (tI q)) bs (iv r.reverse) := hB.mono fun c _ _ z => k3 _ _ z (by rintro rfl; rw [hl1] at z; cases z)
          walk_at "w"
          refine ⟨_, _, SqT.of (k3 _ _ hb nbl), atI_nat (j := 1) rfl, ?_⟩
          exact h H3 ⟨⟨dx, k3 _ _ ho1 nlo⟩, _, hl3, hB3⟩ fun c u e ne => k3 _ _ (S1 _ _ e) ne
    · exact h.elim
theorem sc_Side_take : FnScope ["self", "sign", "many"] ["self"] (defScope s_Side_take) := ⟨rfl, rfl, rfl, by decide +kernel, rfl, by decide +kernel, by decide +kernel⟩
def sp_take (a : Ad) : Sp := fun vs H Q _ => match vs with
  | [.ref o] => ∃ (l : Addr) (rs : Mk2), SD a.Side H o l rs ∧ wfR rs ∧ rs.length ≤ 1000 ∧ ∀ H' : Hp, SD a.Side H' o l (taken rs).2 → (∀ c u, H c = some u → c ≠ l → H' c = some u) → Q (.int (taken rs).1) H'
  | _ => False
theorem ok_Side_take (T : Tx K mg a) : FnOk P w K mg base CX0 2 a.Side_take a.Side_take_d ["self"] (sp_take a) := by
  have G_Side_lay := ok_Side_lay (P := P) (w := w) (base := base) T
  refine T.f_Side_take.ok sc_Side_take (fun vs H Q E h => ?_) (fun cdv A outer s H vs Q E hr h => ?_)
  · unfold sp_take at h
    split at h
    · rfl
    · exact h.elim
  · unfold sp_take at h
    split at h
    · have nd := sc_Side_take.nd
      have hu := hu_of hr
      rename_i o
      obtain ⟨l, rs, ⟨⟨dx, ho⟩, as, hl, hA⟩, hw, hlen, h⟩ := h
      have al : as.length = rs.length := by rw [hA.1, List.length_map, List.length_reverse]
      have nlo : o ≠ l := by rintro rfl; rw [ho] at hl; cases hl
      refine ⟨_, (pss_cons (ps_c (pt_c (op_eqD hr) (pe_fld (qv 0) rfl) (pe_lst pa_nil)) (pss_one (ps_ret pe_int)) pss_nil)
    (pss_cons (ps_asg (pe_bm0 PySem.F.plainAttrs_list PySem.F.slot_list_pop PySem.F.type_list_pop q_pop0 (pe_fld (qv 0) rfl)) (qg_tupK (K := K) (n := 2) rfl rfl (qgs_cons (pg_name (i := 1) nd rfl (by first | exact Or.inl rfl | exact Or.inr rfl)) (qgs_cons (pg_name (i := 2) nd rfl (by first | exact Or.inl rfl | exact Or.inr rfl)) qgs_nil))))
    (pss_cons (ps_expr (pe_meth (qv 0) T.k_Side T.m_Side_lay G_Side_lay (hr.mono (by decide)) T.b_Side_lay .nil pass0 (pa_cons (qv 1) (pa_cons (pe_op q_sub (qv 2) pe_int) pa_nil))))
    (pss_one (ps_ret (qv 1)))))), ?_⟩
      walk_at "w"
      refine ⟨_, _, _, _, _, rfl, ho, T.k_Side, T.n_Side_runs, rfl, ?_⟩
      walk_at "w"
      refine ⟨Nat.zero_le _, ?_⟩
      intro p1 n1
      generalize hU1 : upd _ p1 _ = H1
      obtain ⟨S1, e1⟩ := upd_sub n1 hU1
      clear hU1
      have ho1 := S1 _ _ ho
      have hl1 := S1 _ _ hl
      have hA1 : All2 (fun b q => H1 b = some (tI q)) as (iv rs.reverse) := hA.mono fun _ _ _ z => S1 _ _ z
      walk_at "w"
      refine ⟨_, _, Strip.den ⟨as, hl1, hA1⟩, den_nil e1, dep_dLs _, ?_⟩
      rw [eqD_nil]
      cases rs with
      | nil =>
        walk_at "w"
        refine ifB.yes rfl ?_
        exact h H1 ⟨⟨dx, ho1⟩, as, hl1, hA1⟩ fun c u e _ => S1 _ _ e
      | cons q r =>
        rw [List.reverse_cons] at hA1
        obtain ⟨bs, b, rfl, hb, hB⟩ := snoc_at hA1
        have nbl : b ≠ l := by rintro rfl; rw [hl1] at hb; cases hb
        walk_at "w"
        refine ifB.no (by simp) ?_
        walk_at "w"
        refine ⟨_, _, _, _, _, rfl, ho1, T.k_Side, T.n_Side_runs, rfl, ?_⟩
        walk_at "w"
        refine ⟨.inl ⟨rfl, _, SqL.of hl1⟩, ?_⟩
        walk_at "w"
        refine ⟨_, V.ref b, hl1, by simp, ?_⟩
        generalize hU3 : upd H1 l _ = H3
        have hl3 : H3 l = some (.lst (bs.map V.ref)) := by rw [← hU3, upd_same]; simp
        have k3 : ∀ c u, H1 c = some u → c ≠ l → H3 c = some u := fun c u e ne => by rw [← hU3, upd_ne ne]; exact e
        clear hU3
        have hB3 : All2 (fun b q => H3 b = some (tI q)) bs (iv r.reverse) := hB.mono fun c _ _ z => k3 _ _ z (by rintro rfl; rw [hl1] at z; cases z)
        walk_at "w"
        refine ⟨_, SqT.of (k3 _ _ hb nbl), rfl, ?_⟩
        walk_at "w"
        refine ⟨_, _, _, rfl, k3 _ _ ho1 nlo, rfl, ?_⟩
        walk_at "w"
        simp only [List.length_cons] at hlen
        refine ⟨l, r, ⟨⟨dx, k3 _ _ ho1 nlo⟩, _, hl3, hB3⟩, by omega, fun H4 D4 k4 => ?_⟩
        rw [hw.take] at D4
        exact h H4 D4 fun c u e ne => k4 _ _ (k3 _ _ (S1 _ _ e) ne) ne
    · exact h.elim
theorem sc_Strider___init__ : FnScope ["self", "table", "row", "runs", "left", "sign", "right"] ["self", "table", "row", "runs"] (defScope s_Strider___init__) := ⟨rfl, rfl, rfl, by decide +kernel, rfl, by decide +kernel, by decide +kernel⟩
structure SR (C CS : Addr) (H : Hp) (o t d o1 o2 l1 l2 : Addr) (x : SS) : Prop where
  ob : ∃ dx, H o = some (.ins C dx (sf t x.row x.sign d x.steps))
  dc : H d = some (.dK [(.inl (-1), .ref o1), (.inl 1, .ref o2)])
  s1 : SD CS H o1 l1 x.L
  s2 : SD CS H o2 l2 x.R
  ne : l1 ≠ l2
  n1 : o1 ≠ o
  n2 : o2 ≠ o
theorem SD.sub {C : Addr} {H H' : Hp} {o l : Addr} {rs : Mk2} (S : Sub H H') (h : SD C H o l rs) : SD C H' o l rs := ⟨h.1.imp fun _ z => S _ _ z, h.2.sub S⟩
theorem SD.keep {C : Addr} {H H' : Hp} {o l l' : Addr} {vs : List V} {rs : Mk2} (h : SD C H o l rs) (hl : H l' = some (.lst vs)) (k : ∀ c u, H c = some u → c ≠ l' → H' c = some u) (ne : l ≠ l') : SD C H' o l rs := by
  obtain ⟨⟨dx, ho⟩, as, h1, hA⟩ := h
  refine ⟨⟨dx, k _ _ ho (by rintro rfl; rw [hl] at ho; cases ho)⟩, as, k _ _ h1 ne, hA.mono fun c _ _ z => k _ _ z (by rintro rfl; rw [hl] at z; cases z)⟩
theorem SD.mv {C : Addr} {H H' : Hp} {o l z : Addr} {rs : Mk2} (h : SD C H o l rs) (k : ∀ c u, H c = some u → c ≠ z → H' c = some u) (no : o ≠ z) (nl : l ≠ z) (nt : ∀ x, H z ≠ some (tI x)) : SD C H' o l rs := by
  obtain ⟨⟨dx, ho⟩, as, h1, hA⟩ := h
  exact ⟨⟨dx, k _ _ ho no⟩, as, k _ _ h1 nl, hA.mono fun c x _ z => k _ _ z (by rintro rfl; exact nt _ z)⟩
def sp_strider (a : Ad) : Sp := fun vs H Q _ => match vs with
  | [.ref o, .ref t, .int r, .ref q] => ∃ (dx la lb : Addr) (s : Int) (L R : Mk2), H o = some (.ins a.Strider dx []) ∧ H q = some (.tup [.ref la, .int s, .ref lb]) ∧ Strip H la L.reverse ∧ Strip H lb R ∧ wfR L ∧ wfR R ∧ L.length ≤ 800 ∧ R.length ≤ 800 ∧
      ∀ (d o1 o2 l1 l2 : Addr) (H' : Hp), SR a.Strider a.Side H' o t d o1 o2 l1 l2 ⟨r, s, L, R, 0⟩ → H l1 = none → H l2 = none → (∀ c u, H c = some u → c ≠ o → H' c = some u) → Q .non H'
  | _ => False
theorem ok_Strider___init__ (T : Tx K mg a) : FnOk P w K mg base CX0 4 a.Strider___init__ a.Strider___init___d ["self", "table", "row", "runs"] (sp_strider a) := by
  have G_Side___init__ := ok_Side___init__ (P := P) (w := w) (base := base) T
  refine T.f_Strider___init__.ok sc_Strider___init__ (fun vs H Q E h => ?_) (fun cdv A outer s H vs Q E hr h => ?_)
  · unfold sp_strider at h
    split at h
    · rfl
    · exact h.elim
  · unfold sp_strider at h
    split at h
    · have nd := sc_Strider___init__.nd
      have hu := hu_of hr
      rename_i o t r q
      obtain ⟨dx, la, lb, s', L, R, ho, hq, ⟨asL, hla, hAL⟩, ⟨asR, hlb, hAR⟩, wL, wR, nL, nR, h⟩ := h
      refine ⟨_, (pss_cons (ps_asg (qv 3) (qg_tupK (K := K) (n := 3) rfl rfl (qgs_cons (pg_name (i := 4) nd rfl (by first | exact Or.inl rfl | exact Or.inr rfl)) (qgs_cons (pg_name (i := 5) nd rfl (by first | exact Or.inl rfl | exact Or.inr rfl)) (qgs_cons (pg_name (i := 6) nd rfl (by first | exact Or.inl rfl | exact Or.inr rfl)) qgs_nil)))))
    (pss_cons (ps_fld (qv 0) (qv 1) rfl)
    (pss_cons (ps_fld (qv 0) (qv 2) rfl)
    (pss_cons (ps_fld (qv 0) (qv 5) rfl)
    (pss_cons (ps_fld (qv 0) (pe_disp (pps_cons (pe_un q_neg pe_int) (pe_make T.mk_Side G_Side___init__ (hr.mono (by decide)) rfl T.g_Side T.b_Side___init__ .nil pass0 (pa_cons (qv 4) pa_nil)) (pps_cons pe_int (pe_make T.mk_Side G_Side___init__ (hr.mono (by decide)) rfl T.g_Side T.b_Side___init__ .nil pass0 (pa_cons (pe_revLK (K := K) rfl (qv 6) (qo_some (pe_un q_neg pe_int))) pa_nil)) pps_nil)) rfl rfl (by simp) (by decide)) rfl)
    (pss_one (ps_fld (qv 0) pe_int rfl))))))), ?_⟩
      walk_at "w"
      refine ⟨_, SqT.of hq, rfl, ?_⟩
      walk_at "w"
      refine ⟨_, _, _, _, rfl, ho, T.k_Strider, T.n_Strider_table, by show 0 < 1000; decide, ?_⟩
      generalize hU1 : upd _ o _ = H1
      have f1 : ∀ c u, H c = some u → c ≠ o → H1 c = some u := fun c u e ne => by rw [← hU1, upd_ne ne]; exact e
      have ho1 : H1 o = some (.ins a.Strider dx (putF "table" (.ref t) [])) := by rw [← hU1]; exact upd_same
      clear hU1
      walk_at "w"
      refine ⟨_, _, _, _, rfl, ho1, T.k_Strider, T.n_Strider_row, by show 1 < 1000; decide, ?_⟩
      generalize hU2 : upd _ o _ = H2
      have f2 : ∀ c u, H c = some u → c ≠ o → H2 c = some u := fun c u e ne => by rw [← hU2, upd_ne ne]; exact f1 c u e ne
      have ho2 : H2 o = some (.ins a.Strider dx (putF "row" (.int r) (putF "table" (.ref t) []))) := by rw [← hU2]; exact upd_same
      clear hU2
      walk_at "w"
      refine ⟨_, _, _, _, rfl, ho2, T.k_Strider, T.n_Strider_sign, by show 2 < 1000; decide, ?_⟩
      generalize hU3 : upd _ o _ = H3
      have f3 : ∀ c u, H c = some u → c ≠ o → H3 c = some u := fun c u e ne => by rw [← hU3, upd_ne ne]; exact f2 c u e ne
      have ho3 : H3 o = some (.ins a.Strider dx (putF "sign" (.int s') (putF "row" (.int r) (putF "table" (.ref t) [])))) := by rw [← hU3]; exact upd_same
      clear hU3
      have nf : ∀ c, H3 c = none → H c = none := fun c n => by
        cases e : H c with
        | none => rfl
        | some u =>
          by_cases z : c = o
          · rw [z, ho3] at n; cases n
          · rw [f3 _ _ e z] at n; cases n
      have nla : la ≠ o := by rintro rfl; rw [ho] at hla; cases hla
      have nlb : lb ≠ o := by rintro rfl; rw [ho] at hlb; cases hlb
      have hAL3 : All2 (fun b q => H3 b = some (tI q)) asL (iv L.reverse) := hAL.mono fun c _ _ z => f3 _ _ z (by rintro rfl; rw [ho] at z; cases z)
      have hAR3 : All2 (fun b q => H3 b = some (tI q)) asR (iv R) := hAR.mono fun c _ _ z => f3 _ _ z (by rintro rfl; rw [ho] at z; cases z)
      have hla3 := f3 _ _ hla nla
      have hlb3 := f3 _ _ hlb nlb
      walk_at "w"
      intro p4 n4
      generalize hU4 : upd _ p4 _ = H4
      obtain ⟨S4, e4⟩ := upd_sub n4 hU4
      clear hU4
      walk_at "w"
      intro o1 dx1 m1 m2 mne
      have T5 : Sub H4 (upd (upd H4 dx1 (.own o1)) o1 (.ins a.Side dx1 [])) := (Sub.new m2).upd m1
      refine ⟨dx1, asL, L.reverse, upd_same, T5 _ _ (S4 _ _ hla3), hAL3.mono fun _ _ _ z => T5 _ _ (S4 _ _ z), by rw [List.length_reverse]; omega, fun l1 H5 nl1 D5 k5 => ⟨rfl, ?_⟩⟩
      rw [lays_wf L wL] at D5
      have S5 : Sub H4 H5 := fun c u e => k5 c u (T5 _ _ e) (ne_of_none e m1)
      have nl1' : H4 l1 = none := T5.free nl1
      walk_at "w"
      refine ⟨rfl, _, SqL.of (S5 _ _ (S4 _ _ hlb3)), ?_⟩
      intro p6 n6
      generalize hU6 : upd _ p6 _ = H6
      obtain ⟨S6, e6⟩ := upd_sub n6 hU6
      clear hU6
      obtain ⟨F6, A6⟩ := sa_rev e6 (hAR3.mono fun _ _ _ z => S6 _ _ (S5 _ _ (S4 _ _ z)))
      walk_at "w"
      intro o2 dx2 m3 m4 mne2
      have T7 : Sub H6 (upd (upd H6 dx2 (.own o2)) o2 (.ins a.Side dx2 [])) := (Sub.new m4).upd m3
      refine ⟨dx2, asR.reverse, R.reverse, upd_same, T7 _ _ F6, A6.mono fun _ _ _ z => T7 _ _ z, by rw [List.length_reverse]; omega, fun l2 H7 nl2 D7 k7 => ⟨rfl, ?_⟩⟩
      rw [lays_wf R wR] at D7
      have S7 : Sub H6 H7 := fun c u e => k7 c u (T7 _ _ e) (ne_of_none e m3)
      have nl2' : H6 l2 = none := T7.free nl2
      have U7 := (S5.trans S6).trans S7
      have D57 := D5.sub (S6.trans S7)
      have hd7 := U7 _ _ e4
      have n12 : l1 ≠ l2 := by
        rintro rfl
        obtain ⟨_, as', z, _⟩ := D5.sub S6
        rw [z] at nl2'; cases nl2'
      have nd1 : p4 ≠ l1 := by rintro rfl; rw [e4] at nl1'; cases nl1'
      have nd2 : p4 ≠ l2 := by rintro rfl; rw [S6 _ _ (S5 _ _ e4)] at nl2'; cases nl2'
      have no14 : o1 ≠ p4 := by rintro rfl; rw [e4] at m1; cases m1
      have no24 : o2 ≠ p4 := by rintro rfl; rw [S6 _ _ (S5 _ _ e4)] at m3; cases m3
      have no1 : o1 ≠ o := by rintro rfl; rw [S4 _ _ ho3] at m1; cases m1
      have no2 : o2 ≠ o := by rintro rfl; rw [S6 _ _ (S5 _ _ (S4 _ _ ho3))] at m3; cases m3
      walk_at "w"
      refine ⟨hd7, [(.inl (-1), .ref o1), (.inl 1, .ref o2)], rfl, by show 2 ≤ 15; decide, ?_⟩
      generalize hU8 : upd H7 p4 _ = H8
      have hd8 : H8 p4 = some (.dK [(.inl (-1), .ref o1), (.inl 1, .ref o2)]) := by rw [← hU8, upd_same]; rfl
      have k8 : ∀ c u, H7 c = some u → c ≠ p4 → H8 c = some u := fun c u e ne => by rw [← hU8, upd_ne ne]; exact e
      clear hU8
      have E1 := D57.mv k8 no14 (Ne.symm nd1) (fun x z => by rw [hd7] at z; cases z)
      have E2 := D7.mv k8 no24 (Ne.symm nd2) (fun x z => by rw [hd7] at z; cases z)
      have S38 : Sub H3 H8 := fun c u e => k8 _ _ (U7 _ _ (S4 _ _ e)) (by rintro rfl; rw [e] at n4; cases n4)
      have ho8 := S38 _ _ ho3
      have ndo : p4 ≠ o := by rintro rfl; rw [ho3] at n4; cases n4
      have nl1o : l1 ≠ o := by rintro rfl; rw [S4 _ _ ho3] at nl1'; cases nl1'
      have nl2o : l2 ≠ o := by rintro rfl; rw [S6 _ _ (S5 _ _ (S4 _ _ ho3))] at nl2'; cases nl2'
      walk_at "w"
      refine ⟨_, _, _, _, rfl, ho8, T.k_Strider, T.n_Strider_sides, by show 3 < 1000; decide, ?_⟩
      generalize hU9 : upd _ o _ = H9
      have k9 : ∀ c u, H8 c = some u → c ≠ o → H9 c = some u := fun c u e ne => by rw [← hU9, upd_ne ne]; exact e
      have ho9 : H9 o = some (.ins a.Strider dx (putF "sides" (.ref p4) (putF "sign" (.int s') (putF "row" (.int r) (putF "table" (.ref t) []))))) := by rw [← hU9]; exact upd_same
      clear hU9
      walk_at "w"
      refine ⟨_, _, _, _, rfl, ho9, T.k_Strider, T.n_Strider_steps, by show 4 < 1000; decide, ?_⟩
      rw [sf_mk]
      generalize hU10 : upd _ o _ = H10
      have k10 : ∀ c u, H8 c = some u → c ≠ o → H10 c = some u := fun c u e ne => by rw [← hU10, upd_ne ne]; exact k9 c u e ne
      have ho10 : H10 o = some (.ins a.Strider dx (sf t r s' p4 0)) := by rw [← hU10]; exact upd_same
      clear hU10
      have nt : ∀ x, H8 o ≠ some (tI x) := fun x z => by rw [ho8] at z; cases z
      refine h p4 o1 o2 l1 l2 H10 ⟨⟨dx, ho10⟩, k10 _ _ hd8 ndo, E1.mv k10 no1 nl1o nt, E2.mv k10 no2 nl2o nt, n12, no1, no2⟩ (nf _ (S4.free nl1')) (nf _ (S4.free (S5.free (S6.free nl2')))) fun c u e ne => k10 _ _ (S38 _ _ (f3 c u e ne)) ne
    · exact h.elim
theorem sc_Strider_word : FnScope ["self", "entry", "put", "way", "after"] ["self"] (defScope s_Strider_word) := ⟨rfl, rfl, rfl, by decide +kernel, rfl, by decide +kernel, by decide +kernel⟩
def sp_word (a : Ad) : Sp := fun vs H Q _ => match vs with
  | [.ref o] => ∃ (t d o1 o2 l1 l2 : Addr) (x : SS) (m : Ma), SR a.Strider a.Side H o t d o1 o2 l1 l2 x ∧ Mach H t m ∧ OkM m ∧ OkX m x ∧ ∀ H' : Hp, Sub H H' → Q (.str (wdS m x)) H'
  | _ => False
/-- where a machine's entry lies -/
theorem mach_at {H : Hp} {t : Addr} {m : Ma} {x : SS} (hm : Mach H t m) (M : OkM m) (X : OkX m x) : ∃ (vs us : List V) (ra ea : Addr), H t = some (.lst vs) ∧ atI vs x.row = some (.ref ra) ∧ H ra = some (.lst us) ∧ atI us x.sign = some (.ref ea) ∧ Ent H ea (enS m x.row x.sign) := by
  obtain ⟨rs, hmr, hnd, hrw⟩ := hm
  obtain ⟨es, h1, h2, h3⟩ := X.at M
  have hlt : x.row.toNat < rs.length := by rw [hrw.1]; have := X.r0; have := X.r1; omega
  have hrd : rs[x.row.toNat]? = some rs[x.row.toNat] := List.getElem?_eq_getElem hlt
  obtain ⟨es', he', as, hra⟩ := hrw.at hrd
  rw [h1] at he'
  cases he'
  have hlt2 : x.sign.toNat < as.length := by rw [hra.2.1]; exact (List.getElem?_eq_some_iff.1 h2).1
  have had : as[x.sign.toNat]? = some as[x.sign.toNat] := List.getElem?_eq_getElem hlt2
  obtain ⟨e', hee, heb⟩ := hra.2.at had
  rw [h2] at hee
  cases hee
  exact ⟨_, _, rs[x.row.toNat], as[x.sign.toNat], hmr, atI_toNat X.r0 (by rw [List.getElem?_map, hrd]; rfl), hra.1, atI_toNat X.s0 (by rw [List.getElem?_map, had]; rfl), heb⟩
theorem dg_side {H : Hp} {d o1 o2 : Addr} {w : Int} (hd : H d = some (.dK [(.inl (-1), .ref o1), (.inl 1, .ref o2)])) (hw : w = -1 ∨ w = 1) : DGet H d (.int w) (some (.ref (if w = 1 then o2 else o1))) := by
  rcases hw with rfl | rfl
  · exact DGet.k (k := .inl (-1)) hd
  · exact DGet.k (k := .inl 1) hd
theorem sd_near {C : Addr} {H : Hp} {o1 o2 l1 l2 : Addr} {x : SS} (D1 : SD C H o1 l1 x.L) (D2 : SD C H o2 l2 x.R) (w : Int) : SD C H (if w = 1 then o2 else o1) (if w = 1 then l2 else l1) (nearS w x) := by
  unfold nearS
  split
  · exact D2
  · exact D1
theorem ok_Strider_word (T : Tx K mg a) : FnOk P w K mg base CX0 1 a.Strider_word a.Strider_word_d ["self"] (sp_word a) := by
  refine T.f_Strider_word.ok sc_Strider_word (fun vs H Q E h => ?_) (fun cdv A outer s H vs Q E hr h => ?_)
  · unfold sp_word at h
    split at h
    · rfl
    · exact h.elim
  · unfold sp_word at h
    split at h
    · have nd := sc_Strider_word.nd
      have hu := hu_of hr
      rename_i o
      obtain ⟨t, d, o1, o2, l1, l2, x, m, ⟨⟨dx, ho⟩, hd, D1, D2, ne, nno1, nno2⟩, hm, M, X, h⟩ := h
      obtain ⟨vs, us, ra, ea, ht, hr', hra, hs', hE⟩ := mach_at hm M X
      obtain ⟨es, _, _, hok⟩ := X.at M
      refine ⟨_, (pss_cons (ps_set (i := 1) nd rfl (by first | exact Or.inl rfl | exact Or.inr rfl) (pe_ix (q_ixLK (K := K) rfl) (pe_ix (q_ixLK (K := K) rfl) (pe_fld (qv 0) rfl) (pe_fld (qv 0) rfl) (fun _ _ => rfl)) (pe_fld (qv 0) rfl) (fun _ _ => rfl)))
    (pss_cons (ps_c (pt_c (op_eqD hr) (qv 1) (pe_tup pa_nil)) (pss_one (ps_ret pe_str)) pss_nil)
    (pss_cons (ps_asg (qv 1) (qg_tupK (K := K) (n := 3) rfl rfl (qgs_cons (pg_name (i := 2) nd rfl (by first | exact Or.inl rfl | exact Or.inr rfl)) (qgs_cons (pg_name (i := 3) nd rfl (by first | exact Or.inl rfl | exact Or.inr rfl)) (qgs_cons (pg_name (i := 4) nd rfl (by first | exact Or.inl rfl | exact Or.inr rfl)) qgs_nil)))))
    (pss_cons (ps_c (PW.pt (pw_andR (pt_c q_eq (qv 4) (pe_fld (qv 0) rfl)) (pw_andR (pt_c q_eq (pe_fld (qv 0) rfl) pe_int) (qw_and1 (pt_c (op_eqD hr) (pe_fld (pe_dget hu (pe_fld (qv 0) rfl) (qv 3) (fun _ _ => rfl)) rfl) (pe_lst pa_nil)))))) (pss_one (ps_ret pe_str)) pss_nil)
    (pss_one (ps_ret pe_str)))))), ?_⟩
      walk_at "w"
      refine ⟨_, _, _, _, _, rfl, ho, T.k_Strider, T.n_Strider_table, sf_lt _ _ _ _ _, ?_⟩
      walk_at "w"
      refine ⟨_, _, _, _, _, rfl, ho, T.k_Strider, T.n_Strider_row, sf_lr _ _ _ _ _, ?_⟩
      walk_at "w"
      refine ⟨_, _, SqL.of ht, hr', ?_⟩
      walk_at "w"
      refine ⟨_, _, _, _, _, rfl, ho, T.k_Strider, T.n_Strider_sign, sf_ls _ _ _ _ _, ?_⟩
      walk_at "w"
      refine ⟨_, _, SqL.of hra, hs', ?_⟩
      walk_at "w"
      refine ⟨by show 0 ≤ sizeLine; decide, ?_⟩
      intro p1 n1
      generalize hU1 : upd _ p1 _ = H1
      obtain ⟨S1, e1⟩ := upd_sub n1 hU1
      clear hU1
      have hE1 : Ent H1 ea (enS m x.row x.sign) := S1 _ _ hE
      walk_at "w"
      refine ⟨_, _, (Ent.den (e := enS m x.row x.sign) hE1), (Ent.den (e := []) e1), dep_dE1 _, ?_⟩
      rw [eqD_dE]
      walk_at "w"
      refine ifB.dec (fun z => ?_) (fun z => ?_)
      · rw [wd_end z] at h
        exact h H1 S1
      obtain ⟨p, w', n, he, a0, a1, a2, a3, a4⟩ := entryOk_three hok z
      rw [he] at hE1
      have ho1 := S1 _ _ ho
      walk_at "w"
      refine ⟨_, SqT.of hE1, rfl, ?_⟩
      walk_at "w"
      refine ⟨_, _, _, _, _, rfl, ho1, T.k_Strider, T.n_Strider_row, sf_lr _ _ _ _ _, ?_⟩
      walk_at "w"
      refine ifB.mk (fun y => ?_) (fun y => ?_)
      · have y : n = x.row := of_decide_eq_true y
        walk_at "w"
        refine ⟨_, _, _, _, _, rfl, ho1, T.k_Strider, T.n_Strider_sign, sf_ls _ _ _ _ _, ?_⟩
        walk_at "w"
        refine ifB.mk (fun y2 => ?_) (fun y2 => ?_)
        · have y2 : x.sign = 0 := of_decide_eq_true y2
          walk_at "w"
          refine ⟨_, _, _, _, _, rfl, ho1, T.k_Strider, T.n_Strider_sides, sf_ld _ _ _ _ _, ?_⟩
          walk_at "w"
          refine ⟨_, _, rfl, dg_side (S1 _ _ hd) a2, ?_⟩
          obtain ⟨⟨dxw, how⟩, RW⟩ := (sd_near D1 D2 w').sub S1
          walk_at "w"
          refine ⟨_, _, _, _, _, rfl, how, T.k_Side, T.n_Side_runs, rfl, ?_⟩
          walk_at "w"
          refine ⟨Nat.zero_le _, ?_⟩
          intro p2 n2
          generalize hU2 : upd _ p2 _ = H2
          obtain ⟨S2, e2⟩ := upd_sub n2 hU2
          clear hU2
          walk_at "w"
          refine ⟨_, _, Strip.den (RW.sub S2), den_nil e2, dep_dLs _, ?_⟩
          rw [eqD_nil]
          walk_at "w"
          refine ifB.dec (fun y3 => ?_) (fun y3 => ?_)
          · rw [wd_never he ⟨y, y2, List.reverse_eq_nil_iff.1 y3⟩] at h
            exact h H2 (S1.trans S2)
          · rw [wd_on he (fun q => y3 (by rw [q.2.2]; rfl))] at h
            exact h H2 (S1.trans S2)
        · have y2 : ¬ x.sign = 0 := of_decide_eq_false y2
          refine ifB.no rfl ?_
          rw [wd_on he (fun q => y2 q.2.1)] at h
          exact h H1 S1
      · have y : ¬ n = x.row := of_decide_eq_false y
        refine ifB.no rfl ?_
        rw [wd_on he (fun q => y q.1)] at h
        exact h H1 S1
    · exact h.elim
theorem sc_Strider_stride : FnScope ["self", "put", "way", "after", "many"] ["self"] (defScope s_Strider_stride) := ⟨rfl, rfl, rfl, by decide +kernel, rfl, by decide +kernel, by decide +kernel⟩
def sp_stride (a : Ad) : Sp := fun vs H Q _ => match vs with
  | [.ref o] => ∃ (t d o1 o2 l1 l2 : Addr) (x : SS) (m : Ma), SR a.Strider a.Side H o t d o1 o2 l1 l2 x ∧ Mach H t m ∧ OkM m ∧ OkX m x ∧ wdS m x = "on" ∧ x.L.length ≤ 900 ∧ x.R.length ≤ 900 ∧
      ∀ H' : Hp, SR a.Strider a.Side H' o t d o1 o2 l1 l2 (stS m x) → (∀ c u, H c = some u → c ≠ o → c ≠ l1 → c ≠ l2 → H' c = some u) → Q .non H'
  | _ => False
theorem sd_far {C : Addr} {H : Hp} {o1 o2 l1 l2 : Addr} {x : SS} (D1 : SD C H o1 l1 x.L) (D2 : SD C H o2 l2 x.R) (w : Int) : SD C H (if w = 1 then o1 else o2) (if w = 1 then l1 else l2) (farS w x) := by
  unfold farS
  split
  · exact D1
  · exact D2
theorem dg_far {H : Hp} {d o1 o2 : Addr} {w : Int} (hd : H d = some (.dK [(.inl (-1), .ref o1), (.inl 1, .ref o2)])) (hw : w = -1 ∨ w = 1) : DGet H d (.int (-w)) (some (.ref (if w = 1 then o1 else o2))) := by
  rcases hw with rfl | rfl
  · exact DGet.k (k := .inl 1) hd
  · exact DGet.k (k := .inl (-1)) hd
theorem if_ne {c : Prop} [Decidable c] {a b : Addr} (h : a ≠ b) : (if c then a else b) ≠ (if c then b else a) := by split; exact h; exact h.symm
theorem if_no {c : Prop} [Decidable c] {a b o : Addr} (h1 : a ≠ o) (h2 : b ≠ o) : (if c then a else b) ≠ o := by split; exact h1; exact h2
theorem ok_Strider_stride (T : Tx K mg a) : FnOk P w K mg base CX0 3 a.Strider_stride a.Strider_stride_d ["self"] (sp_stride a) := by
  have G_Side_take_run := ok_Side_take_run (P := P) (w := w) (base := base) T
  have G_Side_take := ok_Side_take (P := P) (w := w) (base := base) T
  have G_Side_lay := ok_Side_lay (P := P) (w := w) (base := base) T
  refine T.f_Strider_stride.ok sc_Strider_stride (fun vs H Q E h => ?_) (fun cdv A outer s H vs Q E hr h => ?_)
  · unfold sp_stride at h
    split at h
    · rfl
    · exact h.elim
  · unfold sp_stride at h
    split at h
    · have nd := sc_Strider_stride.nd
      have hu := hu_of hr
      rename_i o
      obtain ⟨t, d, o1, o2, l1, l2, x, m, ⟨⟨dx, ho⟩, hd, D1, D2, ne, no1, no2⟩, hm, M, X, hon, bL, bR, h⟩ := h
      obtain ⟨vs, us, ra, ea, ht, hr', hra, hs', hE⟩ := mach_at hm M X
      obtain ⟨es, _, _, hok⟩ := X.at M
      have z : enS m x.row x.sign ≠ [] := fun z => by rw [wd_end z] at hon; exact end_on hon
      obtain ⟨p, w', n, he, a0, a1, a2, a3, a4⟩ := entryOk_three hok z
      rw [he] at hE
      refine ⟨_, (pss_cons (ps_asg (pe_ix (q_ixLK (K := K) rfl) (pe_ix (q_ixLK (K := K) rfl) (pe_fld (qv 0) rfl) (pe_fld (qv 0) rfl) (fun _ _ => rfl)) (pe_fld (qv 0) rfl) (fun _ _ => rfl)) (qg_tupK (K := K) (n := 3) rfl rfl (qgs_cons (pg_name (i := 1) nd rfl (by first | exact Or.inl rfl | exact Or.inr rfl)) (qgs_cons (pg_name (i := 2) nd rfl (by first | exact Or.inl rfl | exact Or.inr rfl)) (qgs_cons (pg_name (i := 3) nd rfl (by first | exact Or.inl rfl | exact Or.inr rfl)) qgs_nil)))))
    (pss_cons (ps_set (i := 4) nd rfl (by first | exact Or.inl rfl | exact Or.inr rfl) pe_int)
    (pss_cons (ps_c (pt_c q_eq (qv 3) (pe_fld (qv 0) rfl)) (pss_one (ps_aug (i := 4) nd rfl (by first | exact Or.inl rfl | exact Or.inr rfl) (pe_meth (pe_dget hu (pe_fld (qv 0) rfl) (qv 2) (fun _ _ => rfl)) T.k_Side T.m_Side_take_run G_Side_take_run (hr.mono (by decide)) T.b_Side_take_run .nil pass0 (pa_cons (pe_fld (qv 0) rfl) pa_nil)) ip_add)) pss_nil)
    (pss_cons (ps_expr (pe_meth (pe_dget hu (pe_fld (qv 0) rfl) (pe_un q_neg (qv 2)) (fun _ _ => rfl)) T.k_Side T.m_Side_lay G_Side_lay (hr.mono (by decide)) T.b_Side_lay .nil pass0 (pa_cons (qv 1) (pa_cons (qv 4) pa_nil))))
    (pss_cons (ps_fld (qv 0) (pe_meth0 (pe_dget hu (pe_fld (qv 0) rfl) (qv 2) (fun _ _ => rfl)) T.k_Side T.m_Side_take G_Side_take (hr.mono (by decide)) T.b_Side_take .nil pass0) rfl)
    (pss_cons (ps_fld (qv 0) (qv 3) rfl)
    (pss_one (ps_fldaug (qv 0) (qv 4) in_add)))))))), ?_⟩
      walk_at "w"
      refine ⟨_, _, _, _, _, rfl, ho, T.k_Strider, T.n_Strider_table, sf_lt _ _ _ _ _, ?_⟩
      walk_at "w"
      refine ⟨_, _, _, _, _, rfl, ho, T.k_Strider, T.n_Strider_row, sf_lr _ _ _ _ _, ?_⟩
      walk_at "w"
      refine ⟨_, _, SqL.of ht, hr', ?_⟩
      walk_at "w"
      refine ⟨_, _, _, _, _, rfl, ho, T.k_Strider, T.n_Strider_sign, sf_ls _ _ _ _ _, ?_⟩
      walk_at "w"
      refine ⟨_, _, SqL.of hra, hs', ?_⟩
      walk_at "w"
      refine ⟨_, SqT.of hE, rfl, ?_⟩
      walk_at "w"
      refine ⟨_, _, _, _, _, rfl, ho, T.k_Strider, T.n_Strider_row, sf_lr _ _ _ _ _, ?_⟩
      have DN := sd_near D1 D2 w'
      have DF := sd_far D1 D2 w'
      walk_at "w"
      have wn : wfR (nearS w' x) := by unfold nearS; split; exact X.wR; exact X.wL
      have ln : (nearS w' x).length ≤ 900 := by unfold nearS; split <;> assumption
      have lf : (farS w' x).length ≤ 900 := by unfold farS; split <;> assumption
      have wr : wfR (restS n w' x) := by unfold restS; split; exact wn.runOff _; exact wn
      have lr : (restS n w' x).length ≤ 900 := by unfold restS; split; exact Nat.le_trans (off_len _ _) ln; exact ln
      have nlw : (if w' = 1 then l2 else l1) ≠ (if w' = 1 then l1 else l2) := if_ne (Ne.symm ne)
      have now : (if w' = 1 then o2 else o1) ≠ o := if_no no2 no1
      have nov : (if w' = 1 then o1 else o2) ≠ o := if_no no1 no2
      have eS : stS m x = if w' = 1 then ⟨n, (taken (restS n w' x)).1, laid x.L p (manyS n w' x), (taken (restS n w' x)).2, x.steps + manyS n w' x⟩ else ⟨n, (taken (restS n w' x)).1, (taken (restS n w' x)).2, laid x.R p (manyS n w' x), x.steps + manyS n w' x⟩ := by unfold stS; rw [he]
      have eF : farS w' x = if w' = 1 then x.L else x.R := rfl
      generalize hlw : (if w' = 1 then l2 else l1) = lw at nlw DN
      generalize hlv : (if w' = 1 then l1 else l2) = lv at nlw DF
      generalize how' : (if w' = 1 then o2 else o1) = ow at now DN
      generalize hov' : (if w' = 1 then o1 else o2) = ov at nov DF
      have g1 : ∀ H0 : Hp, H0 d = some (.dK [(.inl (-1), .ref o1), (.inl 1, .ref o2)]) → DGet H0 d (.int w') (some (.ref ow)) := fun H0 e => by rw [← how']; exact dg_side e a2
      have g2 : ∀ H0 : Hp, H0 d = some (.dK [(.inl (-1), .ref o1), (.inl 1, .ref o2)]) → DGet H0 d (.int (-w')) (some (.ref ov)) := fun H0 e => by rw [← hov']; exact dg_far e a2
      obtain ⟨⟨dxw, how⟩, asw, hlw1, hAw⟩ := id DN
      have nol : o ≠ lw := by rintro rfl; rw [ho] at hlw1; cases hlw1
      have ndl : d ≠ lw := by rintro rfl; rw [hd] at hlw1; cases hlw1
      have nvl : ov ≠ lw := by
        rintro rfl
        obtain ⟨⟨dxv, hv⟩, _⟩ := DF
        rw [hv] at hlw1; cases hlw1
      refine ifB.mk (fun y => ?ra) (fun y => ?rb)
      case' ra =>
        have y : n = x.row := of_decide_eq_true y
        have hval : 1 + runLen (nearS w' x) x.sign = manyS n w' x := by unfold manyS; rw [if_pos y]
        have hrest : restS n w' x = runOff (nearS w' x) x.sign := by unfold restS; rw [if_pos y]
        walk_at "w"
        refine ⟨_, rfl, ?_⟩
        walk_at "w"
        refine ⟨_, _, _, _, _, rfl, ho, T.k_Strider, T.n_Strider_sides, sf_ld _ _ _ _ _, ?_⟩
        walk_at "w"
        refine ⟨_, _, rfl, g1 _ hd, ?_⟩
        walk_at "w"
        refine ⟨_, _, _, rfl, how, rfl, ?_⟩
        walk_at "w"
        refine ⟨_, _, _, _, _, rfl, ho, T.k_Strider, T.n_Strider_sign, sf_ls _ _ _ _ _, ?_⟩
        walk_at "w"
        refine ⟨lw, nearS w' x, DN, fun H1 DN1 k1 => ?_⟩
        rw [← hrest] at DN1
        walk_at "w"
        refine ⟨_, _, rfl, rfl, ?_⟩
      case' rb =>
        have y : ¬ n = x.row := of_decide_eq_false y
        have hval : 1 = manyS n w' x := by unfold manyS; rw [if_neg y]
        have hrest : restS n w' x = nearS w' x := by unfold restS; rw [if_neg y]
        have k1 : ∀ c u, H c = some u → c ≠ lw → H c = some u := fun c u e _ => e
        have DN1 := DN
        rw [← hrest] at DN1
      all_goals
        have ho1 := k1 _ _ ho nol
        have hd1 := k1 _ _ hd ndl
        have DF1 := DF.mv k1 nvl (Ne.symm nlw) (fun x z => by rw [hlw1] at z; cases z)
        obtain ⟨⟨dxv, hov1⟩, asv, hlv1, hAv1⟩ := id DF1
        have nlv1 : o ≠ lv := by rintro rfl; rw [ho1] at hlv1; cases hlv1
        have ndv1 : d ≠ lv := by rintro rfl; rw [hd1] at hlv1; cases hlv1
        walk_at "w"
        refine ⟨_, _, _, _, _, rfl, ho1, T.k_Strider, T.n_Strider_sides, sf_ld _ _ _ _ _, ?_⟩
        walk_at "w"
        refine ⟨_, _, rfl, g2 _ hd1, ?_⟩
        walk_at "w"
        refine ⟨_, _, _, rfl, hov1, rfl, ?_⟩
        walk_at "w"
        refine ⟨lv, farS w' x, DF1, Nat.le_trans lf (by decide), fun H2 DF2 k2 => ?_⟩
        have DF2 : SD a.Side H2 ov lv (laid (farS w' x) p (manyS n w' x)) := by rw [← hval]; exact DF2
        have ho2 := k2 _ _ ho1 nlv1
        have hd2 := k2 _ _ hd1 ndv1
        have nwv : ow ≠ lv := by
          rintro rfl
          obtain ⟨⟨dxq, hv⟩, _⟩ := DN1
          rw [hv] at hlv1; cases hlv1
        have DN2 := DN1.mv k2 nwv nlw (fun x z => by rw [hlv1] at z; cases z)
        obtain ⟨⟨dxw2, how2⟩, asw2, hlw2, hAw2⟩ := id DN2
        walk_at "w"
        refine ⟨_, _, _, _, _, rfl, ho2, T.k_Strider, T.n_Strider_sides, sf_ld _ _ _ _ _, ?_⟩
        walk_at "w"
        refine ⟨_, _, rfl, g1 _ hd2, ?_⟩
        walk_at "w"
        refine ⟨_, _, _, rfl, how2, rfl, ?_⟩
        walk_at "w"
        refine ⟨lw, restS n w' x, DN2, wr, Nat.le_trans lr (by decide), fun H3 DN3 k3 => ?_⟩
        have ho3 := k3 _ _ ho2 nol
        have hd3 := k3 _ _ hd2 ndl
        have DF3 := DF2.mv k3 nvl (Ne.symm nlw) (fun x z => by rw [hlw2] at z; cases z)
        walk_at "w"
        refine ⟨_, _, _, _, rfl, ho3, T.k_Strider, T.n_Strider_sign, sf_len _ _ _ _ _, ?_⟩
        rw [sf_sign]
        walk_at "w"
        refine ⟨_, _, _, _, rfl, upd_same, T.k_Strider, T.n_Strider_row, sf_len _ _ _ _ _, ?_⟩
        rw [sf_row, upd_upd]
        walk_at "w"
        refine ⟨_, _, _, _, _, rfl, upd_same, T.k_Strider, T.n_Strider_steps, sf_lk _ _ _ _ _, ?_⟩
        walk_at "w"
        refine ⟨_, _, rfl, rfl, ?_⟩
        walk_at "w"
        refine ⟨_, _, upd_same, sf_len _ _ _ _ _, ?_⟩
        rw [sf_steps, upd_upd]
        generalize hU4 : upd H3 o _ = H4
        have ho4 : H4 o = some (.ins a.Strider dx (sf t n (taken (restS n w' x)).1 d (x.steps + manyS n w' x))) := by rw [← hU4, upd_same, ← hval]
        have k4 : ∀ c u, H3 c = some u → c ≠ o → H4 c = some u := fun c u e ne => by rw [← hU4, upd_ne ne]; exact e
        clear hU4
        have nt : ∀ x, H3 o ≠ some (tI x) := fun x z => by rw [ho3] at z; cases z
        have ndo : d ≠ o := by rintro rfl; rw [ho] at hd; cases hd
        have DF4 := DF3.mv k4 nov (Ne.symm nlv1) nt
        have DN4 := DN3.mv k4 now (Ne.symm nol) nt
        refine h H4 ?_ ?_
        · rw [eS]
          rw [eF] at DF4
          by_cases hw : w' = 1
          · rw [if_pos hw] at hlw hlv how' hov' DF4 ⊢
            subst hlw hlv how' hov'
            exact ⟨⟨dx, ho4⟩, k4 _ _ hd3 ndo, DF4, DN4, ne, no1, no2⟩
          · rw [if_neg hw] at hlw hlv how' hov' DF4 ⊢
            subst hlw hlv how' hov'
            exact ⟨⟨dx, ho4⟩, k4 _ _ hd3 ndo, DN4, DF4, ne, no1, no2⟩
        · intro c u e c1 c2 c3
          have cw : c ≠ lw := by rw [← hlw]; split; exact c3; exact c2
          have cv : c ≠ lv := by rw [← hlv]; split; exact c2; exact c3
          exact k4 _ _ (k3 _ _ (k2 _ _ (k1 _ _ e cw) cv) cw) c1
    · exact h.elim
theorem sc_Strider_told : FnScope ["self"] ["self"] (defScope s_Strider_told) := ⟨rfl, rfl, rfl, by decide +kernel, rfl, by decide +kernel, by decide +kernel⟩
def sp_stold (a : Ad) : Sp := fun vs H Q _ => match vs with
  | [.ref o] => ∃ (t d o1 o2 l1 l2 : Addr) (x : SS), SR a.Strider a.Side H o t d o1 o2 l1 l2 x ∧ ∀ (q la lb : Addr) (H' : Hp), Sub H H' → H' q = some (.tup [.ref la, .int x.sign, .ref lb]) → Strip H' la x.L.reverse → Strip H' lb x.R → H la = none → H lb = none → la ≠ lb → Q (.ref q) H'
  | _ => False
theorem ok_Strider_told (T : Tx K mg a) : FnOk P w K mg base CX0 1 a.Strider_told a.Strider_told_d ["self"] (sp_stold a) := by
  refine T.f_Strider_told.ok sc_Strider_told (fun vs H Q E h => ?_) (fun cdv A outer s H vs Q E hr h => ?_)
  · unfold sp_stold at h
    split at h
    · rfl
    · exact h.elim
  · unfold sp_stold at h
    split at h
    · have nd := sc_Strider_told.nd
      have hu := hu_of hr
      rename_i o
      obtain ⟨t, d, o1, o2, l1, l2, x, ⟨⟨dx, ho⟩, hd, ⟨⟨dx1, ho1⟩, as1, hl1, hA1⟩, ⟨⟨dx2, ho2⟩, as2, hl2, hA2⟩, ne, nno1, nno2⟩, h⟩ := h
      refine ⟨_, (pss_one (ps_ret (pe_tup (pa_cons (pe_callTy (q_listOfK (K := K) rfl) rfl T.z_list bt_list (pa_cons (pe_fld (pe_dget hu (pe_fld (qv 0) rfl) (pe_un q_neg pe_int) (fun _ _ => rfl)) rfl) pa_nil)) (pa_cons (pe_fld (qv 0) rfl) (pa_cons (pe_revLK (K := K) rfl (pe_fld (pe_dget hu (pe_fld (qv 0) rfl) pe_int (fun _ _ => rfl)) rfl) (qo_some (pe_un q_neg pe_int))) pa_nil)))))), ?_⟩
      walk_at "w"
      refine ⟨_, _, _, _, _, rfl, ho, T.k_Strider, T.n_Strider_sides, sf_ld _ _ _ _ _, ?_⟩
      walk_at "w"
      refine ⟨_, _, rfl, DGet.k (k := .inl (-1)) hd, ?_⟩
      walk_at "w"
      refine ⟨_, _, _, _, _, rfl, ho1, T.k_Side, T.n_Side_runs, rfl, ?_⟩
      walk_at "w"
      refine ⟨_, .inl (SqL.of hl1), ?_⟩
      intro p1 n1
      generalize hU1 : upd _ p1 _ = H1
      obtain ⟨S1, e1⟩ := upd_sub n1 hU1
      clear hU1
      have T1 := S1
      walk_at "w"
      refine ⟨_, _, _, _, _, rfl, S1 _ _ ho, T.k_Strider, T.n_Strider_sign, sf_ls _ _ _ _ _, ?_⟩
      walk_at "w"
      refine ⟨_, _, _, _, _, rfl, S1 _ _ ho, T.k_Strider, T.n_Strider_sides, sf_ld _ _ _ _ _, ?_⟩
      walk_at "w"
      refine ⟨_, _, rfl, DGet.k (k := .inl 1) (S1 _ _ hd), ?_⟩
      walk_at "w"
      refine ⟨_, _, _, _, _, rfl, S1 _ _ ho2, T.k_Side, T.n_Side_runs, rfl, ?_⟩
      walk_at "w"
      refine ⟨rfl, _, SqL.of (S1 _ _ hl2), ?_⟩
      intro p2 n2
      generalize hU2 : upd _ p2 _ = H2
      obtain ⟨S2, e2⟩ := upd_sub n2 hU2
      clear hU2
      have T2 := T1.trans S2
      obtain ⟨F2, A2⟩ := sa_rev e2 (hA2.mono fun _ _ _ z => T2 _ _ z)
      rw [List.reverse_reverse] at A2
      walk_at "w"
      refine ⟨by show 3 ≤ sizeLine; decide, ?_⟩
      intro p3 n3
      generalize hU3 : upd _ p3 _ = H3
      obtain ⟨S3, e3⟩ := upd_sub n3 hU3
      clear hU3
      have T3 := T2.trans S3
      have n12 : p1 ≠ p2 := by rintro rfl; rw [e1] at n2; cases n2
      exact h p3 p1 p2 H3 T3 e3 ⟨as1, S3 _ _ (S2 _ _ e1), hA1.mono fun _ _ _ z => T3 _ _ z⟩ (Strip.sub S3 ⟨_, F2, A2⟩) n1 (S1.free n2) n12
    · exact h.elim
theorem sc_by_strides : FnScope ["machine", "row", "runs", "many", "strider", "count"] ["machine", "row", "runs", "many"] (defScope s_by_strides) := ⟨rfl, rfl, rfl, by decide +kernel, rfl, by decide +kernel, by decide +kernel⟩
theorem bd_of {m : Ma} (h : isM m = true) : Bd 100 m := by
  have M := OkM.of h
  exact ⟨Nat.le_trans M.n4 (by decide), fun r hr => by have := M.len r hr; have := M.s4; omega⟩
def sp_by_strides : Sp := fun vs H Q _ => match vs with
  | [.ref t, .int r, .ref q, .int k] => ∃ (m : Ma) (la lb : Addr) (s : Int) (L R : Mk2), Mach H t m ∧ isM m = true ∧ H q = some (.tup [.ref la, .int s, .ref lb]) ∧ Strip H la L.reverse ∧ Strip H lb R ∧ OkX m ⟨r, s, L, R, 0⟩ ∧ (L.length ≤ 100 ∧ R.length ≤ 100) ∧ (0 ≤ k ∧ k ≤ 500) ∧
      ∀ (q' z la' lb' : Addr) (y : SS) (H' : Hp), y = goS m k.toNat ⟨r, s, L, R, 0⟩ → Sub H H' → H' q' = some (.tup [.str (wdS m y), .int y.steps, .int y.row, .ref z]) → H' z = some (.tup [.ref la', .int y.sign, .ref lb']) → Strip H' la' y.L.reverse → Strip H' lb' y.R → H la' = none → H lb' = none → la' ≠ lb' → Q (.ref q') H'
  | _ => False
theorem ok_by_strides (T : Tx K mg a) : FnOk P w K mg base CX0 6 a.by_strides a.by_strides_d ["machine", "row", "runs", "many"] (sp_by_strides) := by
  have G_Strider___init__ := ok_Strider___init__ (P := P) (w := w) (base := base) T
  have G_Strider_word := ok_Strider_word (P := P) (w := w) (base := base) T
  have G_Strider_stride := ok_Strider_stride (P := P) (w := w) (base := base) T
  have G_Strider_told := ok_Strider_told (P := P) (w := w) (base := base) T
  have G_must_machine := (ok_must_machine (P := P) (w := w) (base := base) T).noE
  refine T.f_by_strides.ok sc_by_strides (fun vs H Q E h => ?_) (fun cdv A outer s H vs Q E hr h => ?_)
  · unfold sp_by_strides at h
    split at h
    · rfl
    · exact h.elim
  · unfold sp_by_strides at h
    split at h
    · have nd := sc_by_strides.nd
      have hu := hu_of hr
      rename_i t r q k
      obtain ⟨m, la, lb, s', L, R, hm, hM, hq, hL, hR, X, ⟨bL, bR⟩, ⟨k0, k1⟩, h⟩ := h
      have M := OkM.of hM
      refine ⟨_, (pss_cons (ps_expr (pe_call G_must_machine (hr.mono (by decide)) rfl T.g_must_machine T.f_must_machine.kp T.b_must_machine .nil pass0 (pa_cons (qv 0) pa_nil)))
    (pss_cons (ps_set (i := 4) nd rfl (by first | exact Or.inl rfl | exact Or.inr rfl) (pe_make T.mk_Strider G_Strider___init__ (hr.mono (by decide)) rfl T.g_Strider T.b_Strider___init__ .nil pass0 (pa_cons (qv 0) (pa_cons (qv 1) (pa_cons (qv 2) pa_nil)))))
    (pss_cons (ps_for PassesOwn.never rfl (qi_range1 rfl T.z_range (pa_cons (qv 3) pa_nil)) (pg_name (i := 5) nd rfl (by first | exact Or.inl rfl | exact Or.inr rfl)) (pss_cons (ps_c (pt_c q_ne (pe_meth0 (qv 4) T.k_Strider T.m_Strider_word G_Strider_word (hr.mono (by decide)) T.b_Strider_word .nil pass0) pe_str) (pss_one ps_break) pss_nil)
        (pss_one (ps_expr (pe_meth0 (qv 4) T.k_Strider T.m_Strider_stride G_Strider_stride (hr.mono (by decide)) T.b_Strider_stride .nil pass0)))))
    (pss_one (ps_ret (pe_tup (pa_cons (pe_meth0 (qv 4) T.k_Strider T.m_Strider_word G_Strider_word (hr.mono (by decide)) T.b_Strider_word .nil pass0) (pa_cons (pe_fld (qv 4) rfl) (pa_cons (pe_fld (qv 4) rfl) (pa_cons (pe_meth0 (qv 4) T.k_Strider T.m_Strider_told G_Strider_told (hr.mono (by decide)) T.b_Strider_told .nil pass0) pa_nil)))))))))), ?_⟩
      walk_at "w"
      refine ⟨m, hm, bd_of hM, fun _ H1 S1 => ?_, fun z => by rw [hM] at z; cases z⟩
      walk_at "w"
      intro o dx n1 n2 ne
      have T2 : Sub H1 (upd (upd H1 dx (.own o)) o (.ins a.Strider dx [])) := (Sub.new n2).upd n1
      have U2 := S1.trans T2
      refine ⟨dx, la, lb, s', L, R, upd_same, U2 _ _ hq, hL.sub U2, hR.sub U2, X.wL, X.wR, Nat.le_trans bL (by decide), Nat.le_trans bR (by decide), fun d o1 o2 l1 l2 H3 R3 nl1 nl2 k3 => ⟨rfl, ?_⟩⟩
      have S3 : Sub H1 H3 := fun c u e => k3 c u (T2 _ _ e) (ne_of_none e n1)
      have T3 := S1.trans S3
      have no : H o = none := S1.free n1
      have nl1' : H l1 = none := U2.free nl1
      have nl2' : H l2 = none := U2.free nl2
      walk_at "w"
      refine ⟨⟨by omega, by omega⟩, ?_⟩
      refine for_range (lo := 0) (n := k.toNat) (fun i σ H4 => ∃ (v5 : Option V) (y : SS), σ = [some (.ref t), some (.int r), some (.ref q), some (.int k), some (.ref o), v5] ∧ i ≤ k.toNat ∧ Sub H H4 ∧ SR a.Strider a.Side H4 o t d o1 o2 l1 l2 y ∧ OkX m y ∧ (y.L.length ≤ 100 + i ∧ y.R.length ≤ 100 + i) ∧ goS m k.toNat ⟨r, s', L, R, 0⟩ = goS m (k.toNat - i) y) ?_ ?_ ?_
      · exact ⟨none, _, rfl, Nat.zero_le _, T3, R3, X, ⟨bL, bR⟩, rfl⟩
      case' refine_2 =>
        rintro i σ H4 hi ⟨v5, y, rfl, _, S4, R4, X4, ⟨b1, b2⟩, g4⟩
        obtain ⟨dx4, ho4⟩ := R4.ob
        walk_at "w"
        refine ⟨_, _, _, rfl, ho4, rfl, ?_⟩
        walk_at "w"
        refine ⟨t, d, o1, o2, l1, l2, y, m, R4, hm.stay (.sub S4), M, X4, fun H5 S5 => ?_⟩
        have ho5 := S5 _ _ ho4
        have R5 : SR a.Strider a.Side H5 o t d o1 o2 l1 l2 y := ⟨⟨dx4, ho5⟩, S5 _ _ R4.dc, R4.s1.sub S5, R4.s2.sub S5, R4.ne, R4.n1, R4.n2⟩
        have T5 := S4.trans S5
        walk_at "w"
        refine ifB.mk (fun z => ?rc) (fun z => ?rd)
        case' rd =>
          have z : wdS m y = "on" := by simpa using z
          walk_at "w"
          refine ⟨_, _, _, rfl, ho5, rfl, ?_⟩
          walk_at "w"
          refine ⟨t, d, o1, o2, l1, l2, y, m, R5, hm.stay (.sub T5), M, X4, z, by omega, by omega, fun H6 R6 k6 => ?_⟩
          have hlen := st_len (m := m) b1 b2
          refine ⟨_, stS m y, rfl, by omega, fun c u e => k6 _ _ (T5 _ _ e) (ne_of_none e no) (ne_of_none e nl1') (ne_of_none e nl2'), R6, X4.st M, ⟨by omega, by omega⟩, ?_⟩
          rw [g4, show k.toNat - i = (k.toNat - (i + 1)) + 1 by omega, goS_on z]
        case' rc =>
          have z : ¬ wdS m y = "on" := by simpa using z
          have g4 : y = goS m k.toNat ⟨r, s', L, R, 0⟩ := by rw [g4, goS_stop z]
          have R4 := R5
          have S4 := T5
      case' refine_3 =>
        rintro σ H4 ⟨v5, y, rfl, _, S4, R4, X4, ⟨b1, b2⟩, g4⟩
        rw [Nat.sub_self] at g4
        have g4 : y = goS m k.toNat ⟨r, s', L, R, 0⟩ := g4.symm
      all_goals
        obtain ⟨dx7, ho7⟩ := R4.ob
        walk_at "w"
        refine ⟨_, _, _, rfl, ho7, rfl, ?_⟩
        walk_at "w"
        refine ⟨t, d, o1, o2, l1, l2, y, m, R4, hm.stay (.sub S4), M, X4, fun H8 S8 => ?_⟩
        have ho8 := S8 _ _ ho7
        have R8 : SR a.Strider a.Side H8 o t d o1 o2 l1 l2 y := ⟨⟨dx7, ho8⟩, S8 _ _ R4.dc, R4.s1.sub S8, R4.s2.sub S8, R4.ne, R4.n1, R4.n2⟩
        have T8 := S4.trans S8
        walk_at "w"
        refine ⟨_, _, _, _, _, rfl, ho8, T.k_Strider, T.n_Strider_steps, sf_lk _ _ _ _ _, ?_⟩
        walk_at "w"
        refine ⟨_, _, _, _, _, rfl, ho8, T.k_Strider, T.n_Strider_row, sf_lr _ _ _ _ _, ?_⟩
        walk_at "w"
        refine ⟨_, _, _, rfl, ho8, rfl, ?_⟩
        walk_at "w"
        refine ⟨t, d, o1, o2, l1, l2, y, R8, fun z la' lb' H9 S9 hz hla hlb n1 n2 n12 => ?_⟩
        walk_at "w"
        refine ⟨by show 4 ≤ sizeLine; decide, ?_⟩
        intro p10 n10
        generalize hU10 : upd _ p10 _ = H10
        obtain ⟨S10, e10⟩ := upd_sub n10 hU10
        clear hU10
        exact h p10 z la' lb' y H10 g4 ((T8.trans S9).trans S10) e10 (S10 _ _ hz) (hla.sub S10) (hlb.sub S10) (T8.free n1) (T8.free n2) n12
    · exact h.elim
theorem sc_l_entry : FnScope ["_law_purse_here", "_law_rows", "_law_signs", "_law_row", "_law_few", "_law_put", "_law_way", "_law_to"] ["_law_purse_here", "_law_rows", "_law_signs", "_law_row", "_law_few"] (defScope s_l_entry) := ⟨rfl, rfl, rfl, by decide +kernel, rfl, by decide +kernel, by decide +kernel⟩
def sp_lentry : Sp := fun vs H Q _ => match vs with
  | [.ref pp, .int rows, .int signs, .int row, .int few] => ∃ n c m : Int, H pp = some (.lst [.int n, .int c, .int m]) ∧ (0 ≤ m ∧ m ≤ 1000000) ∧ (1 ≤ rows ∧ rows ≤ 4) ∧ (1 ≤ signs ∧ signs ≤ 4) ∧ (0 ≤ row ∧ row < rows) ∧ (1 ≤ few ∧ few ≤ 60) ∧
      ∀ (b : Addr) (e : En) (H' : Hp) (n' m' : Int), P3 pp c H H' → H' pp = some (.lst [.int n', .int c, .int m']) → m ≤ m' → m' ≤ m + 10 → Ent H' b e → entryOk rows signs e = true → Q (.ref b) H'
  | _ => False
/-- one of two -/
theorem pick2 {u v : V} (b : Bool) : atI [u, v] (if b = true then 1 else 0) = some (if b = true then v else u) := by cases b <;> rfl
theorem ok_l_entry (T : Tx K mg a) : FnOk P w K mg base CX0 3 a.l_entry a.l_entry_d ["_law_purse_here", "_law_rows", "_law_signs", "_law_row", "_law_few"] (sp_lentry) := by
  have G_l_draw := ok_l_draw (P := P) (w := w) (base := base) T
  refine T.f_l_entry.ok sc_l_entry (fun vs H Q E h => ?_) (fun cdv A outer s H vs Q E hr h => ?_)
  · unfold sp_lentry at h
    split at h
    · rfl
    · exact h.elim
  · unfold sp_lentry at h
    split at h
    · have nd := sc_l_entry.nd
      have hu := hu_of hr
      rename_i pp rows signs row few
      obtain ⟨n0, c, m0, hp, ⟨hm0, hm1⟩, ⟨ra, rb⟩, ⟨sa, sb⟩, ⟨wa, wb⟩, ⟨fa, fb⟩, h⟩ := h
      have P0 : P3 pp c H H := P3.refl ⟨n0, m0, hp⟩
      have e0 := hp
      refine ⟨_, (pss_cons (ps_set (i := 5) nd rfl (by first | exact Or.inl rfl | exact Or.inr rfl) (pe_call G_l_draw (hr.mono (by decide)) rfl T.g_l_draw T.f_l_draw.kp T.b_l_draw .nil pass0 (pa_cons (qv 0) (pa_cons (qv 2) pa_nil))))
    (pss_cons (ps_set (i := 6) nd rfl (by first | exact Or.inl rfl | exact Or.inr rfl) (pe_op q_sub (pe_op q_mul pe_int (pe_call G_l_draw (hr.mono (by decide)) rfl T.g_l_draw T.f_l_draw.kp T.b_l_draw .nil pass0 (pa_cons (qv 0) (pa_cons pe_int pa_nil)))) pe_int))
    (pss_cons (ps_set (i := 7) nd rfl (by first | exact Or.inl rfl | exact Or.inr rfl) (pe_ix (q_ixLK (K := K) rfl) (pe_lst (pa_cons (pe_call G_l_draw (hr.mono (by decide)) rfl T.g_l_draw T.f_l_draw.kp T.b_l_draw .nil pass0 (pa_cons (qv 0) (pa_cons (qv 1) pa_nil))) (pa_cons (qv 3) pa_nil))) (pe_callTy q_int1 rfl T.z_int bt_int (pa_cons (pe_cmpR q_eq (pe_call G_l_draw (hr.mono (by decide)) rfl T.g_l_draw T.f_l_draw.kp T.b_l_draw .nil pass0 (pa_cons (qv 0) (pa_cons pe_int pa_nil))) pe_int (by first | exact nomark _ | rfl)) pa_nil)) (fun _ _ => rfl)))
    (pss_one (ps_ret (pe_ix (q_ixLK (K := K) rfl) (pe_lst (pa_cons (pe_tup (pa_cons (qv 5) (pa_cons (qv 6) (pa_cons (qv 7) pa_nil)))) (pa_cons (pe_tup pa_nil) pa_nil))) (pe_callTy q_int1 rfl T.z_int bt_int (pa_cons (pe_cmpR q_eq (pe_call G_l_draw (hr.mono (by decide)) rfl T.g_l_draw T.f_l_draw.kp T.b_l_draw .nil pass0 (pa_cons (qv 0) (pa_cons (qv 4) pa_nil))) pe_int (by first | exact nomark _ | rfl)) pa_nil)) (fun _ _ => rfl))))))), ?_⟩
      walk_at "w"
      refine ⟨lg (by omega) (by omega), _, _, _, e0, ⟨by omega, by omega⟩, fun d1 n1 m1 d10 d11 u10 u11 => ?_⟩
      have P1 := P0.draw n1 m1
      have Q1 := P3.of_draw n1 m1 e0
      generalize hg1 : upd _ pp _ = H1 at P1 Q1 ⊢
      have e1 : H1 pp = some (.lst [.int n1, .int c, .int m1]) := by rw [← hg1]; exact upd_same
      clear hg1
      walk_at "w"
      refine ⟨by decide, _, _, _, e1, ⟨by omega, by omega⟩, fun d2 n2 m2 d20 d21 u20 u21 => ?_⟩
      have P2 := P1.draw n2 m2
      have Q2 := P3.of_draw n2 m2 e1
      generalize hg2 : upd _ pp _ = H2 at P2 Q2 ⊢
      have e2 : H2 pp = some (.lst [.int n2, .int c, .int m2]) := by rw [← hg2]; exact upd_same
      clear hg2
      walk_at "w"
      refine ⟨.inl ⟨by decide, by decide⟩, fun mw hmw _ => ?_⟩
      have hmw : mw = 2 * d2 := hmw
      walk_at "w"
      refine ⟨lg (by omega) (by omega), _, _, _, e2, ⟨by omega, by omega⟩, fun d4 n4 m4 d40 d41 u40 u41 => ?_⟩
      have P4 := P2.draw n4 m4
      have Q4 := P3.of_draw n4 m4 e2
      generalize hg4 : upd _ pp _ = H4 at P4 Q4 ⊢
      have e4 : H4 pp = some (.lst [.int n4, .int c, .int m4]) := by rw [← hg4]; exact upd_same
      clear hg4
      walk_at "w"
      refine ⟨by show 2 ≤ sizeLine; decide, ?_⟩
      intro p5 n5
      generalize hU5 : upd _ p5 _ = H5
      obtain ⟨S5, e5⟩ := upd_sub n5 hU5
      clear hU5
      have P5 := P4.sub S5
      have L5 := e5
      have e5 := S5 _ _ e4
      have np5 : p5 ≠ pp := by rintro rfl; rw [e4] at n5; cases n5
      walk_at "w"
      refine ⟨by decide, _, _, _, e5, ⟨by omega, by omega⟩, fun d6 n6 m6 d60 d61 u60 u61 => ?_⟩
      have P6 := P5.draw n6 m6
      have Q6 := P3.of_draw n6 m6 e5
      generalize hg6 : upd _ pp _ = H6 at P6 Q6 ⊢
      have e6 : H6 pp = some (.lst [.int n6, .int c, .int m6]) := by rw [← hg6]; exact upd_same
      clear hg6
      walk_at "w"
      refine ⟨_, _, SqL.of (Q6.keep _ _ np5 L5), pick2 _, ?_⟩
      obtain ⟨to, hto, t0, t1⟩ : ∃ to : Int, (if (if false = true then !decide (d6 = 1) else decide (d6 = 1)) = true then V.int row else V.int d4) = .int to ∧ 0 ≤ to ∧ to < rows := by
        by_cases q : d6 = 1
        · exact ⟨row, by simp [q], wa, wb⟩
        · exact ⟨d4, by simp [q], d40, d41⟩
      rw [hto]
      walk_at "w"
      refine ⟨by show 3 ≤ sizeLine; decide, ?_⟩
      intro p7 n7
      generalize hU7 : upd _ p7 _ = H7
      obtain ⟨S7, e7⟩ := upd_sub n7 hU7
      clear hU7
      have P7 := P6.sub S7
      have E7 : Ent H7 p7 [d1, mw - 1, to] := e7
      have e7 := S7 _ _ e6
      walk_at "w"
      refine ⟨by show 0 ≤ sizeLine; decide, ?_⟩
      intro p8 n8
      generalize hU8 : upd _ p8 _ = H8
      obtain ⟨S8, e8⟩ := upd_sub n8 hU8
      clear hU8
      have P8 := P7.sub S8
      have E8 : Ent H8 p8 [] := e8
      have e8 := S8 _ _ e7
      walk_at "w"
      refine ⟨by show 2 ≤ sizeLine; decide, ?_⟩
      intro p9 n9
      generalize hU9 : upd _ p9 _ = H9
      obtain ⟨S9, e9⟩ := upd_sub n9 hU9
      clear hU9
      have P9 := P8.sub S9
      have L9 := e9
      have e9 := S9 _ _ e8
      have np9 : p9 ≠ pp := by rintro rfl; rw [e8] at n9; cases n9
      have ne7 : p7 ≠ pp := by rintro rfl; rw [e6] at n7; cases n7
      have ne8 : p8 ≠ pp := by rintro rfl; rw [e7] at n8; cases n8
      walk_at "w"
      refine ⟨lg (by omega) (by omega), _, _, _, e9, ⟨by omega, by omega⟩, fun d20 n20 m20 d200 d201 u200 u201 => ?_⟩
      have P20 := P9.draw n20 m20
      have Q20 := P3.of_draw n20 m20 e9
      generalize hg20 : upd _ pp _ = H20 at P20 Q20 ⊢
      have e20 : H20 pp = some (.lst [.int n20, .int c, .int m20]) := by rw [← hg20]; exact upd_same
      clear hg20
      walk_at "w"
      refine ⟨_, _, SqL.of (Q20.keep _ _ np9 L9), pick2 _, ?_⟩
      have ok7 : entryOk rows signs [d1, mw - 1, to] = true := by
        show ((decide (0 ≤ d1) && decide (d1 < signs)) && (decide (mw - 1 = -1) || decide (mw - 1 = 1)) && (decide (0 ≤ to) && decide (to < rows))) = true
        have : mw - 1 = -1 ∨ mw - 1 = 1 := by omega
        simp [d10, d11, t0, t1, this]
      have E7' : Ent H20 p7 [d1, mw - 1, to] := Q20.keep _ _ ne7 (S9 _ _ (S8 _ _ E7))
      have E8' : Ent H20 p8 [] := Q20.keep _ _ ne8 (S9 _ _ E8)
      by_cases q : d20 = 1
      · rw [if_pos (by simp [q])]
        exact h p8 [] H20 n20 m20 P20 e20 (by omega) (by omega) E8' rfl
      · rw [if_neg (by simp [q])]
        exact h p7 _ H20 n20 m20 P20 e20 (by omega) (by omega) E7' ok7
    · exact h.elim
theorem sc_l_machine : FnScope ["_law_purse_here", "_law_rows", "_law_signs", "_law_few"] ["_law_purse_here"] (defScope s_l_machine) := ⟨rfl, rfl, rfl, by decide +kernel, rfl, by decide +kernel, by decide +kernel⟩
def sp_machine : Sp := fun vs H Q _ => match vs with
  | [.ref pp] => ∃ n c m : Int, H pp = some (.lst [.int n, .int c, .int m]) ∧ (0 ≤ m ∧ m ≤ 500000) ∧
      ∀ (t : Addr) (mm : Ma) (H' : Hp) (n' m' : Int), P3 pp c H H' → H' pp = some (.lst [.int n', .int c, .int m']) → m ≤ m' → m' ≤ m + 300 → Mach H' t mm → isM mm = true → H t = none → Q (.ref t) H'
  | _ => False
theorem isM_of {m : Ma} {rows signs : Int} (h1 : (m.length : Int) = rows) (h2 : 1 ≤ rows) (h3 : rows ≤ 4) (h4 : 2 ≤ signs) (h5 : signs ≤ 4)
    (h : ∀ r ∈ m, (r.length : Int) = signs ∧ ∀ e ∈ r, entryOk rows signs e = true) : isM m = true := by
  cases m with
  | nil => simp at h1; omega
  | cons r0 m' =>
    have h0 := (h r0 (by simp)).1
    refine isM_mk (by omega) (by omega) (by omega) fun r hr => ⟨by have := (h r hr).1; omega, ?_⟩
    unfold okAll
    rw [h1, h0]
    exact List.all_eq_true.2 (h r hr).2
theorem ok_l_machine (T : Tx K mg a) : FnOk P w K mg base CX0 4 a.l_machine a.l_machine_d ["_law_purse_here"] (sp_machine) := by
  have G_l_draw := ok_l_draw (P := P) (w := w) (base := base) T
  have G_l_entry := ok_l_entry (P := P) (w := w) (base := base) T
  refine T.f_l_machine.ok sc_l_machine (fun vs H Q E h => ?_) (fun cdv A outer s H vs Q E hr h => ?_)
  · unfold sp_machine at h
    split at h
    · rfl
    · exact h.elim
  · unfold sp_machine at h
    split at h
    · have nd := sc_l_machine.nd
      have hu := hu_of hr
      rename_i pp
      obtain ⟨n0, c, m0, hp, ⟨hm0, hm1⟩, h⟩ := h
      have P0 : P3 pp c H H := P3.refl ⟨n0, m0, hp⟩
      have e0 := hp
      refine ⟨_, (pss_cons (ps_set (i := 1) nd rfl (by first | exact Or.inl rfl | exact Or.inr rfl) (pe_op q_add pe_int (pe_call G_l_draw (hr.mono (by decide)) rfl T.g_l_draw T.f_l_draw.kp T.b_l_draw .nil pass0 (pa_cons (qv 0) (pa_cons pe_int pa_nil)))))
    (pss_cons (ps_set (i := 2) nd rfl (by first | exact Or.inl rfl | exact Or.inr rfl) (pe_op q_add pe_int (pe_call G_l_draw (hr.mono (by decide)) rfl T.g_l_draw T.f_l_draw.kp T.b_l_draw .nil pass0 (pa_cons (qv 0) (pa_cons pe_int pa_nil)))))
    (pss_cons (ps_set (i := 3) nd rfl (by first | exact Or.inl rfl | exact Or.inr rfl) (pe_ix (q_ixLK (K := K) rfl) (pe_lst (pa_cons pe_int (pa_cons pe_int (pa_cons pe_int (pa_cons pe_int pa_nil))))) (pe_call G_l_draw (hr.mono (by decide)) rfl T.g_l_draw T.f_l_draw.kp T.b_l_draw .nil pass0 (pa_cons (qv 0) (pa_cons pe_int pa_nil))) (fun _ _ => rfl)))
    (pss_one (ps_ret (pe_lcC (own := ["_law_row"]) (fr := [2, 0, 1, 3]) (y := "_law_row") rfl (by exact ⟨rfl, by decide +kernel, by decide +kernel, by rfl, by walk_at "frees", by walk_at "frees"⟩) (qi_range1 rfl T.z_range (pa_cons (qv 1) pa_nil)) (fun _ _ _ _ => (pg_name (i := 0) (show List.Nodup (α := Str) ["_law_row", "_law_signs", "_law_purse_here", "_law_rows", "_law_few"] from by decide +kernel) rfl (by first | exact Or.inl rfl | exact Or.inr rfl) (hf := Or.inl fn_y))) (fun _ _ _ _ => pts_nil) (fun _ _ _ _ => (pe_lc (own := ["_law_sign"]) (fr := [2, 3, 1, 0, 4]) rfl (by walk_at "comp_ok") (qi_range1 rfl T.z_range (pa_cons (qv 1) pa_nil)) (fun _ _ _ _ => (pg_name (i := 0) (show List.Nodup (α := Str) ["_law_sign", "_law_purse_here", "_law_rows", "_law_signs", "_law_row", "_law_few"] from by decide +kernel) rfl (by first | exact Or.inl rfl | exact Or.inr rfl))) (fun _ _ _ _ => pts_nil) (fun _ _ _ _ => (pe_call G_l_entry (hr.mono (by decide)) rfl T.g_l_entry T.f_l_entry.kp T.b_l_entry .nil pass0 (pa_cons (qv 1) (pa_cons (qv 2) (pa_cons (qv 3) (pa_cons (qv 4) (pa_cons (qv 5) pa_nil))))))))))))))), ?_⟩
      walk_at "w"
      refine ⟨by decide, _, _, _, e0, ⟨by omega, by omega⟩, fun d1 n1 m1 d10 d11 u10 u11 => ?_⟩
      have P1 := P0.draw n1 m1
      have Q1 := P3.of_draw n1 m1 e0
      generalize hg1 : upd _ pp _ = H1 at P1 Q1 ⊢
      have e1 : H1 pp = some (.lst [.int n1, .int c, .int m1]) := by rw [← hg1]; exact upd_same
      clear hg1
      walk_at "w"
      refine ⟨by decide, _, _, _, e1, ⟨by omega, by omega⟩, fun d2 n2 m2 d20 d21 u20 u21 => ?_⟩
      have P2 := P1.draw n2 m2
      have Q2 := P3.of_draw n2 m2 e1
      generalize hg2 : upd _ pp _ = H2 at P2 Q2 ⊢
      have e2 : H2 pp = some (.lst [.int n2, .int c, .int m2]) := by rw [← hg2]; exact upd_same
      clear hg2
      walk_at "w"
      refine ⟨by show 4 ≤ sizeLine; decide, ?_⟩
      intro p4 n4
      generalize hU4 : upd _ p4 _ = H4
      obtain ⟨S4, e4⟩ := upd_sub n4 hU4
      clear hU4
      have P4 := P2.sub S4
      have L4 : H4 p4 = some (.lst (([4, 9, 20, 60] : List Int).map V.int)) := e4
      have e4 := S4 _ _ e2
      have np4 : p4 ≠ pp := by rintro rfl; rw [e2] at n4; cases n4
      walk_at "w"
      refine ⟨by decide, _, _, _, e4, ⟨by omega, by omega⟩, fun d5 n5 m5 d50 d51 u50 u51 => ?_⟩
      have P5 := P4.draw n5 m5
      have Q5 := P3.of_draw n5 m5 e4
      generalize hg5 : upd _ pp _ = H5 at P5 Q5 ⊢
      have e5 : H5 pp = some (.lst [.int n5, .int c, .int m5]) := by rw [← hg5]; exact upd_same
      clear hg5
      walk_at "w"
      obtain ⟨few, hfew, f0, f1⟩ : ∃ y : Int, atI (([4, 9, 20, 60] : List Int).map V.int) d5 = some (.int y) ∧ 1 ≤ y ∧ y ≤ 60 := by
        have : d5 = 0 ∨ d5 = 1 ∨ d5 = 2 ∨ d5 = 3 := by omega
        rcases this with rfl | rfl | rfl | rfl
        · exact ⟨4, rfl, by decide, by decide⟩
        · exact ⟨9, rfl, by decide, by decide⟩
        · exact ⟨20, rfl, by decide, by decide⟩
        · exact ⟨60, rfl, by decide, by decide⟩
      refine ⟨_, _, SqL.of (Q5.keep _ _ np4 L4), hfew, ?_⟩
      walk_at "w"
      refine ⟨⟨by omega, by omega⟩, ?_⟩
      intro pt npt
      have nt : H pt = none := P5.free npt
      refine comp_range (lo := 0) (n := (1 + d1).toNat) (fun i σ H6 => ∃ (v : Option V) (rs : List Addr) (mm : Ma) (n6 m6 : Int), σ = [v, some (.int (2 + d2)), some (.ref pp), some (.int (1 + d1)), some (.int few)] ∧ P3 pp c H H6 ∧ H6 pp = some (.lst [.int n6, .int c, .int m6]) ∧ m0 ≤ m6 ∧ m6 ≤ m0 + 10 + 60 * i ∧ MaR H6 pt rs mm ∧ mm.length = i ∧ ∀ r ∈ mm, (r.length : Int) = 2 + d2 ∧ ∀ e ∈ r, entryOk (1 + d1) (2 + d2) e = true) ?_ ?_ ?_
      · exact ⟨none, [], [], n5, m5, rfl, P5.set nt, by rw [upd_ne (by rintro rfl; rw [e5] at npt; cases npt)]; exact e5, by omega, by omega, ⟨upd_same, by simp, .nil⟩, rfl, by simp⟩
      · rintro i σ H6 hi ⟨v, rs, mm, n6, m6, rfl, P6, e6, b0, b1, hm6, l6, ok6⟩
        walk_at "w"
        refine ⟨⟨by omega, by omega⟩, ?_⟩
        intro pr npr
        have nr : H pr = none := P6.free npr
        have nrs := hm6.out npr
        have nrp := hm6.outp npr
        refine comp_range (lo := 0) (n := (2 + d2).toNat) (fun j σ H7 => ∃ (v : Option V) (as : List Addr) (es : List En) (n7 m7 : Int), σ = [v, some (.ref pp), some (.int (1 + d1)), some (.int (2 + d2)), some (.int (0 + i)), some (.int few)] ∧ P3 pp c H H7 ∧ H7 pp = some (.lst [.int n7, .int c, .int m7]) ∧ m0 ≤ m7 ∧ m7 ≤ m0 + 10 + 60 * i + 10 * j ∧ MaR H7 pt rs mm ∧ RowA H7 pr as es ∧ es.length = j ∧ ∀ e ∈ es, entryOk (1 + d1) (2 + d2) e = true) ?_ ?_ ?_
        · exact ⟨none, [], [], n6, m6, rfl, P6.set nr, by rw [upd_ne (by rintro rfl; rw [e6] at npr; cases npr)]; exact e6, by omega, by omega, hm6.stay (.sub (Sub.new npr)), ⟨upd_same, .nil⟩, rfl, by simp⟩
        · rintro j σ H7 hj ⟨v, as, es, n7, m7, rfl, P7, e7, c0, c1, hm7, hr7, l7, ok7⟩
          walk_at "w"
          refine ⟨n7, c, m7, e7, ⟨by omega, by omega⟩, ⟨by omega, by omega⟩, ⟨by omega, by omega⟩, ⟨by omega, by omega⟩, ⟨f0, f1⟩, fun b e H8 n8 m8 P8 e8 u0 u1 hb hbok => ?_⟩
          have hm8 := hm7.stay P8.stay
          have hr8 := hr7.stay P8.stay
          walk_at "w"
          refine ⟨_, hr8.1, ?_, _, as ++ [b], es ++ [e], n8, m8, rfl, (P7.trans P8).set nr, by rw [upd_ne (by rintro rfl; rw [hp] at nr; cases nr)]; exact e8, by omega, by omega, hm8.other hr8.1 nrp nrs, hr8.app' hb, by simp [l7], ?_⟩
          · rw [List.length_map, hr8.2.1, l7]; exact Nat.lt_trans hj (Nat.lt_of_le_of_lt (show (2 + d2).toNat ≤ 4 by omega) (by decide))
          · intro y hy
            rcases List.mem_append.1 hy with hy | hy
            · exact ok7 y hy
            · simp at hy; subst hy; exact hbok
        rintro σ H7 ⟨v, as, es, n7, m7, rfl, P7, e7, c0, c1, hm7, hr7, l7, ok7⟩
        walk_at "w"
        refine ⟨_, hm7.1, ?_, _, rs ++ [pr], mm ++ [es], n7, m7, rfl, P7.set nt, by rw [upd_ne (by rintro rfl; rw [hp] at nt; cases nt)]; exact e7, by omega, by omega, hm7.app' ⟨as, hr7⟩ nrs nrp, by simp [l6], ?_⟩
        · rw [List.length_map, hm7.2.2.1, l6]; exact Nat.lt_trans hi (Nat.lt_of_le_of_lt (show (1 + d1).toNat ≤ 4 by omega) (by decide))
        · intro r hr
          rcases List.mem_append.1 hr with hr | hr
          · exact ok6 r hr
          · simp at hr; subst hr; exact ⟨by omega, ok7⟩
      rintro σ H6 ⟨v, rs, mm, n6, m6, rfl, P6, e6, b0, b1, hm6, l6, ok6⟩
      exact h pt mm H6 n6 m6 P6 e6 b0 (by omega) ⟨rs, hm6⟩ (isM_of (rows := 1 + d1) (signs := 2 + d2) (by omega) (by omega) (by omega) (by omega) (by omega) ok6) nt
    · exact h.elim
theorem sc_l_kept : FnScope ["_law_machine_here"] ["_law_machine_here"] (defScope s_l_kept) := ⟨rfl, rfl, rfl, by decide +kernel, rfl, by decide +kernel, by decide +kernel⟩
def sp_kept : Sp := fun vs H Q _ => match vs with
  | [.ref t] => ∃ m : Ma, Mach H t m ∧ m.length ≤ 4 ∧ ∀ (q : Addr) (H' : Hp), Sub H H' → Mach H' q m → Q (.ref q) H'
  | _ => False
theorem ok_l_kept (T : Tx K mg a) : FnOk P w K mg base CX0 1 a.l_kept a.l_kept_d ["_law_machine_here"] (sp_kept) := by
  refine T.f_l_kept.ok sc_l_kept (fun vs H Q E h => ?_) (fun cdv A outer s H vs Q E hr h => ?_)
  · unfold sp_kept at h
    split at h
    · rfl
    · exact h.elim
  · unfold sp_kept at h
    split at h
    · have nd := sc_l_kept.nd
      have hu := hu_of hr
      rename_i t
      obtain ⟨m, ⟨rs, hm, hnd, hrw⟩, hB, h⟩ := h
      refine ⟨_, (pss_one (ps_ret (pe_lc (own := ["_law_row"]) (fr := []) rfl (by walk_at "comp_ok") (qi_listK (K := K) rfl (qv 0)) (fun _ _ _ _ => (pg_name (i := 0) (show List.Nodup (α := Str) ["_law_row"] from by decide +kernel) rfl (by first | exact Or.inl rfl | exact Or.inr rfl))) (fun _ _ _ _ => pts_nil) (fun _ _ _ _ => (pe_callTy (q_listOfK (K := K) rfl) rfl T.z_list bt_list (pa_cons (qv 0) pa_nil)))))), ?_⟩
      walk_at "w"
      refine ⟨⟨_, SqL.of hm⟩, ?_⟩
      intro pt npt
      refine comp_list (K := K) (a := t) (xs := rs.map V.ref) (fun i σ H1 => ∃ (v : Option V) (qs : List Addr), σ = [v] ∧ Sub H H1 ∧ MaR H1 pt qs (m.take i)) ?_ ?_ ?_ ?_
      · exact ⟨none, [], rfl, Sub.new npt, upd_same, by simp, .nil⟩
      · rintro i σ H1 _ ⟨v, qs, rfl, S1, _⟩
        exact SqL.of (S1 _ _ hm)
      · rintro i x σ H1 hi ⟨v, qs, rfl, S1, M1⟩
        rw [List.getElem?_map] at hi
        obtain ⟨r, hr, rfl⟩ := Option.map_eq_some_iff.1 hi
        obtain ⟨es, hes, as, hra, haa⟩ := hrw.at hr
        have hil : i < m.length := (List.getElem?_eq_some_iff.1 hes).1
        walk_at "w"
        refine ⟨_, .inl (SqL.of (S1 _ _ hra)), ?_⟩
        intro p2 n2
        generalize hU2 : upd _ p2 _ = H2
        obtain ⟨S2, e2⟩ := upd_sub n2 hU2
        clear hU2
        have M2 := M1.stay (.sub S2)
        refine ⟨_, M2.1, ?_, _, qs ++ [p2], rfl, (S1.trans S2).upd npt, ?_⟩
        · rw [List.length_map, M2.2.2.1, List.length_take]; exact Nat.lt_of_le_of_lt (Nat.min_le_left _ _) (Nat.lt_of_le_of_lt (show i ≤ 4 by omega) (by decide))
        · rw [List.take_add_one, hes]
          exact M2.app' ⟨as, e2, haa.mono fun _ _ _ z => S2 _ _ (S1 _ _ z)⟩ (M1.out n2) (M1.outp n2)
      rintro σ H1 ⟨v, qs, rfl, S1, M1⟩
      rw [List.length_map, hrw.1, List.take_length] at M1
      exact h pt H1 S1 ⟨qs, M1⟩
    · exact h.elim
theorem sc_l_taken : FnScope ["_law_runs_here", "_law_sign", "_law_many"] ["_law_runs_here"] (defScope s_l_taken) := ⟨rfl, rfl, rfl, by decide +kernel, rfl, by decide +kernel, by decide +kernel⟩
def sp_taken : Sp := fun vs H Q _ => match vs with
  | [.ref r] => ∃ rs : Mk2, Strip H r rs ∧ rs.length ≤ 1000 ∧ ∀ (q p : Addr) (H' : Hp), Sub H H' → H' q = some (.tup [.int (taken rs).1, .ref p]) → Strip H' p (taken rs).2 → Q (.ref q) H'
  | _ => False
theorem ok_l_taken (T : Tx K mg a) : FnOk P w K mg base CX0 1 a.l_taken a.l_taken_d ["_law_runs_here"] (sp_taken) := by
  refine T.f_l_taken.ok sc_l_taken (fun vs H Q E h => ?_) (fun cdv A outer s H vs Q E hr h => ?_)
  · unfold sp_taken at h
    split at h
    · rfl
    · exact h.elim
  · unfold sp_taken at h
    split at h
    · have nd := sc_l_taken.nd
      have hu := hu_of hr
      rename_i r
      obtain ⟨rs, ⟨as, hr1, hA⟩, hlen, h⟩ := h
      have al : as.length = rs.length := by rw [hA.1, List.length_map]
      refine ⟨_, (pss_cons (ps_c (pt_c (op_eqD hr) (qv 0) (pe_lst pa_nil)) (pss_one (ps_ret (pe_tup (pa_cons pe_int (pa_cons (pe_lst pa_nil) pa_nil))))) pss_nil)
    (pss_cons (ps_asg (pe_ix (q_ixLK (K := K) rfl) (qv 0) pe_int (fun _ _ => rfl)) (qg_tupK (K := K) (n := 2) rfl rfl (qgs_cons (pg_name (i := 1) nd rfl (by first | exact Or.inl rfl | exact Or.inr rfl)) (qgs_cons (pg_name (i := 2) nd rfl (by first | exact Or.inl rfl | exact Or.inr rfl)) qgs_nil))))
    (pss_cons (ps_c (pt_c q_eq (qv 2) pe_int) (pss_one (ps_ret (pe_tup (pa_cons (qv 1) (pa_cons (pe_slice (q_slLK (K := K) rfl) (qv 0) (qo_some pe_int) po_none) pa_nil))))) pss_nil)
    (pss_one (ps_ret (pe_tup (pa_cons (qv 1) (pa_cons (pe_op q_cat (pe_lst (pa_cons (pe_tup (pa_cons (qv 1) (pa_cons (pe_op q_sub (qv 2) pe_int) pa_nil))) pa_nil)) (pe_slice (q_slLK (K := K) rfl) (qv 0) (qo_some pe_int) po_none)) pa_nil)))))))), ?_⟩
      walk_at "w"
      refine ⟨Nat.zero_le _, ?_⟩
      intro p1 n1
      generalize hU1 : upd _ p1 _ = H1
      obtain ⟨S1, e1⟩ := upd_sub n1 hU1
      clear hU1
      have T1 := S1
      walk_at "w"
      refine ⟨_, _, Strip.den (Strip.sub S1 ⟨as, hr1, hA⟩), den_nil e1, dep_dLs _, ?_⟩
      rw [eqD_nil]
      cases rs with
      | nil =>
        walk_at "w"
        refine ifB.yes rfl ?_
        walk_at "w"
        refine ⟨Nat.zero_le _, ?_⟩
        intro p2 n2
        generalize hU2 : upd _ p2 _ = H2
        obtain ⟨S2, e2⟩ := upd_sub n2 hU2
        clear hU2
        have T2 := T1.trans S2
        walk_at "w"
        refine ⟨by show 2 ≤ sizeLine; decide, ?_⟩
        intro p3 n3
        generalize hU3 : upd _ p3 _ = H3
        obtain ⟨S3, e3⟩ := upd_sub n3 hU3
        clear hU3
        have T3 := T2.trans S3
        exact h p3 p2 H3 T3 e3 ⟨[], S3 _ _ e2, .nil⟩
      | cons q rs =>
        cases as with
        | nil => cases al
        | cons a0 as =>
        obtain ⟨h0, hA'⟩ := All2.tail hA
        walk_at "w"
        refine ifB.no rfl ?_
        walk_at "w"
        refine ⟨_, _, SqL.of (T1 _ _ hr1), atI_nat (j := 0) rfl, ?_⟩
        walk_at "w"
        refine ⟨_, SqT.of (T1 _ _ h0), rfl, ?_⟩
        walk_at "w"
        refine ifB.mk (fun y => ?_) (fun y => ?_)
        · have y : q.2 = 1 := of_decide_eq_true y
          have et : (taken (q :: rs)).2 = rs := by show (if q.2 = 1 then rs else _) = _; rw [if_pos y]
          rw [et] at h
          walk_at "w"
          refine ⟨_, SqL.of (T1 _ _ hr1), ?_⟩
          intro p2 n2
          generalize hU2 : upd _ p2 _ = H2
          obtain ⟨S2, e2⟩ := upd_sub n2 hU2
          clear hU2
          have T2 := T1.trans S2
          rw [cut_tail (by simp)] at e2
          walk_at "w"
          refine ⟨by show 2 ≤ sizeLine; decide, ?_⟩
          intro p3 n3
          generalize hU3 : upd _ p3 _ = H3
          obtain ⟨S3, e3⟩ := upd_sub n3 hU3
          clear hU3
          have T3 := T2.trans S3
          exact h p3 p2 H3 T3 e3 ⟨as, S3 _ _ e2, hA'.mono fun _ _ _ z => T3 _ _ z⟩
        · have y : ¬ q.2 = 1 := of_decide_eq_false y
          have et : (taken (q :: rs)).2 = (q.1, q.2 - 1) :: rs := by show (if q.2 = 1 then rs else _) = _; rw [if_neg y]
          rw [et] at h
          walk_at "w"
          refine ⟨by show 2 ≤ sizeLine; decide, ?_⟩
          intro p2 n2
          generalize hU2 : upd _ p2 _ = H2
          obtain ⟨S2, e2⟩ := upd_sub n2 hU2
          clear hU2
          have T2 := T1.trans S2
          walk_at "w"
          refine ⟨by show 1 ≤ sizeLine; decide, ?_⟩
          intro p3 n3
          generalize hU3 : upd _ p3 _ = H3
          obtain ⟨S3, e3⟩ := upd_sub n3 hU3
          clear hU3
          have T3 := T2.trans S3
          walk_at "w"
          refine ⟨_, SqL.of (T3 _ _ hr1), ?_⟩
          intro p4 n4
          generalize hU4 : upd _ p4 _ = H4
          obtain ⟨S4, e4⟩ := upd_sub n4 hU4
          clear hU4
          have T4 := T3.trans S4
          rw [cut_tail (by simp)] at e4
          walk_at "w"
          refine ⟨_, _, S4 _ _ e3, e4, ?_, ?_⟩
          · show 1 + (as.map V.ref).length ≤ sizeLine
            rw [List.length_map]
            simp only [List.length_cons] at al hlen
            exact Nat.le_trans (show 1 + as.length ≤ 1001 by omega) (by decide)
          intro p5 n5
          generalize hU5 : upd _ p5 _ = H5
          obtain ⟨S5, e5⟩ := upd_sub n5 hU5
          clear hU5
          have T5 := T4.trans S5
          walk_at "w"
          refine ⟨by show 2 ≤ sizeLine; decide, ?_⟩
          intro p6 n6
          generalize hU6 : upd _ p6 _ = H6
          obtain ⟨S6, e6⟩ := upd_sub n6 hU6
          clear hU6
          have T6 := T5.trans S6
          exact h p6 p5 H6 T6 e6 (Strip.sub S6 (Strip.ahead (as := as) (q := (q.1, q.2 - 1)) e5 (S5 _ _ (S4 _ _ (S3 _ _ e2))) (hA'.mono fun _ _ _ z => T5 _ _ z)))
    · exact h.elim
theorem sc_l_side : FnScope ["_law_purse_here", "_law_signs", "_law_near_first", "_law_found", "_law_last", "_law_k", "_law_sign", "_law_many"] ["_law_purse_here", "_law_signs", "_law_near_first"] (defScope s_l_side) := ⟨rfl, rfl, rfl, by decide +kernel, rfl, by decide +kernel, by decide +kernel⟩
def sp_side : Sp := fun vs H Q _ => match vs with
  | [.ref pp, .int signs, .bl nf] => ∃ n c m : Int, H pp = some (.lst [.int n, .int c, .int m]) ∧ (0 ≤ m ∧ m ≤ 900000) ∧ (2 ≤ signs ∧ signs ≤ 4) ∧
      ∀ (l : Addr) (R : Mk2) (H' : Hp) (n' m' : Int), P3 pp c H H' → H' pp = some (.lst [.int n', .int c, .int m']) → m ≤ m' → m' ≤ m + 200 → Strip H' l (if nf = true then R else R.reverse) → wfR R → sgR signs R → R.length ≤ 8 → Q (.ref l) H'
  | _ => False
def lastOf (R : Mk2) : Int := match R with | [] => 0 | q :: _ => q.1
theorem wf_cons {R : Mk2} {s m : Int} (h : wfR R) (hm : 1 ≤ m) (hs : s ≠ lastOf R) : wfR ((s, m) :: R) := by
  cases R with
  | nil => exact ⟨hm, hs⟩
  | cons q r => exact ⟨hm, hs, h⟩
theorem mod_ne {a d g : Int} (g2 : 2 ≤ g) (g4 : g ≤ 4) (a0 : 0 ≤ a) (a1 : a < g) (d0 : 0 ≤ d) (d1 : d < g - 1) : (a + 1 + d) % g ≠ a := by
  have : g = 2 ∨ g = 3 ∨ g = 4 := by omega
  rcases this with rfl | rfl | rfl <;> omega
theorem lg2 {j : Int} (h0 : 0 < j) (h1 : j ≤ 100000000000000) : 0 < j ∧ j.natAbs.log2 < 9000 := by
  refine ⟨h0, ?_⟩
  have : j.natAbs.log2 < 50 := (Nat.log2_lt (by omega)).2 (by show _ < 1125899906842624; omega)
  omega
theorem ok_l_side (T : Tx K mg a) : FnOk P w K mg base CX0 3 a.l_side a.l_side_d ["_law_purse_here", "_law_signs", "_law_near_first"] (sp_side) := by
  have G_l_draw := ok_l_draw (P := P) (w := w) (base := base) T
  refine T.f_l_side.ok sc_l_side (fun vs H Q E h => ?_) (fun cdv A outer s H vs Q E hr h => ?_)
  · unfold sp_side at h
    split at h
    · rfl
    · exact h.elim
  · unfold sp_side at h
    split at h
    · have nd := sc_l_side.nd
      have hu := hu_of hr
      rename_i pp signs nf
      obtain ⟨n0, c, m0, hp, ⟨hm0, hm1⟩, ⟨g2, g4⟩, h⟩ := h
      have P0 : P3 pp c H H := P3.refl ⟨n0, m0, hp⟩
      have e0 := hp
      refine ⟨_, (pss_cons (ps_set (i := 3) nd rfl (by first | exact Or.inl rfl | exact Or.inr rfl) (pe_lst pa_nil))
    (pss_cons (ps_set (i := 4) nd rfl (by first | exact Or.inl rfl | exact Or.inr rfl) pe_int)
    (pss_cons (ps_for PassesOwn.never rfl (qi_range1 rfl T.z_range (pa_cons (pe_call G_l_draw (hr.mono (by decide)) rfl T.g_l_draw T.f_l_draw.kp T.b_l_draw .nil pass0 (pa_cons (qv 0) (pa_cons (pe_ix (q_ixLK (K := K) rfl) (pe_lst (pa_cons pe_int (pa_cons pe_int (pa_cons pe_int pa_nil)))) (pe_call G_l_draw (hr.mono (by decide)) rfl T.g_l_draw T.f_l_draw.kp T.b_l_draw .nil pass0 (pa_cons (qv 0) (pa_cons pe_int pa_nil))) (fun _ _ => rfl)) pa_nil))) pa_nil)) (pg_name (i := 5) nd rfl (by first | exact Or.inl rfl | exact Or.inr rfl)) (pss_cons (ps_set (i := 6) nd rfl (by first | exact Or.inl rfl | exact Or.inr rfl) (pe_op q_mod (pe_op q_add (pe_op q_add (qv 4) pe_int) (pe_call G_l_draw (hr.mono (by decide)) rfl T.g_l_draw T.f_l_draw.kp T.b_l_draw .nil pass0 (pa_cons (qv 0) (pa_cons (pe_op q_sub (qv 1) pe_int) pa_nil)))) (qv 1)))
        (pss_cons (ps_set (i := 7) nd rfl (by first | exact Or.inl rfl | exact Or.inr rfl) (pe_op q_add pe_int (pe_call G_l_draw (hr.mono (by decide)) rfl T.g_l_draw T.f_l_draw.kp T.b_l_draw .nil pass0 (pa_cons (qv 0) (pa_cons (pe_ix (q_ixLK (K := K) rfl) (pe_lst (pa_cons pe_int (pa_cons pe_int (pa_cons pe_int (pa_cons (pe_op q_pow pe_int pe_int) pa_nil))))) (pe_call G_l_draw (hr.mono (by decide)) rfl T.g_l_draw T.f_l_draw.kp T.b_l_draw .nil pass0 (pa_cons (qv 0) (pa_cons pe_int pa_nil))) (fun _ _ => rfl)) pa_nil)))))
        (pss_cons (ps_c (pt_c q_gt (qv 7) pe_int) (pss_one (ps_set (i := 7) nd rfl (by first | exact Or.inl rfl | exact Or.inr rfl) (pe_op q_sub (pe_op q_mul (qv 7) (pe_op q_pow pe_int pe_int)) (pe_call G_l_draw (hr.mono (by decide)) rfl T.g_l_draw T.f_l_draw.kp T.b_l_draw .nil pass0 (pa_cons (qv 0) (pa_cons (pe_op q_pow pe_int pe_int) pa_nil)))))) pss_nil)
        (pss_cons (ps_expr (pe_bm PySem.F.plainAttrs_list PySem.F.slot_list_append PySem.F.type_list_append q_app (qv 3) (pa_cons (pe_tup (pa_cons (qv 6) (pa_cons (qv 7) pa_nil))) pa_nil)))
        (pss_one (ps_set (i := 4) nd rfl (by first | exact Or.inl rfl | exact Or.inr rfl) (qv 6))))))))
    (pss_cons (ps_c (pt_e (qv 2)) (pss_one (ps_ret (pe_revLK (K := K) rfl (qv 3) (qo_some (pe_un q_neg pe_int))))) pss_nil)
    (pss_one (ps_ret (qv 3))))))), ?_⟩
      walk_at "w"
      refine ⟨Nat.zero_le _, ?_⟩
      intro p1 n1
      generalize hU1 : upd _ p1 _ = H1
      obtain ⟨S1, e1⟩ := upd_sub n1 hU1
      clear hU1
      have nl : H p1 = none := n1
      have npl : p1 ≠ pp := by rintro rfl; rw [hp] at n1; cases n1
      have P1 := P0.sub S1
      have F1 := e1
      have e1 := S1 _ _ e0
      walk_at "w"
      refine ⟨by show 3 ≤ sizeLine; decide, ?_⟩
      intro p2 n2
      generalize hU2 : upd _ p2 _ = H2
      obtain ⟨S2, e2⟩ := upd_sub n2 hU2
      clear hU2
      have P2 := P1.sub S2
      have L2' : H2 p2 = some (.lst (([1, 3, 8] : List Int).map V.int)) := e2
      have e2 := S2 _ _ e1
      have np2 : p2 ≠ pp := by rintro rfl; rw [e1] at n2; cases n2
      have u10 : m0 ≤ m0 := Int.le_refl _
      walk_at "w"
      refine ⟨by decide, _, _, _, e2, ⟨by omega, by omega⟩, fun d4 n4 m4 d40 d41 u40 u41 => ?_⟩
      have P4 := P2.draw n4 m4
      have Q4 := P3.of_draw n4 m4 e2
      generalize hg4 : upd _ pp _ = H4 at P4 Q4 ⊢
      have e4 : H4 pp = some (.lst [.int n4, .int c, .int m4]) := by rw [← hg4]; exact upd_same
      clear hg4
      walk_at "w"
      obtain ⟨y, hy, y0, y1⟩ : ∃ y : Int, atI (([1, 3, 8] : List Int).map V.int) d4 = some (.int y) ∧ 0 < y ∧ y ≤ 8 := by
        have : d4 = 0 ∨ d4 = 1 ∨ d4 = 2 := by omega
        rcases this with rfl | rfl | rfl
        · exact ⟨1, rfl, by decide, by decide⟩
        · exact ⟨3, rfl, by decide, by decide⟩
        · exact ⟨8, rfl, by decide, by decide⟩
      refine ⟨_, _, SqL.of (Q4.keep _ _ np2 L2'), hy, ?_⟩
      walk_at "w"
      refine ⟨lg (by omega) (by omega), _, _, _, e4, ⟨by omega, by omega⟩, fun d5 n5 m5 d50 d51 u50 u51 => ?_⟩
      have P5 := P4.draw n5 m5
      have Q5 := P3.of_draw n5 m5 e4
      generalize hg5 : upd _ pp _ = H5 at P5 Q5 ⊢
      have e5 : H5 pp = some (.lst [.int n5, .int c, .int m5]) := by rw [← hg5]; exact upd_same
      clear hg5
      walk_at "w"
      have F5 : H5 p1 = some (.lst []) := Q5.keep _ _ npl (Q4.keep _ _ npl (S2 _ _ F1))
      refine ⟨⟨by omega, by omega⟩, ?_⟩
      refine for_range (lo := 0) (n := d5.toNat) (fun i σ H6 => ∃ (v5 v6 v7 : Option V) (n6 m6 : Int) (as : List Addr) (R : Mk2), σ = [some (.ref pp), some (.int signs), some (.bl nf), some (.ref p1), some (.int (lastOf R)), v5, v6, v7] ∧ P3 pp c H H6 ∧ H6 pp = some (.lst [.int n6, .int c, .int m6]) ∧ m0 ≤ m6 ∧ m6 ≤ m0 + 8 + 10 * i ∧ H6 p1 = some (.lst (as.map V.ref)) ∧ All2 (fun b q => H6 b = some (tI q)) as (iv R.reverse) ∧ wfR R ∧ sgR signs R ∧ R.length = i) ?_ ?_ ?_
      · exact ⟨none, none, none, n5, m5, [], [], rfl, P5, e5, by omega, by omega, F5, .nil, trivial, (fun q hq => by cases hq), rfl⟩
      · rintro i σ H6 hi ⟨v5, v6, v7, n6, m6, as, R, rfl, P6, e6, b0, b1, F6, A6, w6, g6, l6⟩
        have R6 : P3 pp c H6 H6 := P3.refl ⟨_, _, e6⟩
        have la : 0 ≤ lastOf R ∧ lastOf R < signs := by
          cases R with
          | nil => exact ⟨Int.le_refl _, by show (0 : Int) < signs; omega⟩
          | cons q r => exact g6 q (by simp)
        walk_at "w"
        refine ⟨lg (by omega) (by omega), _, _, _, e6, ⟨by omega, by omega⟩, fun d7 n7 m7 d70 d71 u70 u71 => ?_⟩
        have P7 := P6.draw n7 m7
        have Q7 := P3.of_draw n7 m7 e6
        generalize hg7 : upd _ pp _ = H7 at P7 Q7 ⊢
        have e7 : H7 pp = some (.lst [.int n7, .int c, .int m7]) := by rw [← hg7]; exact upd_same
        clear hg7
        walk_at "w"
        refine ⟨by show (0 : Int) < signs; omega, fun s' hs' ⟨s0, s1⟩ => ?_⟩
        have hsne : s' ≠ lastOf R := by rw [hs']; exact mod_ne g2 g4 la.1 la.2 d70 d71
        walk_at "w"
        refine ⟨cpow (by decide), fun p hp' _ => ?_⟩
        have hp' : p = 100000000000000 := by rw [hp']; decide
        walk_at "w"
        refine ⟨by show 4 ≤ sizeLine; decide, ?_⟩
        intro p8 n8
        generalize hU8 : upd _ p8 _ = H8
        obtain ⟨S8, e8⟩ := upd_sub n8 hU8
        clear hU8
        have P8 := P7.sub S8
        have L8 : H8 p8 = some (.lst (([1, 3, 9, p] : List Int).map V.int)) := e8
        have e8 := S8 _ _ e7
        have np8 : p8 ≠ pp := by rintro rfl; rw [e7] at n8; cases n8
        walk_at "w"
        refine ⟨by decide, _, _, _, e8, ⟨by omega, by omega⟩, fun d9 n9 m9 d90 d91 u90 u91 => ?_⟩
        have P9 := P8.draw n9 m9
        have Q9 := P3.of_draw n9 m9 e8
        generalize hg9 : upd _ pp _ = H9 at P9 Q9 ⊢
        have e9 : H9 pp = some (.lst [.int n9, .int c, .int m9]) := by rw [← hg9]; exact upd_same
        clear hg9
        walk_at "w"
        obtain ⟨y2, hy2, y20, y21⟩ : ∃ y : Int, atI (([1, 3, 9, p] : List Int).map V.int) d9 = some (.int y) ∧ 0 < y ∧ y ≤ 100000000000000 := by
          have : d9 = 0 ∨ d9 = 1 ∨ d9 = 2 ∨ d9 = 3 := by omega
          rcases this with rfl | rfl | rfl | rfl
          · exact ⟨1, rfl, by decide, by decide⟩
          · exact ⟨3, rfl, by decide, by decide⟩
          · exact ⟨9, rfl, by decide, by decide⟩
          · exact ⟨p, rfl, by omega, by omega⟩
        refine ⟨_, _, SqL.of (Q9.keep _ _ np8 L8), hy2, ?_⟩
        walk_at "w"
        refine ⟨lg2 (by omega) (by omega), _, _, _, e9, ⟨by omega, by omega⟩, fun d20 n20 m20 d200 d201 u200 u201 => ?_⟩
        have P20 := P9.draw n20 m20
        have Q20 := P3.of_draw n20 m20 e9
        generalize hg20 : upd _ pp _ = H20 at P20 Q20 ⊢
        have e20 : H20 pp = some (.lst [.int n20, .int c, .int m20]) := by rw [← hg20]; exact upd_same
        clear hg20
        walk_at "w"
        have R20 := ((R6.trans Q7).sub S8).trans (Q9.trans Q20)
        refine ifB.dec (fun z => ?ra) (fun z => ?rb)
        case' ra =>
          have z : 9 < 1 + d20 := z
          walk_at "w"
          refine ⟨cpow (by decide), fun pq hpq _ => ?_⟩
          have hpq : pq = 100000000000000 := by rw [hpq]; decide
          walk_at "w"
          refine ⟨.inr ⟨by omega, by omega⟩, fun mm hmm _ => ?_⟩
          have hmm : mm = (1 + d20) * 100000000000000 := by rw [hmm, hpq]
          walk_at "w"
          refine ⟨cpow (by decide), fun pz hpz _ => ?_⟩
          have hpz : pz = 100000000000000 := by rw [hpz]; decide
          walk_at "w"
          refine ⟨lg2 (by omega) (by omega), _, _, _, e20, ⟨by omega, by omega⟩, fun d21 n21 m21 d210 d211 u210 u211 => ?_⟩
          have P21 := P20.draw n21 m21
          have Q21 := P3.of_draw n21 m21 e20
          generalize hg21 : upd _ pp _ = H21 at P21 Q21 ⊢
          have e21 : H21 pp = some (.lst [.int n21, .int c, .int m21]) := by rw [← hg21]; exact upd_same
          clear hg21
          walk_at "w"
          have hmany : 1 ≤ mm - d21 := by omega
          have RX := R20.trans Q21
          have PX := P21
          have eX := e21
          have bX : m21 ≤ m0 + 8 + 10 * i + 10 := by omega
          have bX0 : m0 ≤ m21 := by omega
        case' rb =>
          have hmany : 1 ≤ 1 + d20 := by omega
          have RX := R20
          have PX := P20
          have eX := e20
          have bX : m20 ≤ m0 + 8 + 10 * i + 10 := by omega
          have bX0 : m0 ≤ m20 := by omega
        all_goals
          obtain ⟨FX, AX⟩ := P3.sa RX npl F6 A6
          walk_at "w"
          refine ⟨.inl ⟨rfl, _, SqL.of FX⟩, ?_⟩
          walk_at "w"
          refine ⟨by show 2 ≤ sizeLine; decide, ?_⟩
          intro p30 n30
          generalize hU30 : upd _ p30 _ = H30
          obtain ⟨S30, e30⟩ := upd_sub n30 hU30
          clear hU30
          walk_at "w"
          refine ⟨_, S30 _ _ FX, ?_, ?_⟩
          · rw [List.length_map, AX.1, List.length_map, List.length_reverse, l6]; exact Nat.lt_trans hi (Nat.lt_of_le_of_lt (show d5.toNat ≤ 8 by omega) (by decide))
          obtain ⟨F31, A31⟩ := sa_app (q := (s', _)) (S30 _ _ FX) (AX.mono fun _ _ _ z => S30 _ _ z) e30
          refine ⟨_, _, _, _, _, as ++ [p30], (s', _) :: R, rfl, (PX.sub S30).set nl, by rw [upd_ne (Ne.symm npl)]; exact S30 _ _ eX, bX0, by omega, F31, by rw [List.reverse_cons]; exact A31, wf_cons w6 hmany hsne, ?_, by rw [List.length_cons, l6]⟩
          intro q hq
          rcases List.mem_cons.1 hq with rfl | hq
          · exact ⟨s0, s1⟩
          · exact g6 q hq
      · rintro σ H6 ⟨v5, v6, v7, n6, m6, as, R, rfl, P6, e6, b0, b1, F6, A6, w6, g6, l6⟩
        walk_at "w"
        refine ifB.mk (fun z => ?_) (fun z => ?_)
        · walk_at "w"
          refine ⟨rfl, _, SqL.of F6, ?_⟩
          intro p7 n7
          generalize hU7 : upd _ p7 _ = H7
          obtain ⟨S7, e7⟩ := upd_sub n7 hU7
          clear hU7
          obtain ⟨F7, A7⟩ := sa_rev e7 (A6.mono fun _ _ _ z => S7 _ _ z)
          rw [List.reverse_reverse] at A7
          exact h p7 R H7 n6 m6 (P6.sub S7) (S7 _ _ e6) b0 (by omega) (by rw [if_pos z]; exact ⟨_, F7, A7⟩) w6 g6 (by omega)
        · exact h p1 R H6 n6 m6 P6 e6 b0 (by omega) (by rw [if_neg (by rw [z]; exact Bool.false_ne_true)]; exact ⟨_, F6, A6⟩) w6 g6 (by omega)
    · exact h.elim
theorem sc_l_runs : FnScope ["_law_purse_here", "_law_signs", "_law_left"] ["_law_purse_here", "_law_signs"] (defScope s_l_runs) := ⟨rfl, rfl, rfl, by decide +kernel, rfl, by decide +kernel, by decide +kernel⟩
def sp_runs : Sp := fun vs H Q _ => match vs with
  | [.ref pp, .int signs] => ∃ n c m : Int, H pp = some (.lst [.int n, .int c, .int m]) ∧ (0 ≤ m ∧ m ≤ 800000) ∧ (2 ≤ signs ∧ signs ≤ 4) ∧
      ∀ (q la lb : Addr) (s : Int) (L R : Mk2) (H' : Hp) (n' m' : Int), P3 pp c H H' → H' pp = some (.lst [.int n', .int c, .int m']) → m ≤ m' → m' ≤ m + 500 → H' q = some (.tup [.ref la, .int s, .ref lb]) → Strip H' la L.reverse → Strip H' lb R → wfR L → wfR R → sgR signs L → sgR signs R → (0 ≤ s ∧ s < signs) → (L.length ≤ 8 ∧ R.length ≤ 8) → Q (.ref q) H'
  | _ => False
theorem ok_l_runs (T : Tx K mg a) : FnOk P w K mg base CX0 4 a.l_runs a.l_runs_d ["_law_purse_here", "_law_signs"] (sp_runs) := by
  have G_l_draw := ok_l_draw (P := P) (w := w) (base := base) T
  have G_l_side := ok_l_side (P := P) (w := w) (base := base) T
  refine T.f_l_runs.ok sc_l_runs (fun vs H Q E h => ?_) (fun cdv A outer s H vs Q E hr h => ?_)
  · unfold sp_runs at h
    split at h
    · rfl
    · exact h.elim
  · unfold sp_runs at h
    split at h
    · have nd := sc_l_runs.nd
      have hu := hu_of hr
      rename_i pp signs
      obtain ⟨n0, c, m0, hp, ⟨hm0, hm1⟩, ⟨g2, g4⟩, h⟩ := h
      refine ⟨_, (pss_cons (ps_set (i := 2) nd rfl (by first | exact Or.inl rfl | exact Or.inr rfl) (pe_call G_l_side (hr.mono (by decide)) rfl T.g_l_side T.f_l_side.kp T.b_l_side .nil pass0 (pa_cons (qv 0) (pa_cons (qv 1) (pa_cons pe_bl pa_nil)))))
    (pss_one (ps_ret (pe_tup (pa_cons (qv 2) (pa_cons (pe_call G_l_draw (hr.mono (by decide)) rfl T.g_l_draw T.f_l_draw.kp T.b_l_draw .nil pass0 (pa_cons (qv 0) (pa_cons (qv 1) pa_nil))) (pa_cons (pe_call G_l_side (hr.mono (by decide)) rfl T.g_l_side T.f_l_side.kp T.b_l_side .nil pass0 (pa_cons (qv 0) (pa_cons (qv 1) (pa_cons pe_bl pa_nil)))) pa_nil))))))), ?_⟩
      walk_at "w"
      refine ⟨n0, c, m0, hp, ⟨by omega, by omega⟩, ⟨g2, g4⟩, fun la L H1 n1 m1 P1 e1 u10 u11 hL wL gL bL => ?_⟩
      have hL : Strip H1 la L.reverse := hL
      walk_at "w"
      refine ⟨lg (by omega) (by omega), _, _, _, e1, ⟨by omega, by omega⟩, fun d2 n2 m2 d20 d21 u20 u21 => ?_⟩
      have P2 := P1.draw n2 m2
      have Q2 := P3.of_draw n2 m2 e1
      generalize hg2 : upd _ pp _ = H2 at P2 Q2 ⊢
      have e2 : H2 pp = some (.lst [.int n2, .int c, .int m2]) := by rw [← hg2]; exact upd_same
      clear hg2
      walk_at "w"
      have hL2 := hL.stay Q2.stay
      refine ⟨n2, c, m2, e2, ⟨by omega, by omega⟩, ⟨g2, g4⟩, fun lb R H3 n3 m3 P3' e3 u30 u31 hR wR gR bR => ?_⟩
      have hR : Strip H3 lb R := hR
      walk_at "w"
      refine ⟨by show 3 ≤ sizeLine; decide, ?_⟩
      intro p4 n4
      generalize hU4 : upd _ p4 _ = H4
      obtain ⟨S4, e4⟩ := upd_sub n4 hU4
      clear hU4
      exact h p4 la lb d2 L R H4 n3 m3 ((P2.trans P3').sub S4) (S4 _ _ e3) (by omega) (by omega) e4 ((hL2.stay P3'.stay).sub S4) (hR.sub S4) wL wR gL gR ⟨d20, d21⟩ ⟨bL, bR⟩
    · exact h.elim
theorem sc_l_copied : FnScope ["_law_runs_here"] ["_law_runs_here"] (defScope s_l_copied) := ⟨rfl, rfl, rfl, by decide +kernel, rfl, by decide +kernel, by decide +kernel⟩
def sp_copied : Sp := fun vs H Q _ => match vs with
  | [.ref f] => ∃ (l r : Addr) (v : Int) (A B : Mk2), H f = some (.tup [.ref l, .int v, .ref r]) ∧ Strip H l A ∧ Strip H r B ∧ ∀ (q l' r' : Addr) (H' : Hp), Sub H H' → H' q = some (.tup [.ref l', .int v, .ref r']) → Strip H' l' A → Strip H' r' B → Q (.ref q) H'
  | _ => False
theorem ok_l_copied (T : Tx K mg a) : FnOk P w K mg base CX0 1 a.l_copied a.l_copied_d ["_law_runs_here"] (sp_copied) := by
  refine T.f_l_copied.ok sc_l_copied (fun vs H Q E h => ?_) (fun cdv A outer s H vs Q E hr h => ?_)
  · unfold sp_copied at h
    split at h
    · rfl
    · exact h.elim
  · unfold sp_copied at h
    split at h
    · have nd := sc_l_copied.nd
      have hu := hu_of hr
      rename_i f
      obtain ⟨l, r, v, A', B', hf, ⟨as, hl, hA⟩, ⟨bs, hr', hB⟩, h⟩ := h
      refine ⟨_, (pss_one (ps_ret (pe_tup (pa_cons (pe_callTy (q_listOfK (K := K) rfl) rfl T.z_list bt_list (pa_cons (pe_ix (q_ixTK (K := K) rfl) (qv 0) pe_int (fun _ _ => rfl)) pa_nil)) (pa_cons (pe_ix (q_ixTK (K := K) rfl) (qv 0) pe_int (fun _ _ => rfl)) (pa_cons (pe_callTy (q_listOfK (K := K) rfl) rfl T.z_list bt_list (pa_cons (pe_ix (q_ixTK (K := K) rfl) (qv 0) pe_int (fun _ _ => rfl)) pa_nil)) pa_nil)))))), ?_⟩
      walk_at "w"
      refine ⟨_, _, SqT.of hf, atI_nat (j := 0) rfl, ?_⟩
      walk_at "w"
      refine ⟨_, .inl (SqL.of hl), ?_⟩
      intro p1 n1
      generalize hU1 : upd _ p1 _ = H1
      obtain ⟨S1, e1⟩ := upd_sub n1 hU1
      clear hU1
      have T1 := S1
      walk_at "w"
      refine ⟨_, _, SqT.of (T1 _ _ hf), atI_nat (j := 1) rfl, ?_⟩
      walk_at "w"
      refine ⟨_, _, SqT.of (T1 _ _ hf), atI_nat (j := 2) rfl, ?_⟩
      walk_at "w"
      refine ⟨_, .inl (SqL.of (T1 _ _ hr')), ?_⟩
      intro p2 n2
      generalize hU2 : upd _ p2 _ = H2
      obtain ⟨S2, e2⟩ := upd_sub n2 hU2
      clear hU2
      have T2 := T1.trans S2
      walk_at "w"
      refine ⟨by show 3 ≤ sizeLine; decide, ?_⟩
      intro p3 n3
      generalize hU3 : upd _ p3 _ = H3
      obtain ⟨S3, e3⟩ := upd_sub n3 hU3
      clear hU3
      have T3 := T2.trans S3
      exact h p3 p1 p2 H3 T3 e3 ⟨as, S3 _ _ (S2 _ _ e1), hA.mono fun _ _ _ z => T3 _ _ z⟩ ⟨bs, S3 _ _ e2, hB.mono fun _ _ _ z => T3 _ _ z⟩
    · exact h.elim
theorem sc_l_told : FnScope ["_law_sides", "_law_sign"] ["_law_sides", "_law_sign"] (defScope s_l_told) := ⟨rfl, rfl, rfl, by decide +kernel, rfl, by decide +kernel, by decide +kernel⟩
def sp_told : Sp := fun vs H Q _ => match vs with
  | [.ref f, .int v] => ∃ (l r : Addr) (A B : Mk2), H f = some (.lst [.ref l, .ref r]) ∧ Strip H l A ∧ Strip H r B ∧ ∀ (q l' : Addr) (H' : Hp), Sub H H' → H' q = some (.tup [.ref l', .int v, .ref r]) → Strip H' l' A.reverse → Strip H' r B → Q (.ref q) H'
  | _ => False
theorem ok_l_told (T : Tx K mg a) : FnOk P w K mg base CX0 1 a.l_told a.l_told_d ["_law_sides", "_law_sign"] (sp_told) := by
  refine T.f_l_told.ok sc_l_told (fun vs H Q E h => ?_) (fun cdv A outer s H vs Q E hr h => ?_)
  · unfold sp_told at h
    split at h
    · rfl
    · exact h.elim
  · unfold sp_told at h
    split at h
    · have nd := sc_l_told.nd
      have hu := hu_of hr
      rename_i f v
      obtain ⟨l, r, A', B', hf, ⟨as, hl, hA⟩, hB, h⟩ := h
      refine ⟨_, (pss_one (ps_ret (pe_tup (pa_cons (pe_revLK (K := K) rfl (pe_ix (q_ixLK (K := K) rfl) (qv 0) pe_int (fun _ _ => rfl)) (qo_some (pe_un q_neg pe_int))) (pa_cons (qv 1) (pa_cons (pe_ix (q_ixLK (K := K) rfl) (qv 0) pe_int (fun _ _ => rfl)) pa_nil)))))), ?_⟩
      walk_at "w"
      refine ⟨_, _, SqL.of hf, atI_nat (j := 0) rfl, ?_⟩
      walk_at "w"
      refine ⟨rfl, _, SqL.of hl, ?_⟩
      intro p1 n1
      generalize hU1 : upd _ p1 _ = H1
      obtain ⟨S1, e1⟩ := upd_sub n1 hU1
      clear hU1
      have T1 := S1
      obtain ⟨F1, A1⟩ := sa_rev e1 (hA.mono fun _ _ _ z => S1 _ _ z)
      walk_at "w"
      refine ⟨_, _, SqL.of (T1 _ _ hf), atI_nat (j := 1) rfl, ?_⟩
      walk_at "w"
      refine ⟨by show 3 ≤ sizeLine; decide, ?_⟩
      intro p2 n2
      generalize hU2 : upd _ p2 _ = H2
      obtain ⟨S2, e2⟩ := upd_sub n2 hU2
      clear hU2
      have T2 := T1.trans S2
      exact h p2 p1 H2 T2 e2 (Strip.sub S2 ⟨_, F1, A1⟩) (hB.sub T2)
    · exact h.elim
theorem sc_l_strides : FnScope ["_law_machine_here", "_law_row", "_law_runs_here", "_law_many", "_law_sides", "_law_sign", "_law_steps", "_law_turn", "_law_entry_here", "_law_put", "_law_way", "_law_to", "_law_at_here", "_law_far"] ["_law_machine_here", "_law_row", "_law_runs_here", "_law_many"] (defScope s_l_strides) := ⟨rfl, rfl, rfl, by decide +kernel, rfl, by decide +kernel, by decide +kernel⟩
section
variable {w at_ : Int} {x y z : Addr}
theorem pick_near (hw : w = -1 ∨ w = 1) (ha : at_ = if w = 1 then 1 else 0) : atI [V.ref x, V.ref y] at_ = some (V.ref (if w = 1 then y else x)) := by rcases hw with rfl | rfl <;> subst ha <;> rfl
theorem pick_far (hw : w = -1 ∨ w = 1) (ha : at_ = if w = 1 then 1 else 0) : atI [V.ref x, V.ref y] (1 - at_) = some (V.ref (if w = 1 then x else y)) := by rcases hw with rfl | rfl <;> subst ha <;> rfl
theorem ixn_near (hw : w = -1 ∨ w = 1) (ha : at_ = if w = 1 then 1 else 0) : ixN [V.ref x, V.ref y].length at_ = some (if w = 1 then 1 else 0) := by rcases hw with rfl | rfl <;> subst ha <;> rfl
theorem ixn_far (hw : w = -1 ∨ w = 1) (ha : at_ = if w = 1 then 1 else 0) : ixN [V.ref x, V.ref y].length (1 - at_) = some (if w = 1 then 0 else 1) := by rcases hw with rfl | rfl <;> subst ha <;> rfl
theorem set_near (hw : w = -1 ∨ w = 1) : ∃ x' y', [V.ref x, V.ref y].set (if w = 1 then 1 else 0) (V.ref z) = [V.ref x', V.ref y'] ∧ (if w = 1 then y' else x') = z ∧ (if w = 1 then x' else y') = (if w = 1 then x else y) := by
  rcases hw with rfl | rfl
  · exact ⟨z, y, rfl, rfl, rfl⟩
  · exact ⟨x, z, rfl, rfl, rfl⟩
theorem set_far (hw : w = -1 ∨ w = 1) : ∃ x' y', [V.ref x, V.ref y].set (if w = 1 then 0 else 1) (V.ref z) = [V.ref x', V.ref y'] ∧ (if w = 1 then y' else x') = (if w = 1 then y else x) ∧ (if w = 1 then x' else y') = z := by
  rcases hw with rfl | rfl
  · exact ⟨x, z, rfl, rfl, rfl⟩
  · exact ⟨z, y, rfl, rfl, rfl⟩
theorem str_near {H : Hp} {s : SS} (h0 : Strip H x s.L) (h1 : Strip H y s.R) (w : Int) : Strip H (if w = 1 then y else x) (nearS w s) := by unfold nearS; split; exact h1; exact h0
theorem str_far {H : Hp} {s : SS} (h0 : Strip H x s.L) (h1 : Strip H y s.R) (w : Int) : Strip H (if w = 1 then x else y) (farS w s) := by unfold farS; split; exact h0; exact h1
end
/-- a list of pairs is none of two lists -/
theorem strip_ne {H : Hp} {s p u v : Addr} {A B : Mk2} (hs : Strip H s A) (hp : H p = some (.lst [.ref u, .ref v])) (hu : Strip H u B) : s ≠ p := by
  rintro rfl
  obtain ⟨as, h1, h2⟩ := hs
  obtain ⟨bs, h3, _⟩ := hu
  rw [hp] at h1
  have h1 : [V.ref u, V.ref v] = as.map V.ref := by injection h1 with h1; injection h1
  cases as with
  | nil => cases h1
  | cons a as =>
    rw [List.map_cons] at h1
    injection h1 with h1 _
    injection h1 with h1
    subst h1
    obtain ⟨x, _, hx⟩ := h2.at (i := 0) (a := u) rfl
    rw [h3] at hx; cases hx
theorem str_first {H : Hp} {w : Int} {x0 x1 : Addr} {A B : Mk2} (f : Strip H (if w = 1 then x0 else x1) A) (n : Strip H (if w = 1 then x1 else x0) B) : ∃ C, Strip H x0 C := by
  by_cases hw : w = 1
  · rw [if_pos hw] at f; exact ⟨_, f⟩
  · rw [if_neg hw] at n; exact ⟨_, n⟩
def sp_strides : Sp := fun vs H Q _ => match vs with
  | [.ref t, .int r, .ref q, .int k] => ∃ (m : Ma) (la lb : Addr) (s : Int) (L R : Mk2), Mach H t m ∧ isM m = true ∧ H q = some (.tup [.ref la, .int s, .ref lb]) ∧ Strip H la L.reverse ∧ Strip H lb R ∧ OkX m ⟨r, s, L, R, 0⟩ ∧ (L.length ≤ 100 ∧ R.length ≤ 100) ∧ (0 ≤ k ∧ k ≤ 500) ∧
      ∀ (q' z la' lb' : Addr) (y : SS) (H' : Hp), y = goS m k.toNat ⟨r, s, L, R, 0⟩ → Sub H H' → H' q' = some (.tup [.str (wdS m y), .int y.steps, .int y.row, .ref z]) → H' z = some (.tup [.ref la', .int y.sign, .ref lb']) → Strip H' la' y.L.reverse → Strip H' lb' y.R → Q (.ref q') H'
  | _ => False
theorem ok_l_strides (T : Tx K mg a) : FnOk P w K mg base CX0 2 a.l_strides a.l_strides_d ["_law_machine_here", "_law_row", "_law_runs_here", "_law_many"] (sp_strides) := by
  have G_l_told := ok_l_told (P := P) (w := w) (base := base) T
  have G_l_laid := ok_l_laid (P := P) (w := w) (base := base) T
  have G_l_taken := ok_l_taken (P := P) (w := w) (base := base) T
  refine T.f_l_strides.ok sc_l_strides (fun vs H Q E h => ?_) (fun cdv A outer s H vs Q E hr h => ?_)
  · unfold sp_strides at h
    split at h
    · rfl
    · exact h.elim
  · unfold sp_strides at h
    split at h
    · have nd := sc_l_strides.nd
      have hu := hu_of hr
      rename_i t r q k
      obtain ⟨m, la, lb, s', L, R, hm, hM, hq, ⟨asL, hla, hAL⟩, ⟨asR, hlb, hAR⟩, X, ⟨bL, bR⟩, ⟨k0, k1⟩, h⟩ := h
      have M := OkM.of hM
      refine ⟨_, (pss_cons (ps_set (i := 4) nd rfl (by first | exact Or.inl rfl | exact Or.inr rfl) (pe_lst (pa_cons (pe_revLK (K := K) rfl (pe_ix (q_ixTK (K := K) rfl) (qv 2) pe_int (fun _ _ => rfl)) (qo_some (pe_un q_neg pe_int))) (pa_cons (pe_callTy (q_listOfK (K := K) rfl) rfl T.z_list bt_list (pa_cons (pe_ix (q_ixTK (K := K) rfl) (qv 2) pe_int (fun _ _ => rfl)) pa_nil)) pa_nil))))
    (pss_cons (ps_set (i := 5) nd rfl (by first | exact Or.inl rfl | exact Or.inr rfl) (pe_ix (q_ixTK (K := K) rfl) (qv 2) pe_int (fun _ _ => rfl)))
    (pss_cons (ps_set (i := 6) nd rfl (by first | exact Or.inl rfl | exact Or.inr rfl) pe_int)
    (pss_cons (ps_for PassesOwn.never rfl (qi_range1 rfl T.z_range (pa_cons (pe_op q_add (qv 3) pe_int) pa_nil)) (pg_name (i := 7) nd rfl (by first | exact Or.inl rfl | exact Or.inr rfl)) (pss_cons (ps_set (i := 8) nd rfl (by first | exact Or.inl rfl | exact Or.inr rfl) (pe_ix (q_ixLK (K := K) rfl) (pe_ix (q_ixLK (K := K) rfl) (qv 0) (qv 1) (fun _ _ => rfl)) (qv 5) (fun _ _ => rfl)))
        (pss_cons (ps_c (pt_c (op_eqD hr) (qv 8) (pe_tup pa_nil)) (pss_one (ps_ret (pe_tup (pa_cons pe_str (pa_cons (qv 6) (pa_cons (qv 1) (pa_cons (pe_call G_l_told (hr.mono (by decide)) rfl T.g_l_told T.f_l_told.kp T.b_l_told .nil pass0 (pa_cons (qv 4) (pa_cons (qv 5) pa_nil))) pa_nil))))))) pss_nil)
        (pss_cons (ps_asg (qv 8) (qg_tupK (K := K) (n := 3) rfl rfl (qgs_cons (pg_name (i := 9) nd rfl (by first | exact Or.inl rfl | exact Or.inr rfl)) (qgs_cons (pg_name (i := 10) nd rfl (by first | exact Or.inl rfl | exact Or.inr rfl)) (qgs_cons (pg_name (i := 11) nd rfl (by first | exact Or.inl rfl | exact Or.inr rfl)) qgs_nil)))))
        (pss_cons (ps_set (i := 12) nd rfl (by first | exact Or.inl rfl | exact Or.inr rfl) (pe_callTy q_int1 rfl T.z_int bt_int (pa_cons (pe_cmpR q_eq (qv 10) pe_int (by first | exact nomark _ | rfl)) pa_nil)))
        (pss_cons (ps_c (PW.pt (pw_andR (pt_c q_eq (qv 11) (qv 1)) (pw_andR (pt_c q_eq (qv 5) pe_int) (qw_and1 (pt_c (op_eqD hr) (pe_ix (q_ixLK (K := K) rfl) (qv 4) (qv 12) (fun _ _ => rfl)) (pe_lst pa_nil)))))) (pss_one (ps_ret (pe_tup (pa_cons pe_str (pa_cons (qv 6) (pa_cons (qv 1) (pa_cons (pe_call G_l_told (hr.mono (by decide)) rfl T.g_l_told T.f_l_told.kp T.b_l_told .nil pass0 (pa_cons (qv 4) (pa_cons (qv 5) pa_nil))) pa_nil))))))) pss_nil)
        (pss_one (ps_c (pt_c q_lt (qv 7) (qv 3)) (pss_cons (ps_set (i := 13) nd rfl (by first | exact Or.inl rfl | exact Or.inr rfl) pe_int)
            (pss_cons (ps_c (PW.pt (pw_andR (pt_c q_eq (qv 11) (qv 1)) (pw_andR (pt_c (op_neD hr) (pe_ix (q_ixLK (K := K) rfl) (qv 4) (qv 12) (fun _ _ => rfl)) (pe_lst pa_nil)) (qw_and1 (pt_c q_eq (pe_ix (q_ixTK (K := K) rfl) (pe_ix (q_ixLK (K := K) rfl) (pe_ix (q_ixLK (K := K) rfl) (qv 4) (qv 12) (fun _ _ => rfl)) pe_int (fun _ _ => rfl)) pe_int (fun _ _ => rfl)) (qv 5)))))) (pss_cons (ps_set (i := 13) nd rfl (by first | exact Or.inl rfl | exact Or.inr rfl) (pe_op q_add (qv 13) (pe_ix (q_ixTK (K := K) rfl) (pe_ix (q_ixLK (K := K) rfl) (pe_ix (q_ixLK (K := K) rfl) (qv 4) (qv 12) (fun _ _ => rfl)) pe_int (fun _ _ => rfl)) pe_int (fun _ _ => rfl))))
                (pss_one (ps_asg (pe_slice (q_slLK (K := K) rfl) (pe_ix (q_ixLK (K := K) rfl) (qv 4) (qv 12) (fun _ _ => rfl)) (qo_some pe_int) po_none) (pg_sub (qv 4) (qv 12) q_setL)))) pss_nil)
            (pss_cons (ps_asg (pe_call G_l_laid (hr.mono (by decide)) rfl T.g_l_laid T.f_l_laid.kp T.b_l_laid .nil pass0 (pa_cons (pe_ix (q_ixLK (K := K) rfl) (qv 4) (pe_op q_sub pe_int (qv 12)) (fun _ _ => rfl)) (pa_cons (qv 9) (pa_cons (qv 13) pa_nil)))) (pg_sub (qv 4) (pe_op q_sub pe_int (qv 12)) q_setL))
            (pss_cons (ps_asg (pe_call G_l_taken (hr.mono (by decide)) rfl T.g_l_taken T.f_l_taken.kp T.b_l_taken .nil pass0 (pa_cons (pe_ix (q_ixLK (K := K) rfl) (qv 4) (qv 12) (fun _ _ => rfl)) pa_nil)) (qg_tupK (K := K) (n := 2) rfl rfl (qgs_cons (pg_name (i := 5) nd rfl (by first | exact Or.inl rfl | exact Or.inr rfl)) (qgs_cons (pg_sub (qv 4) (qv 12) q_setL) qgs_nil))))
            (pss_cons (ps_set (i := 1) nd rfl (by first | exact Or.inl rfl | exact Or.inr rfl) (qv 11))
            (pss_one (ps_set (i := 6) nd rfl (by first | exact Or.inl rfl | exact Or.inr rfl) (pe_op q_add (qv 6) (qv 13))))))))) pss_nil))))))))
    (pss_one (ps_ret (pe_tup (pa_cons pe_str (pa_cons (qv 6) (pa_cons (qv 1) (pa_cons (pe_call G_l_told (hr.mono (by decide)) rfl T.g_l_told T.f_l_told.kp T.b_l_told .nil pass0 (pa_cons (qv 4) (pa_cons (qv 5) pa_nil))) pa_nil))))))))))), ?_⟩
      walk_at "w"
      refine ⟨_, _, SqT.of hq, atI_nat (j := 0) rfl, ?_⟩
      walk_at "w"
      refine ⟨rfl, _, SqL.of hla, ?_⟩
      intro p1 n1
      generalize hU1 : upd _ p1 _ = H1
      obtain ⟨S1, e1⟩ := upd_sub n1 hU1
      clear hU1
      have T1 := S1
      obtain ⟨F1, A1⟩ := sa_rev e1 (hAL.mono fun _ _ _ z => T1 _ _ z)
      rw [List.reverse_reverse] at A1
      walk_at "w"
      refine ⟨_, _, SqT.of (T1 _ _ hq), atI_nat (j := 2) rfl, ?_⟩
      walk_at "w"
      refine ⟨_, .inl (SqL.of (T1 _ _ hlb)), ?_⟩
      intro p2 n2
      generalize hU2 : upd _ p2 _ = H2
      obtain ⟨S2, e2⟩ := upd_sub n2 hU2
      clear hU2
      have T2 := T1.trans S2
      walk_at "w"
      refine ⟨by show 2 ≤ sizeLine; decide, ?_⟩
      intro p3 n3
      generalize hU3 : upd _ p3 _ = H3
      obtain ⟨S3, e3⟩ := upd_sub n3 hU3
      clear hU3
      have T3 := T2.trans S3
      have nps : H p3 = none := T2.free n3
      walk_at "w"
      refine ⟨_, _, SqT.of (T3 _ _ hq), atI_nat (j := 1) rfl, ?_⟩
      walk_at "w"
      refine ⟨⟨by omega, by omega⟩, ?_⟩
      refine for_range (lo := 0) (n := (k + 1).toNat) (fun i σ H4 => ∃ (v7 v8 v9 v10 v11 v12 v13 : Option V) (y : SS) (s0 s1 : Addr), σ = [some (.ref t), some (.int y.row), some (.ref q), some (.int k), some (.ref p3), some (.int y.sign), some (.int y.steps), v7, v8, v9, v10, v11, v12, v13] ∧ Sub H H4 ∧ H4 p3 = some (.lst [.ref s0, .ref s1]) ∧ Strip H4 s0 y.L ∧ Strip H4 s1 y.R ∧ OkX m y ∧ (y.L.length ≤ 100 + i ∧ y.R.length ≤ 100 + i) ∧ (i ≤ k.toNat → goS m k.toNat ⟨r, s', L, R, 0⟩ = goS m (k.toNat - i) y) ∧ (i = k.toNat + 1 → y = goS m k.toNat ⟨r, s', L, R, 0⟩ ∧ wdS m y = "on")) ?_ ?_ ?_
      · exact ⟨_, _, _, _, _, _, _, ⟨r, s', L, R, 0⟩, p1, p2, rfl, T3, e3, Strip.sub (S2.trans S3) ⟨_, F1, A1⟩, ⟨asR, S3 _ _ e2, hAR.mono fun _ _ _ z => T3 _ _ z⟩, X, ⟨bL, bR⟩, fun _ => rfl, fun z => by omega⟩
      · rintro i σ H4 hi ⟨v7, v8, v9, v10, v11, v12, v13, y, s0, s1, rfl, S4, hps, h0, h1, X4, ⟨b1, b2⟩, g4, _⟩
        have hik : i ≤ k.toNat := by omega
        have g4 := g4 hik
        have hm4 := hm.stay (.sub S4)
        obtain ⟨vs, us, ra, ea, ht, hr', hra, hs', hE⟩ := mach_at hm4 M X4
        obtain ⟨es, _, _, hok⟩ := X4.at M
        walk_at "w"
        refine ⟨_, _, SqL.of ht, hr', ?_⟩
        walk_at "w"
        refine ⟨_, _, SqL.of hra, hs', ?_⟩
        walk_at "w"
        refine ⟨by show 0 ≤ sizeLine; decide, ?_⟩
        intro p5 n5
        generalize hU5 : upd _ p5 _ = H5
        obtain ⟨S5, e5⟩ := upd_sub n5 hU5
        clear hU5
        have hE5 : Ent H5 ea (enS m y.row y.sign) := S5 _ _ hE
        have T5 := S4.trans S5
        walk_at "w"
        refine ⟨_, _, (Ent.den (e := enS m y.row y.sign) hE5), (Ent.den (e := []) e5), dep_dE1 _, ?_⟩
        rw [eqD_dE]
        walk_at "w"
        refine ifB.dec (fun z => ?_) (fun z => ?_)
        · have gy : y = goS m k.toNat ⟨r, s', L, R, 0⟩ := by rw [g4, goS_stop (by rw [wd_end z]; exact end_on)]
          walk_at "w"
          refine ⟨s0, s1, y.L, y.R, S5 _ _ hps, h0.sub S5, h1.sub S5, fun z' la' H6 S6 hz hla' hlb' => ?_⟩
          walk_at "w"
          refine ⟨by show 4 ≤ sizeLine; decide, ?_⟩
          intro p7 n7
          generalize hU7 : upd _ p7 _ = H7
          obtain ⟨S7, e7⟩ := upd_sub n7 hU7
          clear hU7
          rw [← wd_end z] at e7
          exact h p7 z' la' s1 y H7 gy ((T5.trans S6).trans S7) e7 (S7 _ _ hz) (hla'.sub S7) (hlb'.sub S7)
        obtain ⟨p, w', n, he, a0, a1, a2, a3, a4⟩ := entryOk_three hok z
        rw [he] at hE5
        walk_at "w"
        refine ⟨_, SqT.of hE5, rfl, ?_⟩
        walk_at "w"
        generalize hat : (if (if false = true then !decide (w' = 1) else decide (w' = 1)) = true then (1 : Int) else 0) = at_
        have ha : at_ = if w' = 1 then 1 else 0 := by rw [← hat]; by_cases hw : w' = 1 <;> simp [hw]
        clear hat
        have hN := str_near h0 h1 w'
        have hF := str_far h0 h1 w'
        have lnr : (nearS w' y).length ≤ 600 := by unfold nearS; split <;> omega
        have lfr : (farS w' y).length ≤ 600 := by unfold farS; split <;> omega
        have lrs : (restS n w' y).length ≤ 600 := by unfold restS; split; exact Nat.le_trans (off_len _ _) lnr; exact lnr
        have eS : stS m y = if w' = 1 then ⟨n, (taken (restS n w' y)).1, laid y.L p (manyS n w' y), (taken (restS n w' y)).2, y.steps + manyS n w' y⟩ else ⟨n, (taken (restS n w' y)).1, (taken (restS n w' y)).2, laid y.R p (manyS n w' y), y.steps + manyS n w' y⟩ := by unfold stS; rw [he]
        have r1 : (stS m y).row = n := by rw [eS]; split <;> rfl
        have r2 : (stS m y).sign = (taken (restS n w' y)).1 := by rw [eS]; split <;> rfl
        have r3 : (stS m y).steps = y.steps + manyS n w' y := by rw [eS]; split <;> rfl
        refine ifB.mk (fun z1 => ?na) (fun z1 => ?nb)
        case' nb =>
          have z1 : ¬ n = y.row := of_decide_eq_false z1
          refine ifB.no rfl ?_
          have hon := wd_on he (fun q => z1 q.1)
          have U : Sub H4 H5 := S5
        case' na =>
          have z1 : n = y.row := of_decide_eq_true z1
          walk_at "w"
          refine ifB.mk (fun z2 => ?nc) (fun z2 => ?nd)
          case' nd =>
            have z2 : ¬ y.sign = 0 := of_decide_eq_false z2
            refine ifB.no rfl ?_
            have hon := wd_on he (fun q => z2 q.2.1)
            have U : Sub H4 H5 := S5
          case' nc =>
            have z2 : y.sign = 0 := of_decide_eq_true z2
            walk_at "w"
            refine ⟨_, _, SqL.of (S5 _ _ hps), pick_near a2 ha, ?_⟩
            walk_at "w"
            refine ⟨Nat.zero_le _, ?_⟩
            intro p6 n6
            generalize hU6 : upd _ p6 _ = H6
            obtain ⟨S6, e6⟩ := upd_sub n6 hU6
            clear hU6
            have S56 := S5.trans S6
            walk_at "w"
            refine ⟨_, _, Strip.den (hN.sub S56), den_nil e6, dep_dLs _, ?_⟩
            rw [eqD_nil]
            walk_at "w"
            refine ifB.dec (fun z3 => ?ny) (fun z3 => ?ne)
            case ny =>
              have hnv := wd_never he ⟨z1, z2, z3⟩
              have gy : y = goS m k.toNat ⟨r, s', L, R, 0⟩ := by rw [g4, goS_stop (by rw [hnv]; exact never_on)]
              walk_at "w"
              refine ⟨s0, s1, y.L, y.R, S56 _ _ hps, h0.sub S56, h1.sub S56, fun z' la' H7 S7 hz hla' hlb' => ?_⟩
              walk_at "w"
              refine ⟨by show 4 ≤ sizeLine; decide, ?_⟩
              intro p8 n8
              generalize hU8 : upd _ p8 _ = H8
              obtain ⟨S8, e8⟩ := upd_sub n8 hU8
              clear hU8
              rw [← hnv] at e8
              exact h p8 z' la' s1 y H8 gy (((S4.trans S56).trans S7).trans S8) e8 (S8 _ _ hz) (hla'.sub S8) (hlb'.sub S8)
            case' ne =>
              have hon := wd_on he (fun q => z3 q.2.2)
              have U := S56
        all_goals
          walk_at "w"
          refine ifB.dec (fun zt => ?_) (fun zt => ?_)
          case refine_2 =>
            have zt : ¬ (0 + (i : Int) < k) := zt
            exact ⟨_, _, _, _, _, _, _, y, s0, s1, rfl, S4.trans U, U _ _ hps, h0.sub U, h1.sub U, X4, ⟨by omega, by omega⟩, fun q => by omega, fun _ => ⟨by rw [g4, show k.toNat - i = 0 by omega]; rfl, hon⟩⟩
          have zt : 0 + (i : Int) < k := zt
          have VH := S4.trans U
          have hpU := U _ _ hps
          have hNU := hN.sub U
          have hFU := hF.sub U
          walk_at "w"
          refine ifB.mk (fun u1 => ?_) (fun u1 => ?_)
          case' refine_2 =>
            have u1 : ¬ n = y.row := of_decide_eq_false u1
            refine ifB.no rfl ?_
            have hfar : (1 : Int) = manyS n w' y := by unfold manyS; rw [if_neg u1]
            have hrest : nearS w' y = restS n w' y := by unfold restS; rw [if_neg u1]
            have nX := hNU
            rw [hrest] at nX
            have fX := hFU
            have hpsX := hpU
            have VX := VH
            obtain ⟨x0, hx0⟩ : ∃ x0, x0 = s0 := ⟨s0, rfl⟩
            obtain ⟨x1, hx1⟩ : ∃ x1, x1 = s1 := ⟨s1, rfl⟩
            rw [← hx0, ← hx1] at hpsX nX fX
          case' refine_1 =>
            have u1 : n = y.row := of_decide_eq_true u1
            walk_at "w"
            refine ⟨_, _, SqL.of hpU, pick_near a2 ha, ?_⟩
            walk_at "w"
            refine ⟨Nat.zero_le _, ?_⟩
            intro p16 n16
            generalize hU16 : upd _ p16 _ = H16
            obtain ⟨S16, e16⟩ := upd_sub n16 hU16
            clear hU16
            have VX := VH.trans S16
            have hp16 := S16 _ _ hpU
            have hN16 := hNU.sub S16
            have hF16 := hFU.sub S16
            walk_at "w"
            refine ⟨_, _, Strip.den hN16, den_nil e16, dep_dLs _, ?_⟩
            rw [eqD_nil]
            walk_at "w"
            refine ifB.ndec (fun hnr => ?_) (fun hnr => ?_)
            case' refine_1 =>
              refine ifB.no rfl ?_
              have hfar : (1 : Int) = manyS n w' y := by unfold manyS; rw [if_pos u1, hnr]; rfl
              have hrest : nearS w' y = restS n w' y := by unfold restS; rw [if_pos u1, hnr]; rfl
              have nX := hN16
              rw [hrest] at nX
              have fX := hF16
              have hpsX := hp16
              obtain ⟨x0, hx0⟩ : ∃ x0, x0 = s0 := ⟨s0, rfl⟩
              obtain ⟨x1, hx1⟩ : ∃ x1, x1 = s1 := ⟨s1, rfl⟩
              rw [← hx0, ← hx1] at hpsX nX fX
            case' refine_2 =>
              obtain ⟨g, rs, hgr⟩ : ∃ g rs, nearS w' y = g :: rs := by
                cases q : nearS w' y with
                | nil => exact (hnr q).elim
                | cons g rs => exact ⟨g, rs, rfl⟩
              have hG := hN16
              rw [hgr] at hG
              obtain ⟨asn, hln, hAn⟩ := hG
              obtain ⟨a0', as', rfl⟩ : ∃ a0' as', asn = a0' :: as' := by
                cases asn with
                | nil => have := hAn.1; cases this
                | cons a0' as' => exact ⟨a0', as', rfl⟩
              obtain ⟨hg0, hAn'⟩ := All2.tail hAn
              walk_at "w"
              refine ⟨_, _, SqL.of hp16, pick_near a2 ha, ?_⟩
              walk_at "w"
              refine ⟨_, _, SqL.of hln, atI_nat (j := 0) rfl, ?_⟩
              walk_at "w"
              refine ⟨_, _, SqT.of hg0, atI_nat (j := 0) rfl, ?_⟩
              walk_at "w"
              refine ifB.mk (fun u2 => ?_) (fun u2 => ?_)
              case' refine_2 =>
                have u2 : ¬ g.1 = y.sign := of_decide_eq_false u2
                have hfar : (1 : Int) = manyS n w' y := by unfold manyS; rw [if_pos u1, hgr]; show (1 : Int) = 1 + (if g.1 = y.sign then g.2 else 0); rw [if_neg u2]; rfl
                have hrest : nearS w' y = restS n w' y := by unfold restS; rw [if_pos u1, hgr]; show _ = (if g.1 = y.sign then rs else g :: rs); rw [if_neg u2]
                have nX := hN16
                rw [hrest] at nX
                have fX := hF16
                have hpsX := hp16
                obtain ⟨x0, hx0⟩ : ∃ x0, x0 = s0 := ⟨s0, rfl⟩
                obtain ⟨x1, hx1⟩ : ∃ x1, x1 = s1 := ⟨s1, rfl⟩
                rw [← hx0, ← hx1] at hpsX nX fX
              case' refine_1 =>
                have u2 : g.1 = y.sign := of_decide_eq_true u2
                have hfar : 1 + g.2 = manyS n w' y := by unfold manyS; rw [if_pos u1, hgr]; show 1 + g.2 = 1 + (if g.1 = y.sign then g.2 else 0); rw [if_pos u2]
                have hrest : restS n w' y = rs := by unfold restS; rw [if_pos u1, hgr]; show (if g.1 = y.sign then rs else g :: rs) = _; rw [if_pos u2]
                walk_at "w"
                refine ⟨_, _, SqL.of hp16, pick_near a2 ha, ?_⟩
                walk_at "w"
                refine ⟨_, _, SqL.of hln, atI_nat (j := 0) rfl, ?_⟩
                walk_at "w"
                refine ⟨_, _, SqT.of hg0, atI_nat (j := 1) rfl, ?_⟩
                walk_at "w"
                refine ⟨_, _, SqL.of hp16, pick_near a2 ha, ?_⟩
                walk_at "w"
                refine ⟨_, SqL.of hln, ?_⟩
                intro p17 n17
                generalize hU17 : upd _ p17 _ = H17
                obtain ⟨S17, e17⟩ := upd_sub n17 hU17
                clear hU17
                rw [cut_tail (by simp)] at e17
                walk_at "w"
                refine ⟨_, _, S17 _ _ hp16, ixn_near a2 ha, ?_⟩
                obtain ⟨x0, x1, esX, enX, efX⟩ := set_near (w := w') (x := s0) (y := s1) (z := p17) a2
                rw [esX]
                have hn17 : Strip H17 p17 rs := ⟨as', e17, hAn'.mono fun _ _ _ z => S17 _ _ z⟩
                have np173 := strip_ne hn17 (S17 _ _ hp16) (h0.sub ((U.trans S16).trans S17))
                have nf3 := strip_ne (hF16.sub S17) (S17 _ _ hp16) (h0.sub ((U.trans S16).trans S17))
                have nX := strip_upd (us := [.ref x0, .ref x1]) hn17 (S17 _ _ hp16) np173
                have fX := strip_upd (us := [.ref x0, .ref x1]) (hF16.sub S17) (S17 _ _ hp16) nf3
                have VX := (VX.trans S17).upd (o := .lst [V.ref x0, V.ref x1]) nps
                have hpsX : (upd H17 p3 (.lst [V.ref x0, V.ref x1])) p3 = some (.lst [V.ref x0, V.ref x1]) := upd_same
                generalize upd H17 p3 (.lst [V.ref x0, V.ref x1]) = H18 at nX fX VX hpsX ⊢
                rw [← enX, ← hrest] at nX
                rw [← efX] at fX
          all_goals
            obtain ⟨B0, hB0⟩ := str_first fX nX
            walk_at "w"
            refine ⟨_, _, SqL.of hpsX, pick_far a2 ha, ?_⟩
            walk_at "w"
            refine ⟨_, fX, Nat.le_trans lfr (by decide), fun pf H20 S20 hf20 => ?_⟩
            have hf20 : Strip H20 pf (laid (farS w' y) p (manyS n w' y)) := by rw [← hfar]; exact hf20
            walk_at "w"
            refine ⟨_, _, S20 _ _ hpsX, ixn_far a2 ha, ?_⟩
            obtain ⟨y0, y1, es1, en1, ef1⟩ := set_far (w := w') (x := x0) (y := x1) (z := pf) a2
            rw [es1]
            have npf := strip_ne hf20 (S20 _ _ hpsX) (hB0.sub S20)
            have nnr := strip_ne (nX.sub S20) (S20 _ _ hpsX) (hB0.sub S20)
            have hf21 := strip_upd (us := [.ref y0, .ref y1]) hf20 (S20 _ _ hpsX) npf
            have hn21 := strip_upd (us := [.ref y0, .ref y1]) (nX.sub S20) (S20 _ _ hpsX) nnr
            have VX21 := (VX.trans S20).upd (o := .lst [V.ref y0, V.ref y1]) nps
            have hps21 : (upd H20 p3 (.lst [V.ref y0, V.ref y1])) p3 = some (.lst [V.ref y0, V.ref y1]) := upd_same
            generalize upd H20 p3 (.lst [V.ref y0, V.ref y1]) = H21 at hf21 hn21 VX21 hps21 ⊢
            rw [← en1] at hn21
            rw [← ef1] at hf21
            obtain ⟨B1, hB1⟩ := str_first hf21 hn21
            walk_at "w"
            refine ⟨_, _, SqL.of hps21, pick_near a2 ha, ?_⟩
            walk_at "w"
            refine ⟨_, hn21, Nat.le_trans lrs (by decide), fun qq pq H22 S22 hqq hpq => ?_⟩
            walk_at "w"
            refine ⟨_, SqT.of hqq, rfl, ?_⟩
            walk_at "w"
            refine ⟨_, _, S22 _ _ hps21, ixn_near a2 ha, ?_⟩
            obtain ⟨z0, z1, es2, en2, ef2⟩ := set_near (w := w') (x := y0) (y := y1) (z := pq) a2
            rw [es2]
            have npq := strip_ne hpq (S22 _ _ hps21) (hB1.sub S22)
            have nfr := strip_ne (hf21.sub S22) (S22 _ _ hps21) (hB1.sub S22)
            have hn23 := strip_upd (us := [.ref z0, .ref z1]) hpq (S22 _ _ hps21) npq
            have hf23 := strip_upd (us := [.ref z0, .ref z1]) (hf21.sub S22) (S22 _ _ hps21) nfr
            have VX23 := (VX21.trans S22).upd (o := .lst [V.ref z0, V.ref z1]) nps
            have hps23 : (upd H22 p3 (.lst [V.ref z0, V.ref z1])) p3 = some (.lst [V.ref z0, V.ref z1]) := upd_same
            generalize upd H22 p3 (.lst [V.ref z0, V.ref z1]) = H23 at hf23 hn23 VX23 hps23 ⊢
            rw [← en2] at hn23
            rw [← ef2] at hf23
            have hlen := st_len (m := m) b1 b2
            refine ⟨some (.int (0 + i)), some (.ref ea), some (.int p), some (.int w'), some (.int n), some (.int at_), some (.int (manyS n w' y)), stS m y, z0, z1, ?_, VX23, hps23, ?_, ?_, X4.st M, ⟨by omega, by omega⟩, fun _ => ?_, fun q => by omega⟩
            · rw [r1, r2, r3, ← hfar]; rfl
            · rw [eS]
              by_cases hw : w' = 1
              · rw [if_pos hw] at hf23 ⊢
                unfold farS at hf23
                rw [if_pos hw] at hf23
                exact hf23
              · rw [if_neg hw] at hn23 ⊢
                exact hn23
            · rw [eS]
              by_cases hw : w' = 1
              · rw [if_pos hw] at hn23 ⊢
                exact hn23
              · rw [if_neg hw] at hf23 ⊢
                unfold farS at hf23
                rw [if_neg hw] at hf23
                exact hf23
            · rw [g4, show k.toNat - i = (k.toNat - (i + 1)) + 1 by omega, goS_on hon]
      · rintro σ H4 ⟨v7, v8, v9, v10, v11, v12, v13, y, s0, s1, rfl, S4, hps, h0, h1, X4, ⟨b1, b2⟩, _, g4⟩
        obtain ⟨gy, hon⟩ := g4 (by omega)
        walk_at "w"
        refine ⟨s0, s1, y.L, y.R, hps, h0, h1, fun z' la' H6 S6 hz hla' hlb' => ?_⟩
        walk_at "w"
        refine ⟨by show 4 ≤ sizeLine; decide, ?_⟩
        intro p7 n7
        generalize hU7 : upd _ p7 _ = H7
        obtain ⟨S7, e7⟩ := upd_sub n7 hU7
        clear hU7
        rw [← hon] at e7
        exact h p7 z' la' s1 y H7 gy ((S4.trans S6).trans S7) e7 (S7 _ _ hz) (hla'.sub S7) (hlb'.sub S7)
    · exact h.elim
theorem sc_l_good : FnScope ["_law_found", "_law_due"] ["_law_found", "_law_due"] (defScope s_l_good) := ⟨rfl, rfl, rfl, by decide +kernel, rfl, by decide +kernel, by decide +kernel⟩
abbrev dT (w : Str) (k r : Int) (A : Mk2) (v : Int) (B : Mk2) : DD := .tup [.str w, .int k, .int r, d3 A v B]
theorem denT {H : Hp} {q z a b : Addr} {w : Str} {k r v : Int} {A B : Mk2} (h : H q = some (.tup [.str w, .int k, .int r, .ref z])) (hz : H z = some (.tup [.ref a, .int v, .ref b])) (ha : Strip H a A) (hb : Strip H b B) : Den H (.ref q) (dT w k r A v B) := by
  rw [dT, Den]
  refine ⟨_, _, rfl, h, ?_⟩
  rw [Dens]
  refine ⟨_, _, rfl, by rw [Den], ?_⟩
  rw [Dens]
  refine ⟨_, _, rfl, by rw [Den], ?_⟩
  rw [Dens]
  refine ⟨_, _, rfl, by rw [Den], ?_⟩
  rw [Dens]
  exact ⟨_, _, rfl, den3 hz ha hb, by rw [Dens]⟩
theorem dep_dT (w : Str) (k r : Int) (A : Mk2) (v : Int) (B : Mk2) : dep (dT w k r A v B) ≤ 60 := by
  rw [dT, dep]
  have : depL [.str w, .int k, .int r, d3 A v B] ≤ 6 := depL_le fun d hd => by
    simp only [List.mem_cons, List.not_mem_nil, or_false] at hd
    rcases hd with rfl | rfl | rfl | rfl
    · simp [dep]
    · simp [dep]
    · simp [dep]
    · rw [d3, dep]
      have : depL [dL A, .int v, dL B] ≤ 4 := depL_le fun d hd => by
        simp only [List.mem_cons, List.not_mem_nil, or_false] at hd
        rcases hd with rfl | rfl | rfl
        · exact Nat.le_trans (dep_dL2 A) (by decide)
        · simp [dep]
        · exact Nat.le_trans (dep_dL2 B) (by decide)
      omega
  omega
def sp_good : Sp := fun vs H Q _ => match vs with
  | [.ref q, .ref q'] => ∃ (w : Str) (k r v : Int) (A B : Mk2) (z a b z' a' b' : Addr), H q = some (.tup [.str w, .int k, .int r, .ref z]) ∧ H z = some (.tup [.ref a, .int v, .ref b]) ∧ Strip H a A ∧ Strip H b B ∧
      H q' = some (.tup [.str w, .int k, .int r, .ref z']) ∧ H z' = some (.tup [.ref a', .int v, .ref b']) ∧ Strip H a' A ∧ Strip H b' B ∧ ∀ H' : Hp, Sub H H' → Q (.bl true) H'
  | _ => False
theorem ok_l_good (T : Tx K mg a) : FnOk P w K mg base CX0 3 a.l_good a.l_good_d ["_law_found", "_law_due"] (sp_good) := by
  have G_l_whole := ok_l_whole (P := P) (w := w) (base := base) T
  have G_l_are_runs := ok_l_are_runs (P := P) (w := w) (base := base) T
  refine T.f_l_good.ok sc_l_good (fun vs H Q E h => ?_) (fun cdv A outer s H vs Q E hr h => ?_)
  · unfold sp_good at h
    split at h
    · rfl
    · exact h.elim
  · unfold sp_good at h
    split at h
    · have nd := sc_l_good.nd
      have hu := hu_of hr
      rename_i q q'
      obtain ⟨w', k, r, v, A', B', z, a1, b1, z', a2, b2, hq, hz, ha, hb, hq', hz', ha', hb', h⟩ := h
      refine ⟨_, (pss_cons (ps_c (PW.pt (pw_orR (pt_not (pt_e (pe_callB (q_isiK (K := K) rfl) rfl T.z_isinstance bt_isinstance (pa_cons (qv 0) (pa_cons (pe_bltn (v := V.ty "tuple") rfl T.z_tuple bt_tuple rfl) pa_nil))))) (pw_orR (pt_c q_ne (pe_callB (q_lenK (K := K) rfl) rfl T.z_len bt_len (pa_cons (qv 0) pa_nil)) pe_int) (pw_orR (pt_not (pt_e (pe_call G_l_whole (hr.mono (by decide)) rfl T.g_l_whole T.f_l_whole.kp T.b_l_whole .nil pass0 (pa_cons (pe_ix (q_ixTK (K := K) rfl) (qv 0) pe_int (fun _ _ => rfl)) pa_nil)))) (qw_or1 (pt_not (pt_e (pe_call G_l_whole (hr.mono (by decide)) rfl T.g_l_whole T.f_l_whole.kp T.b_l_whole .nil pass0 (pa_cons (pe_ix (q_ixTK (K := K) rfl) (qv 0) pe_int (fun _ _ => rfl)) pa_nil))))))))) (pss_one (ps_ret pe_bl)) pss_nil)
    (pss_one (ps_ret (pe_andC (pe_call G_l_are_runs (hr.mono (by decide)) rfl T.g_l_are_runs T.f_l_are_runs.kp T.b_l_are_runs .nil pass0 (pa_cons (pe_ix (q_ixTK (K := K) rfl) (qv 0) pe_int (fun _ _ => rfl)) pa_nil)) (pe_one (pe_cmpR (op_eqD hr) (qv 0) (qv 1) (by first | exact nomark _ | rfl))))))), ?_⟩
      walk_at "w"
      refine ⟨_, true, .of (.tup hq), rfl, rfl, ?_⟩
      walk_at "w"
      refine ifB.no rfl ?_
      walk_at "w"
      refine ⟨_, .inr (SqT.of hq), ?_⟩
      walk_at "w"
      refine ifB.no rfl ?_
      walk_at "w"
      refine ⟨_, _, SqT.of hq, atI_nat (j := 1) rfl, ?_⟩
      walk_at "w"
      refine ifB.no rfl ?_
      walk_at "w"
      refine ⟨_, _, SqT.of hq, atI_nat (j := 2) rfl, ?_⟩
      walk_at "w"
      refine ifB.no rfl ?_
      walk_at "w"
      refine ⟨_, _, SqT.of hq, atI_nat (j := 3) rfl, ?_⟩
      walk_at "w"
      refine ⟨a1, b1, v, A', B', hz, ha, hb, fun H1 S1 => ?_⟩
      walk_at "w"
      refine ifB.yes rfl ?_
      walk_at "w"
      refine ⟨_, _, denT (S1 _ _ hq) (S1 _ _ hz) (ha.sub S1) (hb.sub S1), denT (S1 _ _ hq') (S1 _ _ hz') (ha'.sub S1) (hb'.sub S1), dep_dT _ _ _ _ _ _, ?_⟩
      rw [eqD_refl]
      exact h H1 S1
    · exact h.elim
theorem sc_law : FnScope ["_law_script", "_law_cell", "_law_purse_here", "_law_machine_here", "_law_handed", "_law_turn", "_law_row", "_law_runs_here", "_law_many", "_law_due", "_law_given", "_law_again", "_law_found", "_law_left", "_law_sign", "_law_right"] ["_law_script"] (defScope s_law) := ⟨rfl, rfl, rfl, by decide +kernel, rfl, by decide +kernel, by decide +kernel⟩
def sp_law (K : PySem.W.Frag) : Sp := fun vs H Q _ => match vs with
  | [.ref b] => ∃ ns : List Int, SqL K H b (ns.map V.int) ∧ ns.length ≤ 63 ∧ ∀ H', Q (.bl true) H'
  | _ => False
theorem sql_sub {K : PySem.W.Frag} {H H' : Hp} {b : Addr} {xs : List V} (S : Sub H H') (h : SqL K H b xs) : SqL K H' b xs := by
  rcases h with h | h
  · rcases h with h | ⟨o, h⟩
    · exact .inl (.inl (S _ _ h))
    · exact .inl (.inr ⟨o, S _ _ h⟩)
  · exact .inr h
theorem mach_len {H : Hp} {t : Addr} {m : Ma} (h : Mach H t m) : ∃ vs : List V, H t = some (.lst vs) ∧ vs.length = m.length := by
  obtain ⟨rs, h1, _, h2⟩ := h
  exact ⟨_, h1, by rw [List.length_map, h2.1]⟩
theorem mach_row0 {H : Hp} {t : Addr} {m : Ma} (h : Mach H t m) (M : OkM m) : ∃ (vs us : List V) (r : Addr), H t = some (.lst vs) ∧ atI vs 0 = some (.ref r) ∧ H r = some (.lst us) ∧ us.length = sgn m := by
  obtain ⟨rs, h1, _, h2⟩ := h
  obtain ⟨r, rs', rfl⟩ : ∃ r rs', rs = r :: rs' := by
    cases rs with
    | nil => have := h2.1; have := M.n1; simp at *; omega
    | cons r rs => exact ⟨r, rs, rfl⟩
  obtain ⟨es, he, as, h3, h4⟩ := h2.at (i := 0) (a := r) rfl
  exact ⟨_, _, r, h1, atI_nat (j := 0) rfl, h3, by rw [List.length_map, h4.1]; exact M.len es (List.mem_of_getElem? he)⟩
theorem strip_cat {H : Hp} {p b : Addr} {as : List Addr} {ks : Mk2} {q : Int × Int} (h : H p = some (.lst (as.map V.ref ++ [V.ref b]))) (hA : All2 (fun b q => H b = some (tI q)) as (iv ks)) (hb : H b = some (tI (q.1, V.int q.2))) : Strip H p (ks ++ [q]) := by
  refine ⟨as ++ [b], by rw [h, List.map_append]; rfl, ?_⟩
  rw [show iv (ks ++ [q]) = iv ks ++ [(q.1, V.int q.2)] by simp]
  exact hA.app hb
theorem go_len_le {m : Ma} : ∀ (k : Nat) (x : SS) (B : Nat), x.L.length ≤ B → x.R.length ≤ B → (goS m k x).L.length ≤ B + k ∧ (goS m k x).R.length ≤ B + k
  | 0, x, B, hL, hR => ⟨hL, hR⟩
  | k + 1, x, B, hL, hR => by
    by_cases h : wdS m x = "on"
    · rw [goS_on h]
      have s := st_len (m := m) hL hR
      have := go_len_le (m := m) k (stS m x) (B + 1) s.1 s.2
      omega
    · rw [goS_stop h]
      omega
theorem ok_law (T : Tx K mg a) : FnOk P w K mg base CX0 7 a.law a.law_d ["_law_script"] (sp_law K) := by
  have G_l_purse := ok_l_purse (P := P) (w := w) (base := base) T
  have G_l_draw := ok_l_draw (P := P) (w := w) (base := base) T
  have G_l_machine := ok_l_machine (P := P) (w := w) (base := base) T
  have G_l_kept := ok_l_kept (P := P) (w := w) (base := base) T
  have G_l_runs := ok_l_runs (P := P) (w := w) (base := base) T
  have G_l_strides := ok_l_strides (P := P) (w := w) (base := base) T
  have G_l_copied := ok_l_copied (P := P) (w := w) (base := base) T
  have G_by_strides := ok_by_strides (P := P) (w := w) (base := base) T
  have G_l_good := ok_l_good (P := P) (w := w) (base := base) T
  refine T.f_law.ok sc_law (fun vs H Q E h => ?_) (fun cdv A outer s H vs Q E hr h => ?_)
  · unfold sp_law at h
    split at h
    · rfl
    · exact h.elim
  · unfold sp_law at h
    split at h
    · have nd := sc_law.nd
      have hu := hu_of hr
      rename_i b
      obtain ⟨ns, hb, hl, h⟩ := h
      refine ⟨_, (pss_cons (ps_for PassesOwn.never rfl (qi_range1 rfl T.z_range (pa_cons pe_int pa_nil)) (pg_name (i := 1) nd rfl (by first | exact Or.inl rfl | exact Or.inr rfl)) (pss_cons (ps_set (i := 2) nd rfl (by first | exact Or.inl rfl | exact Or.inr rfl) (pe_call G_l_purse (hr.mono (by decide)) rfl T.g_l_purse T.f_l_purse.kp T.b_l_purse .nil pass0 (pa_cons (qv 0) (pa_cons (qv 1) pa_nil))))
        (pss_cons (ps_set (i := 3) nd rfl (by first | exact Or.inl rfl | exact Or.inr rfl) (pe_call G_l_machine (hr.mono (by decide)) rfl T.g_l_machine T.f_l_machine.kp T.b_l_machine .nil pass0 (pa_cons (qv 2) pa_nil)))
        (pss_cons (ps_set (i := 4) nd rfl (by first | exact Or.inl rfl | exact Or.inr rfl) (pe_call G_l_kept (hr.mono (by decide)) rfl T.g_l_kept T.f_l_kept.kp T.b_l_kept .nil pass0 (pa_cons (qv 3) pa_nil)))
        (pss_one (ps_for PassesOwn.never rfl (qi_range1 rfl T.z_range (pa_cons pe_int pa_nil)) (pg_name (i := 5) nd rfl (by first | exact Or.inl rfl | exact Or.inr rfl)) (pss_cons (ps_set (i := 6) nd rfl (by first | exact Or.inl rfl | exact Or.inr rfl) (pe_call G_l_draw (hr.mono (by decide)) rfl T.g_l_draw T.f_l_draw.kp T.b_l_draw .nil pass0 (pa_cons (qv 2) (pa_cons (pe_callB (q_lenK (K := K) rfl) rfl T.z_len bt_len (pa_cons (qv 3) pa_nil)) pa_nil))))
            (pss_cons (ps_set (i := 7) nd rfl (by first | exact Or.inl rfl | exact Or.inr rfl) (pe_tup (pa_cons (pe_lst pa_nil) (pa_cons pe_int (pa_cons (pe_lst pa_nil) pa_nil)))))
            (pss_cons (ps_c (pt_c q_gt (pe_call G_l_draw (hr.mono (by decide)) rfl T.g_l_draw T.f_l_draw.kp T.b_l_draw .nil pass0 (pa_cons (qv 2) (pa_cons pe_int pa_nil))) pe_int) (pss_one (ps_set (i := 7) nd rfl (by first | exact Or.inl rfl | exact Or.inr rfl) (pe_call G_l_runs (hr.mono (by decide)) rfl T.g_l_runs T.f_l_runs.kp T.b_l_runs .nil pass0 (pa_cons (qv 2) (pa_cons (pe_callB (q_lenK (K := K) rfl) rfl T.z_len bt_len (pa_cons (pe_ix (q_ixLK (K := K) rfl) (qv 3) pe_int (fun _ _ => rfl)) pa_nil)) pa_nil))))) pss_nil)
            (pss_cons (ps_set (i := 8) nd rfl (by first | exact Or.inl rfl | exact Or.inr rfl) (pe_call G_l_draw (hr.mono (by decide)) rfl T.g_l_draw T.f_l_draw.kp T.b_l_draw .nil pass0 (pa_cons (qv 2) (pa_cons (pe_ix (q_ixLK (K := K) rfl) (pe_lst (pa_cons pe_int (pa_cons pe_int (pa_cons pe_int pa_nil)))) (pe_call G_l_draw (hr.mono (by decide)) rfl T.g_l_draw T.f_l_draw.kp T.b_l_draw .nil pass0 (pa_cons (qv 2) (pa_cons pe_int pa_nil))) (fun _ _ => rfl)) pa_nil))))
            (pss_cons (ps_set (i := 9) nd rfl (by first | exact Or.inl rfl | exact Or.inr rfl) (pe_call G_l_strides (hr.mono (by decide)) rfl T.g_l_strides T.f_l_strides.kp T.b_l_strides .nil pass0 (pa_cons (qv 3) (pa_cons (qv 6) (pa_cons (qv 7) (pa_cons (qv 8) pa_nil))))))
            (pss_cons (ps_set (i := 10) nd rfl (by first | exact Or.inl rfl | exact Or.inr rfl) (pe_call G_l_copied (hr.mono (by decide)) rfl T.g_l_copied T.f_l_copied.kp T.b_l_copied .nil pass0 (pa_cons (qv 7) pa_nil)))
            (pss_one (ps_for PassesOwn.never rfl (qi_range1 rfl T.z_range (pa_cons pe_int pa_nil)) (pg_name (i := 11) nd rfl (by first | exact Or.inl rfl | exact Or.inr rfl)) (pss_cons (ps_set (i := 12) nd rfl (by first | exact Or.inl rfl | exact Or.inr rfl) (pe_call G_by_strides (hr.mono (by decide)) rfl T.g_by_strides T.f_by_strides.kp T.b_by_strides .nil pass0 (pa_cons (qv 4) (pa_cons (qv 6) (pa_cons (qv 10) (pa_cons (qv 8) pa_nil))))))
                (pss_cons (ps_c (PW.pt (pw_orR (pt_not (pt_e (pe_call G_l_good (hr.mono (by decide)) rfl T.g_l_good T.f_l_good.kp T.b_l_good .nil pass0 (pa_cons (qv 12) (pa_cons (qv 9) pa_nil))))) (pw_orR (pt_c (op_neD hr) (qv 4) (qv 3)) (qw_or1 (pt_c (op_neD hr) (qv 10) (qv 7)))))) (pss_one (ps_ret pe_bl)) pss_nil)
                (pss_cons (ps_asg (pe_ix (q_ixTK (K := K) rfl) (qv 12) pe_int (fun _ _ => rfl)) (qg_tupK (K := K) (n := 3) rfl rfl (qgs_cons (pg_name (i := 13) nd rfl (by first | exact Or.inl rfl | exact Or.inr rfl)) (qgs_cons (pg_name (i := 14) nd rfl (by first | exact Or.inl rfl | exact Or.inr rfl)) (qgs_cons (pg_name (i := 15) nd rfl (by first | exact Or.inl rfl | exact Or.inr rfl)) qgs_nil)))))
                (pss_cons (ps_expr (pe_bm PySem.F.plainAttrs_list PySem.F.slot_list_append PySem.F.type_list_append q_app (qv 13) (pa_cons (pe_tup (pa_cons pe_int (pa_cons pe_int pa_nil))) pa_nil)))
                (pss_cons (ps_expr (pe_bm PySem.F.plainAttrs_list PySem.F.slot_list_append PySem.F.type_list_append q_app (qv 15) (pa_cons (pe_tup (pa_cons pe_int (pa_cons pe_int pa_nil))) pa_nil)))
                (pss_one (ps_c (PW.pt (pw_orR (pt_c (op_neD hr) (qv 13) (pe_op q_cat (pe_ix (q_ixTK (K := K) rfl) (pe_ix (q_ixTK (K := K) rfl) (qv 9) pe_int (fun _ _ => rfl)) pe_int (fun _ _ => rfl)) (pe_lst (pa_cons (pe_tup (pa_cons pe_int (pa_cons pe_int pa_nil))) pa_nil)))) (pw_orR (pt_c (op_neD hr) (qv 15) (pe_op q_cat (pe_ix (q_ixTK (K := K) rfl) (pe_ix (q_ixTK (K := K) rfl) (qv 9) pe_int (fun _ _ => rfl)) pe_int (fun _ _ => rfl)) (pe_lst (pa_cons (pe_tup (pa_cons pe_int (pa_cons pe_int pa_nil))) pa_nil)))) (qw_or1 (pt_c (op_neD hr) (qv 10) (qv 7)))))) (pss_one (ps_ret pe_bl)) pss_nil)))))))))))))))))))))
    (pss_one (ps_ret pe_bl))), ?_⟩
      walk_at "w"
      refine ⟨⟨by decide, by decide⟩, ?_⟩
      refine for_range (lo := 0) (n := (8 : Int).toNat) (fun i σ H5 => ∃ (v1 v2 v3 v4 v5 v6 v7 v8 v9 v10 v11 v12 v13 v14 v15 : Option V), σ = [some (.ref b), v1, v2, v3, v4, v5, v6, v7, v8, v9, v10, v11, v12, v13, v14, v15] ∧ SqL K H5 b (ns.map V.int)) ?_ ?_ ?_
      · exact ⟨_, _, _, _, _, _, _, _, _, _, _, _, _, _, _, rfl, hb⟩
      · rintro i σ H5 hi ⟨v1, v2, v3, v4, v5, v6, v7, v8, v9, v10, v11, v12, v13, v14, v15, rfl, hb5⟩
        have hi : i < 8 := hi
        walk_at "w"
        refine ⟨ns, hb5, ⟨by omega, by omega⟩, fun pp H6 n6 c m6 S6 npp e6 hm6 => ?_⟩
        have m60 : 0 ≤ m6 ∧ m6 ≤ 10000 := by omega
        walk_at "w"
        refine ⟨n6, c, m6, e6, ⟨by omega, by omega⟩, fun t mm H7 n7 m7 P7 e7 b70 b71 hm7 hM nt => ?_⟩
        have M := OkM.of hM
        have := M.n1; have := M.n4; have := M.s2; have := M.s4
        walk_at "w"
        refine ⟨mm, hm7, M.n4, fun th H8 S8 hm8 => ?_⟩
        have P8 := P7.sub S8
        have e8 := S8 _ _ e7
        have ht8 := hm7.stay (.sub S8)
        walk_at "w"
        refine ⟨⟨by decide, by decide⟩, ?_⟩
        refine for_range (lo := 0) (n := (3 : Int).toNat) (fun j σ H9 => ∃ (v5 v6 v7 v8 v9 v10 v11 v12 v13 v14 v15 : Option V) (n9 m9 : Int), σ = [some (.ref b), some (.int (0 + i)), some (.ref pp), some (.ref t), some (.ref th), v5, v6, v7, v8, v9, v10, v11, v12, v13, v14, v15] ∧ P3 pp c H6 H9 ∧ H9 pp = some (.lst [.int n9, .int c, .int m9]) ∧ 0 ≤ m9 ∧ m9 ≤ 20000 + 1000 * j ∧ Mach H9 t mm ∧ Mach H9 th mm) ?_ ?_ ?_
        · exact ⟨_, _, _, _, _, _, _, _, _, _, _, n7, m7, rfl, P8, e8, by omega, by omega, ht8, hm8⟩
        · rintro j σ H9 hj ⟨v5, v6, v7, v8, v9, v10, v11, v12, v13, v14, v15, n9, m9, rfl, P9, e9, b90, b91, ht9, hh9⟩
          have hj : j < 3 := hj
          obtain ⟨vs9, hv9, hvl9⟩ := mach_len ht9
          walk_at "w"
          refine ⟨_, .inl (SqL.of hv9), ?_⟩
          rw [hvl9]
          walk_at "w"
          refine ⟨lg (by omega) (by omega), _, _, _, e9, ⟨by omega, by omega⟩, fun d10 n10 m10 d100 d101 u100 u101 => ?_⟩
          have P10 := P9.draw n10 m10
          have Q10 := P3.of_draw n10 m10 e9
          generalize hg10 : upd _ pp _ = H10 at P10 Q10 ⊢
          have e10 : H10 pp = some (.lst [.int n10, .int c, .int m10]) := by rw [← hg10]; exact upd_same
          clear hg10
          walk_at "w"
          have ht10 := ht9.stay Q10.stay
          have hh10 := hh9.stay Q10.stay
          refine ⟨Nat.zero_le _, ?_⟩
          intro p11 n11
          generalize hU11 : upd _ p11 _ = H11
          obtain ⟨S11, e11⟩ := upd_sub n11 hU11
          clear hU11
          walk_at "w"
          refine ⟨Nat.zero_le _, ?_⟩
          intro p12 n12
          generalize hU12 : upd _ p12 _ = H12
          obtain ⟨S12, e12⟩ := upd_sub n12 hU12
          clear hU12
          walk_at "w"
          refine ⟨by show 3 ≤ sizeLine; decide, ?_⟩
          intro p13 n13
          generalize hU13 : upd _ p13 _ = H13
          obtain ⟨S13, e13⟩ := upd_sub n13 hU13
          clear hU13
          have S1013 := (S11.trans S12).trans S13
          have P13 := P10.sub S1013
          have F13 := e13
          have e13 := S1013 _ _ e10
          have ht13 := ht10.stay (.sub S1013)
          have hh13 := hh10.stay (.sub S1013)
          have la13 : Strip H13 p11 ([] : Mk2).reverse := ⟨[], S13 _ _ (S12 _ _ e11), .nil⟩
          have lb13 : Strip H13 p12 [] := ⟨[], S13 _ _ e12, .nil⟩
          walk_at "w"
          refine ⟨by decide, _, _, _, e13, ⟨by omega, by omega⟩, fun d14 n14 m14 d140 d141 u140 u141 => ?_⟩
          have P14 := P13.draw n14 m14
          have Q14 := P3.of_draw n14 m14 e13
          generalize hg14 : upd _ pp _ = H14 at P14 Q14 ⊢
          have e14 : H14 pp = some (.lst [.int n14, .int c, .int m14]) := by rw [← hg14]; exact upd_same
          clear hg14
          walk_at "w"
          have ht14 := ht13.stay Q14.stay
          have hh14 := hh13.stay Q14.stay
          refine ifB.dec (fun zz => ?ra) (fun zz => ?rb)
          case' ra =>
            obtain ⟨vs, us, r0, q1, q2, q3, q4⟩ := mach_row0 ht14 M
            walk_at "w"
            refine ⟨_, _, SqL.of q1, q2, ?_⟩
            walk_at "w"
            refine ⟨_, .inl (SqL.of q3), ?_⟩
            rw [q4]
            walk_at "w"
            refine ⟨n14, c, m14, e14, ⟨by omega, by omega⟩, ⟨by omega, by omega⟩, fun qr la lb s' L R H15 n15 m15 P15 e15 c0 c1 hqr hla hlb wL wR gL gR sb bLR => ?_⟩
            have PX := P14.trans P15
            have htX := ht14.stay P15.stay
            have hhX := hh14.stay P15.stay
            have X : OkX mm ⟨d10, s', L, R, 0⟩ := ⟨d100, d101, sb.1, sb.2, wL, wR, gL, gR⟩
            obtain ⟨bL, bR⟩ := bLR
            have mX0 : 0 ≤ m15 := by omega
            have mX : m15 ≤ 20000 + 1000 * j + 600 := by omega
          case' rb =>
            obtain ⟨qr, hqr'⟩ : ∃ qr, qr = p13 := ⟨p13, rfl⟩
            obtain ⟨la, hla'⟩ : ∃ la, la = p11 := ⟨p11, rfl⟩
            obtain ⟨lb, hlb'⟩ : ∃ lb, lb = p12 := ⟨p12, rfl⟩
            obtain ⟨s', hs0⟩ : ∃ s' : Int, s' = 0 := ⟨0, rfl⟩
            obtain ⟨L, hL0⟩ : ∃ L : Mk2, L = [] := ⟨[], rfl⟩
            obtain ⟨R, hR0⟩ : ∃ R : Mk2, R = [] := ⟨[], rfl⟩
            have ne13 : p13 ≠ pp := by rintro rfl; rw [S12 _ _ (S11 _ _ e10)] at n13; cases n13
            have hqr := Q14.keep _ _ ne13 F13
            have hla := la13.stay Q14.stay
            have hlb := lb13.stay Q14.stay
            rw [← hla', ← hlb', ← hs0] at hqr
            rw [← hL0, ← hla'] at hla
            rw [← hR0, ← hlb'] at hlb
            rw [← hqr'] at hqr ⊢
            obtain ⟨n15, hn15⟩ : ∃ x, x = n14 := ⟨n14, rfl⟩
            obtain ⟨m15, hm15⟩ : ∃ x, x = m14 := ⟨m14, rfl⟩
            have e15 := e14
            rw [← hn15, ← hm15] at e15
            have PX := P14
            have htX := ht14
            have hhX := hh14
            have X : OkX mm ⟨d10, s', L, R, 0⟩ := by
              subst hs0 hL0 hR0
              exact ⟨d100, d101, Int.le_refl _, by show (0 : Int) < _; omega, trivial, trivial, (fun q hq => by cases hq), (fun q hq => by cases hq)⟩
            have bL : L.length ≤ 8 := by rw [hL0]; decide
            have bR : R.length ≤ 8 := by rw [hR0]; decide
            have mX0 : 0 ≤ m15 := by omega
            have mX : m15 ≤ 20000 + 1000 * j + 600 := by omega
          all_goals
            walk_at "w"
            refine ⟨by show 3 ≤ sizeLine; decide, ?_⟩
            intro p16 n16
            generalize hU16 : upd _ p16 _ = H16
            obtain ⟨S16, e16⟩ := upd_sub n16 hU16
            clear hU16
            have P16 := PX.sub S16
            have L16 : H16 p16 = some (.lst (([13, 61, 501] : List Int).map V.int)) := e16
            have e16 := S16 _ _ e15
            have np16 : p16 ≠ pp := by rintro rfl; rw [e15] at n16; cases n16
            have u150 : (0 : Int) ≤ 0 := Int.le_refl _
            walk_at "w"
            refine ⟨by decide, _, _, _, e16, ⟨by omega, by omega⟩, fun d17 n17 m17 d170 d171 u170 u171 => ?_⟩
            have P17 := P16.draw n17 m17
            have Q17 := P3.of_draw n17 m17 e16
            generalize hg17 : upd _ pp _ = H17 at P17 Q17 ⊢
            have e17 : H17 pp = some (.lst [.int n17, .int c, .int m17]) := by rw [← hg17]; exact upd_same
            clear hg17
            walk_at "w"
            obtain ⟨yy, hyy, yy0, yy1⟩ : ∃ y : Int, atI (([13, 61, 501] : List Int).map V.int) d17 = some (.int y) ∧ 0 < y ∧ y ≤ 501 := by
              have : d17 = 0 ∨ d17 = 1 ∨ d17 = 2 := by omega
              rcases this with rfl | rfl | rfl
              · exact ⟨13, rfl, by decide, by decide⟩
              · exact ⟨61, rfl, by decide, by decide⟩
              · exact ⟨501, rfl, by decide, by decide⟩
            refine ⟨_, _, SqL.of (Q17.keep _ _ np16 L16), hyy, ?_⟩
            walk_at "w"
            refine ⟨lg (by omega) (by omega), _, _, _, e17, ⟨by omega, by omega⟩, fun d18 n18 m18 d180 d181 u180 u181 => ?_⟩
            have P18 := P17.draw n18 m18
            have Q18 := P3.of_draw n18 m18 e17
            generalize hg18 : upd _ pp _ = H18 at P18 Q18 ⊢
            have e18 : H18 pp = some (.lst [.int n18, .int c, .int m18]) := by rw [← hg18]; exact upd_same
            clear hg18
            walk_at "w"
            have ht18 := ((htX.stay (.sub S16)).stay Q17.stay).stay Q18.stay
            have hh18 := ((hhX.stay (.sub S16)).stay Q17.stay).stay Q18.stay
            have hqr18 := Q18.stay.tup _ _ (Q17.stay.tup _ _ (S16 _ _ hqr))
            have hla18 := ((hla.stay (.sub S16)).stay Q17.stay).stay Q18.stay
            have hlb18 := ((hlb.stay (.sub S16)).stay Q17.stay).stay Q18.stay
            refine ⟨mm, la, lb, s', L, R, ht18, hM, hqr18, hla18, hlb18, X, ⟨by omega, by omega⟩, ⟨d180, by omega⟩, fun qd zd lad lbd y H19 hy S19 hqd hzd hlad hlbd => ?_⟩
            walk_at "w"
            refine ⟨la, lb, s', L.reverse, R, S19 _ _ hqr18, hla18.sub S19, hlb18.sub S19, fun qg lag lbg H20 S20 hqg hlag hlbg => ?_⟩
            have S1820 := S19.trans S20
            walk_at "w"
            refine ⟨⟨by decide, by decide⟩, ?_⟩
            refine for_range (lo := 0) (n := (2 : Int).toNat) (fun l σ H21 => ∃ (v11 v12 v13 v14 v15 : Option V), σ = [some (.ref b), some (.int (0 + i)), some (.ref pp), some (.ref t), some (.ref th), some (.int (0 + j)), some (.int d10), some (.ref qr), some (.int d18), some (.ref qd), some (.ref qg), v11, v12, v13, v14, v15] ∧ Sub H20 H21) ?_ ?_ ?_
            · exact ⟨_, _, _, _, _, rfl, Sub.refl⟩
            · rintro l σ H21 hl' ⟨v11, v12, v13, v14, v15, rfl, S21⟩
              have U21 := S1820.trans S21
              walk_at "w"
              refine ⟨mm, lag, lbg, s', L, R, hh18.stay (.sub U21), hM, S21 _ _ hqg, hlag.sub S21, hlbg.sub S21, X, ⟨by omega, by omega⟩, ⟨d180, by omega⟩, fun qf zf laf lbf y2 H22 hy2 S22 hqf hzf hlaf hlbf nlaf nlbf nab => ?_⟩
              have hyy2 : y2 = y := hy2.trans hy.symm
              subst hyy2
              have S2022 := S21.trans S22
              have S1922 := S20.trans S2022
              walk_at "w"
              refine ⟨wdS mm y2, y2.steps, y2.row, y2.sign, y2.L.reverse, y2.R, zf, laf, lbf, zd, lad, lbd, hqf, hzf, hlaf, hlbf, S1922 _ _ hqd, S1922 _ _ hzd, hlad.sub S1922, hlbd.sub S1922, fun H23 S23 => ?_⟩
              have S2023 := S2022.trans S23
              have S1823 := S1820.trans S2023
              have S1923 := S1922.trans S23
              have hqf23 := S23 _ _ hqf
              have hzf23 := S23 _ _ hzf
              walk_at "w"
              refine ifB.no rfl ?_
              walk_at "w"
              refine ⟨_, _, Mach.den (hh18.stay (.sub S1823)), Mach.den (ht18.stay (.sub S1823)), dep_dM, ?_⟩
              rw [eqD_refl]
              walk_at "w"
              refine ifB.no rfl ?_
              walk_at "w"
              refine ⟨_, _, den3 (S2023 _ _ hqg) (hlag.sub S2023) (hlbg.sub S2023), den3 (S1823 _ _ hqr18) (hla18.sub S1823) (hlb18.sub S1823), dep_d3 _ _ _, ?_⟩
              rw [eqD_refl]
              walk_at "w"
              refine ifB.no rfl ?_
              walk_at "w"
              refine ⟨_, _, SqT.of hqf23, atI_nat (j := 3) rfl, ?_⟩
              walk_at "w"
              refine ⟨_, SqT.of hzf23, rfl, ?_⟩
              have kx : (y2.L.length ≤ 700 ∧ y2.R.length ≤ 700) := by
                have := go_len_le (m := mm) d18.toNat ⟨d10, s', L, R, 0⟩ 8 bL bR
                rw [← hy2] at this
                omega
              obtain ⟨asf, haf, hAf⟩ := hlaf.sub S23
              walk_at "w"
              refine ⟨.inl ⟨rfl, _, SqL.of haf⟩, ?_⟩
              walk_at "w"
              refine ⟨by show 2 ≤ sizeLine; decide, ?_⟩
              intro p24 n24
              generalize hU24 : upd _ p24 _ = H24
              obtain ⟨S24, e24⟩ := upd_sub n24 hU24
              clear hU24
              walk_at "w"
              refine ⟨_, S24 _ _ haf, by rw [List.length_map, hAf.1, List.length_map, List.length_reverse]; exact Nat.lt_of_le_of_lt kx.1 (by decide), ?_⟩
              obtain ⟨F25, A25⟩ := sa_app (q := (9, 8)) (S24 _ _ haf) (hAf.mono fun _ _ _ z => S24 _ _ z) e24
              have hbf25 := strip_upd (us := asf.map V.ref ++ [V.ref p24]) (hlbf.sub (S23.trans S24)) (S24 _ _ haf) (Ne.symm nab)
              have S2025 := ((S2023.trans S24).upd (o := .lst (asf.map V.ref ++ [V.ref p24])) (S21.free nlaf))
              have hlf25 : Strip _ laf (y2.L.reverse ++ [(9, 8)]) := ⟨_, F25, A25⟩
              clear F25 A25
              generalize upd H24 laf _ = H25 at hlf25 hbf25 S2025 ⊢
              obtain ⟨bsf, hbf, hBf⟩ := hbf25
              walk_at "w"
              refine ⟨.inl ⟨rfl, _, SqL.of hbf⟩, ?_⟩
              walk_at "w"
              refine ⟨by show 2 ≤ sizeLine; decide, ?_⟩
              intro p26 n26
              generalize hU26 : upd _ p26 _ = H26
              obtain ⟨S26, e26⟩ := upd_sub n26 hU26
              clear hU26
              walk_at "w"
              refine ⟨_, S26 _ _ hbf, by rw [List.length_map, hBf.1, List.length_map]; exact Nat.lt_of_le_of_lt kx.2 (by decide), ?_⟩
              obtain ⟨F27, A27⟩ := sa_app (q := (9, 9)) (S26 _ _ hbf) (hBf.mono fun _ _ _ z => S26 _ _ z) e26
              have hrf27 : Strip _ lbf (y2.R ++ [(9, 9)]) := ⟨_, F27, A27⟩
              have hlf27 := strip_upd (us := bsf.map V.ref ++ [V.ref p26]) (hlf25.sub S26) (S26 _ _ hbf) nab
              have S2027 := ((S2025.trans S26).upd (o := .lst (bsf.map V.ref ++ [V.ref p26])) (S21.free nlbf))
              clear F27 A27
              generalize upd H26 lbf _ = H27 at hrf27 hlf27 S2027 ⊢
              have S1927 := S20.trans S2027
              have S1827 := S1820.trans S2027
              obtain ⟨asd, had, hAd⟩ := hlad.sub S1927
              obtain ⟨bsd, hbd, hBd⟩ := hlbd.sub S1927
              have T27 : Sub H27 H27 := Sub.refl
              walk_at "w"
              refine ⟨_, _, SqT.of (S1927 _ _ hqd), atI_nat (j := 3) rfl, ?_⟩
              walk_at "w"
              refine ⟨_, _, SqT.of (S1927 _ _ hzd), atI_nat (j := 0) rfl, ?_⟩
              walk_at "w"
              refine ⟨by show 2 ≤ sizeLine; decide, ?_⟩
              intro p28 n28
              generalize hU28 : upd _ p28 _ = H28
              obtain ⟨S28, e28⟩ := upd_sub n28 hU28
              clear hU28
              have T28 := T27.trans S28
              walk_at "w"
              refine ⟨by show 1 ≤ sizeLine; decide, ?_⟩
              intro p29 n29
              generalize hU29 : upd _ p29 _ = H29
              obtain ⟨S29, e29⟩ := upd_sub n29 hU29
              clear hU29
              have T29 := T28.trans S29
              walk_at "w"
              refine ⟨_, _, T29 _ _ had, e29, by rw [List.length_map, hAd.1, List.length_map, List.length_reverse]; exact Nat.le_trans (Nat.add_le_add_right kx.1 1) (by decide), ?_⟩
              intro p30 n30
              generalize hU30 : upd _ p30 _ = H30
              obtain ⟨S30, e30⟩ := upd_sub n30 hU30
              clear hU30
              have T30 := T29.trans S30
              have c30 := strip_cat (q := (9, 8)) e30 (hAd.mono fun _ _ _ z => T30 _ _ z) (S30 _ _ (S29 _ _ e28))
              walk_at "w"
              refine ⟨_, _, Strip.den (hlf27.sub T30), Strip.den c30, dep_dLs _, ?_⟩
              rw [eqD_refl]
              walk_at "w"
              refine ifB.no rfl ?_
              walk_at "w"
              refine ⟨_, _, SqT.of (T30 _ _ (S1927 _ _ hqd)), atI_nat (j := 3) rfl, ?_⟩
              walk_at "w"
              refine ⟨_, _, SqT.of (T30 _ _ (S1927 _ _ hzd)), atI_nat (j := 2) rfl, ?_⟩
              walk_at "w"
              refine ⟨by show 2 ≤ sizeLine; decide, ?_⟩
              intro p31 n31
              generalize hU31 : upd _ p31 _ = H31
              obtain ⟨S31, e31⟩ := upd_sub n31 hU31
              clear hU31
              have T31 := T30.trans S31
              walk_at "w"
              refine ⟨by show 1 ≤ sizeLine; decide, ?_⟩
              intro p32 n32
              generalize hU32 : upd _ p32 _ = H32
              obtain ⟨S32, e32⟩ := upd_sub n32 hU32
              clear hU32
              have T32 := T31.trans S32
              walk_at "w"
              refine ⟨_, _, T32 _ _ hbd, e32, by rw [List.length_map, hBd.1, List.length_map]; exact Nat.le_trans (Nat.add_le_add_right kx.2 1) (by decide), ?_⟩
              intro p33 n33
              generalize hU33 : upd _ p33 _ = H33
              obtain ⟨S33, e33⟩ := upd_sub n33 hU33
              clear hU33
              have T33 := T32.trans S33
              have c33 := strip_cat (q := (9, 9)) e33 (hBd.mono fun _ _ _ z => T33 _ _ z) (S33 _ _ (S32 _ _ e31))
              walk_at "w"
              refine ⟨_, _, Strip.den (hrf27.sub T33), Strip.den c33, dep_dLs _, ?_⟩
              rw [eqD_refl]
              walk_at "w"
              refine ifB.no rfl ?_
              have U33 := S2027.trans T33
              have V33 := S1827.trans T33
              walk_at "w"
              refine ⟨_, _, den3 (U33 _ _ hqg) (hlag.sub U33) (hlbg.sub U33), den3 (V33 _ _ hqr18) (hla18.sub V33) (hlb18.sub V33), dep_d3 _ _ _, ?_⟩
              rw [eqD_refl]
              walk_at "w"
              refine ifB.no rfl ?_
              exact ⟨_, _, _, _, _, rfl, U33⟩
            · rintro σ H21 ⟨v11, v12, v13, v14, v15, rfl, S21⟩
              have U21 := S1820.trans S21
              exact ⟨_, _, _, _, _, _, _, _, _, _, _, n18, m18, rfl, P18.sub U21, U21 _ _ e18, by omega, by omega, ht18.stay (.sub U21), hh18.stay (.sub U21)⟩
        · rintro σ H9 ⟨v5, v6, v7, v8, v9, v10, v11, v12, v13, v14, v15, n9, m9, rfl, P9, e9, b90, b91, ht9, hh9⟩
          refine ⟨_, _, _, _, _, _, _, _, _, _, _, _, _, _, _, rfl, sql_sub (fun x o e => ?_) hb5⟩
          have nx : x ≠ pp := by rintro rfl; rw [e] at npp; cases npp
          exact P9.keep _ _ nx (S6 _ _ e)
      · rintro σ H5 ⟨v1, v2, v3, v4, v5, v6, v7, v8, v9, v10, v11, v12, v13, v14, v15, rfl, hb5⟩
        exact h H5
    · exact h.elim
end
theorem all_mk {l : PySem.W.OpenLaw} {w : World} {K : PySem.W.Frag} {h : Heap} {mg : Str → Option Value} {fa : Addr} {tk_MOST_ROWS tk_LEAST_SIGNS tk_MOST_SIGNS : Tok} {x_l_at x_l_whole x_l_mixed x_l_purse x_l_draw x_is_entry x_is_row x_is_machine x_must_machine x_l_laid x_l_are_runs x_Side_lay x_Side___init__ x_Side_take_run x_Side_take x_Strider___init__ x_Strider_word x_Strider_stride x_Strider_told x_by_strides x_l_entry x_l_machine x_l_kept x_l_taken x_l_side x_l_runs x_l_copied x_l_told x_l_strides x_l_good x_law x_MillError x_NoMachine x_Side x_Strider : Addr} (X : K.In h) (G : h.Ns mainGlobals mg) (hfa : mg "law" = some (.ref fa))
    {od_l_at an_l_at od_l_whole an_l_whole od_l_mixed an_l_mixed od_l_purse an_l_purse od_l_draw an_l_draw od_is_entry an_is_entry od_is_row an_is_row od_is_machine an_is_machine od_must_machine an_must_machine od_l_laid an_l_laid od_l_are_runs an_l_are_runs od_Side_lay an_Side_lay od_Side___init__ an_Side___init__ od_Side_take_run an_Side_take_run od_Side_take an_Side_take od_Strider___init__ an_Strider___init__ od_Strider_word an_Strider_word od_Strider_stride an_Strider_stride od_Strider_told an_Strider_told od_by_strides an_by_strides od_l_entry an_l_entry od_l_machine an_l_machine od_l_kept an_l_kept od_l_taken an_l_taken od_l_side an_l_side od_l_runs an_l_runs od_l_copied an_l_copied od_l_told an_l_told od_l_strides an_l_strides od_l_good an_l_good od_law an_law : Option Addr} {sl_l_at sl_l_whole sl_l_mixed sl_l_purse sl_l_draw sl_is_entry sl_is_row sl_is_machine sl_must_machine sl_l_laid sl_l_are_runs sl_Side_lay sl_Side___init__ sl_Side_take_run sl_Side_take sl_Strider___init__ sl_Strider_word sl_Strider_stride sl_Strider_told sl_by_strides sl_l_entry sl_l_machine sl_l_kept sl_l_taken sl_l_side sl_l_runs sl_l_copied sl_l_told sl_l_strides sl_l_good sl_law : Array (Option Value)} {oc_l_at kV_l_at dc_l_at pm_l_at cd_l_at ct_l_at oc_l_whole kV_l_whole dc_l_whole pm_l_whole cd_l_whole ct_l_whole oc_l_mixed kV_l_mixed dc_l_mixed pm_l_mixed cd_l_mixed ct_l_mixed oc_l_purse kV_l_purse dc_l_purse pm_l_purse cd_l_purse ct_l_purse oc_l_draw kV_l_draw dc_l_draw pm_l_draw cd_l_draw ct_l_draw oc_is_entry kV_is_entry dc_is_entry pm_is_entry cd_is_entry ct_is_entry oc_is_row kV_is_row dc_is_row pm_is_row cd_is_row ct_is_row oc_is_machine kV_is_machine dc_is_machine pm_is_machine cd_is_machine ct_is_machine oc_must_machine kV_must_machine dc_must_machine pm_must_machine cd_must_machine ct_must_machine oc_l_laid kV_l_laid dc_l_laid pm_l_laid cd_l_laid ct_l_laid oc_l_are_runs kV_l_are_runs dc_l_are_runs pm_l_are_runs cd_l_are_runs ct_l_are_runs oc_Side_lay kV_Side_lay dc_Side_lay pm_Side_lay cd_Side_lay ct_Side_lay oc_Side___init__ kV_Side___init__ dc_Side___init__ pm_Side___init__ cd_Side___init__ ct_Side___init__ oc_Side_take_run kV_Side_take_run dc_Side_take_run pm_Side_take_run cd_Side_take_run ct_Side_take_run oc_Side_take kV_Side_take dc_Side_take pm_Side_take cd_Side_take ct_Side_take oc_Strider___init__ kV_Strider___init__ dc_Strider___init__ pm_Strider___init__ cd_Strider___init__ ct_Strider___init__ oc_Strider_word kV_Strider_word dc_Strider_word pm_Strider_word cd_Strider_word ct_Strider_word oc_Strider_stride kV_Strider_stride dc_Strider_stride pm_Strider_stride cd_Strider_stride ct_Strider_stride oc_Strider_told kV_Strider_told dc_Strider_told pm_Strider_told cd_Strider_told ct_Strider_told oc_by_strides kV_by_strides dc_by_strides pm_by_strides cd_by_strides ct_by_strides oc_l_entry kV_l_entry dc_l_entry pm_l_entry cd_l_entry ct_l_entry oc_l_machine kV_l_machine dc_l_machine pm_l_machine cd_l_machine ct_l_machine oc_l_kept kV_l_kept dc_l_kept pm_l_kept cd_l_kept ct_l_kept oc_l_taken kV_l_taken dc_l_taken pm_l_taken cd_l_taken ct_l_taken oc_l_side kV_l_side dc_l_side pm_l_side cd_l_side ct_l_side oc_l_runs kV_l_runs dc_l_runs pm_l_runs cd_l_runs ct_l_runs oc_l_copied kV_l_copied dc_l_copied pm_l_copied cd_l_copied ct_l_copied oc_l_told kV_l_told dc_l_told pm_l_told cd_l_told ct_l_told oc_l_strides kV_l_strides dc_l_strides pm_l_strides cd_l_strides ct_l_strides oc_l_good kV_l_good dc_l_good pm_l_good cd_l_good ct_l_good oc_law kV_law dc_law pm_law cd_law ct_law : Value}
    {cx_MillError cx_NoMachine : ClassData}
    (a_Side : PySem.W.nsIn K mainGlobals "Side" = some (some (.ref x_Side)))
    (pg_Side : PySem.W.plainGet K x_Side Str.empty = true)
    (hd_Side : PySem.W.hasDictIn K x_Side = true)
    (po_Side : PySem.W.plainOver K x_Side = true)
    (sa_Side : PySem.W.findIn K (.ref x_Side) "__setattr__" = some (some (.builtin "object.__setattr__")))
    (mk_Side : PySem.W.makesIn K x_Side = true)
    (kc_Side : PySem.W.keepIn K (.ref x_Side) = true)
    (n_Side_runs : PySem.W.findIn K (.ref x_Side) "runs" = some none)
    (a_Strider : PySem.W.nsIn K mainGlobals "Strider" = some (some (.ref x_Strider)))
    (pg_Strider : PySem.W.plainGet K x_Strider Str.empty = true)
    (hd_Strider : PySem.W.hasDictIn K x_Strider = true)
    (po_Strider : PySem.W.plainOver K x_Strider = true)
    (sa_Strider : PySem.W.findIn K (.ref x_Strider) "__setattr__" = some (some (.builtin "object.__setattr__")))
    (mk_Strider : PySem.W.makesIn K x_Strider = true)
    (kc_Strider : PySem.W.keepIn K (.ref x_Strider) = true)
    (n_Strider_table : PySem.W.findIn K (.ref x_Strider) "table" = some none)
    (n_Strider_row : PySem.W.findIn K (.ref x_Strider) "row" = some none)
    (n_Strider_sign : PySem.W.findIn K (.ref x_Strider) "sign" = some none)
    (n_Strider_sides : PySem.W.findIn K (.ref x_Strider) "sides" = some none)
    (n_Strider_steps : PySem.W.findIn K (.ref x_Strider) "steps" = some none)
    (a_l_at : PySem.W.nsIn K mainGlobals "_law_at" = some (some (.ref x_l_at)))
    (l_l_at : K.lookup x_l_at = some ⟨oc_l_at, od_l_at, .func (PySem.W.fnOf "_law_at" "_law_at" (defArgs s_l_at) (defBody s_l_at) (defScope s_l_at) .none kV_l_at dc_l_at pm_l_at an_l_at cd_l_at ct_l_at), sl_l_at⟩)
    (c_l_at : PySem.W.codeIn K cd_l_at "_law_at" = true)
    (k_l_at : PySem.W.keepIn K (.ref x_l_at) = true)
    (a_l_whole : PySem.W.nsIn K mainGlobals "_law_whole" = some (some (.ref x_l_whole)))
    (l_l_whole : K.lookup x_l_whole = some ⟨oc_l_whole, od_l_whole, .func (PySem.W.fnOf "_law_whole" "_law_whole" (defArgs s_l_whole) (defBody s_l_whole) (defScope s_l_whole) .none kV_l_whole dc_l_whole pm_l_whole an_l_whole cd_l_whole ct_l_whole), sl_l_whole⟩)
    (c_l_whole : PySem.W.codeIn K cd_l_whole "_law_whole" = true)
    (k_l_whole : PySem.W.keepIn K (.ref x_l_whole) = true)
    (a_l_mixed : PySem.W.nsIn K mainGlobals "_law_mixed" = some (some (.ref x_l_mixed)))
    (l_l_mixed : K.lookup x_l_mixed = some ⟨oc_l_mixed, od_l_mixed, .func (PySem.W.fnOf "_law_mixed" "_law_mixed" (defArgs s_l_mixed) (defBody s_l_mixed) (defScope s_l_mixed) .none kV_l_mixed dc_l_mixed pm_l_mixed an_l_mixed cd_l_mixed ct_l_mixed), sl_l_mixed⟩)
    (c_l_mixed : PySem.W.codeIn K cd_l_mixed "_law_mixed" = true)
    (k_l_mixed : PySem.W.keepIn K (.ref x_l_mixed) = true)
    (a_l_purse : PySem.W.nsIn K mainGlobals "_law_purse" = some (some (.ref x_l_purse)))
    (l_l_purse : K.lookup x_l_purse = some ⟨oc_l_purse, od_l_purse, .func (PySem.W.fnOf "_law_purse" "_law_purse" (defArgs s_l_purse) (defBody s_l_purse) (defScope s_l_purse) .none kV_l_purse dc_l_purse pm_l_purse an_l_purse cd_l_purse ct_l_purse), sl_l_purse⟩)
    (c_l_purse : PySem.W.codeIn K cd_l_purse "_law_purse" = true)
    (k_l_purse : PySem.W.keepIn K (.ref x_l_purse) = true)
    (a_l_draw : PySem.W.nsIn K mainGlobals "_law_draw" = some (some (.ref x_l_draw)))
    (l_l_draw : K.lookup x_l_draw = some ⟨oc_l_draw, od_l_draw, .func (PySem.W.fnOf "_law_draw" "_law_draw" (defArgs s_l_draw) (defBody s_l_draw) (defScope s_l_draw) .none kV_l_draw dc_l_draw pm_l_draw an_l_draw cd_l_draw ct_l_draw), sl_l_draw⟩)
    (c_l_draw : PySem.W.codeIn K cd_l_draw "_law_draw" = true)
    (k_l_draw : PySem.W.keepIn K (.ref x_l_draw) = true)
    (a_is_entry : PySem.W.nsIn K mainGlobals "is_entry" = some (some (.ref x_is_entry)))
    (l_is_entry : K.lookup x_is_entry = some ⟨oc_is_entry, od_is_entry, .func (PySem.W.fnOf "is_entry" "is_entry" (defArgs s_is_entry) (defBody s_is_entry) (defScope s_is_entry) .none kV_is_entry dc_is_entry pm_is_entry an_is_entry cd_is_entry ct_is_entry), sl_is_entry⟩)
    (c_is_entry : PySem.W.codeIn K cd_is_entry "is_entry" = true)
    (k_is_entry : PySem.W.keepIn K (.ref x_is_entry) = true)
    (a_is_row : PySem.W.nsIn K mainGlobals "is_row" = some (some (.ref x_is_row)))
    (l_is_row : K.lookup x_is_row = some ⟨oc_is_row, od_is_row, .func (PySem.W.fnOf "is_row" "is_row" (defArgs s_is_row) (defBody s_is_row) (defScope s_is_row) .none kV_is_row dc_is_row pm_is_row an_is_row cd_is_row ct_is_row), sl_is_row⟩)
    (c_is_row : PySem.W.codeIn K cd_is_row "is_row" = true)
    (k_is_row : PySem.W.keepIn K (.ref x_is_row) = true)
    (a_is_machine : PySem.W.nsIn K mainGlobals "is_machine" = some (some (.ref x_is_machine)))
    (l_is_machine : K.lookup x_is_machine = some ⟨oc_is_machine, od_is_machine, .func (PySem.W.fnOf "is_machine" "is_machine" (defArgs s_is_machine) (defBody s_is_machine) (defScope s_is_machine) .none kV_is_machine dc_is_machine pm_is_machine an_is_machine cd_is_machine ct_is_machine), sl_is_machine⟩)
    (c_is_machine : PySem.W.codeIn K cd_is_machine "is_machine" = true)
    (k_is_machine : PySem.W.keepIn K (.ref x_is_machine) = true)
    (a_must_machine : PySem.W.nsIn K mainGlobals "must_machine" = some (some (.ref x_must_machine)))
    (l_must_machine : K.lookup x_must_machine = some ⟨oc_must_machine, od_must_machine, .func (PySem.W.fnOf "must_machine" "must_machine" (defArgs s_must_machine) (defBody s_must_machine) (defScope s_must_machine) .none kV_must_machine dc_must_machine pm_must_machine an_must_machine cd_must_machine ct_must_machine), sl_must_machine⟩)
    (c_must_machine : PySem.W.codeIn K cd_must_machine "must_machine" = true)
    (k_must_machine : PySem.W.keepIn K (.ref x_must_machine) = true)
    (a_l_laid : PySem.W.nsIn K mainGlobals "_law_laid" = some (some (.ref x_l_laid)))
    (l_l_laid : K.lookup x_l_laid = some ⟨oc_l_laid, od_l_laid, .func (PySem.W.fnOf "_law_laid" "_law_laid" (defArgs s_l_laid) (defBody s_l_laid) (defScope s_l_laid) .none kV_l_laid dc_l_laid pm_l_laid an_l_laid cd_l_laid ct_l_laid), sl_l_laid⟩)
    (c_l_laid : PySem.W.codeIn K cd_l_laid "_law_laid" = true)
    (k_l_laid : PySem.W.keepIn K (.ref x_l_laid) = true)
    (a_l_are_runs : PySem.W.nsIn K mainGlobals "_law_are_runs" = some (some (.ref x_l_are_runs)))
    (l_l_are_runs : K.lookup x_l_are_runs = some ⟨oc_l_are_runs, od_l_are_runs, .func (PySem.W.fnOf "_law_are_runs" "_law_are_runs" (defArgs s_l_are_runs) (defBody s_l_are_runs) (defScope s_l_are_runs) .none kV_l_are_runs dc_l_are_runs pm_l_are_runs an_l_are_runs cd_l_are_runs ct_l_are_runs), sl_l_are_runs⟩)
    (c_l_are_runs : PySem.W.codeIn K cd_l_are_runs "_law_are_runs" = true)
    (k_l_are_runs : PySem.W.keepIn K (.ref x_l_are_runs) = true)
    (a_Side_lay : PySem.W.findIn K (.ref x_Side) "lay" = some (some (.ref x_Side_lay)))
    (i_Side_lay : PySem.W.isFn K (.ref x_Side_lay) = true)
    (l_Side_lay : K.lookup x_Side_lay = some ⟨oc_Side_lay, od_Side_lay, .func (PySem.W.fnOf "lay" "Side.lay" (defArgs s_Side_lay) (defBody s_Side_lay) (defScope s_Side_lay) .none kV_Side_lay dc_Side_lay pm_Side_lay an_Side_lay cd_Side_lay ct_Side_lay), sl_Side_lay⟩)
    (c_Side_lay : PySem.W.codeIn K cd_Side_lay "Side.lay" = true)
    (k_Side_lay : PySem.W.keepIn K (.ref x_Side_lay) = true)
    (a_Side___init__ : PySem.W.findIn K (.ref x_Side) "__init__" = some (some (.ref x_Side___init__)))
    (i_Side___init__ : PySem.W.isFn K (.ref x_Side___init__) = true)
    (l_Side___init__ : K.lookup x_Side___init__ = some ⟨oc_Side___init__, od_Side___init__, .func (PySem.W.fnOf "__init__" "Side.__init__" (defArgs s_Side___init__) (defBody s_Side___init__) (defScope s_Side___init__) .none kV_Side___init__ dc_Side___init__ pm_Side___init__ an_Side___init__ cd_Side___init__ ct_Side___init__), sl_Side___init__⟩)
    (c_Side___init__ : PySem.W.codeIn K cd_Side___init__ "Side.__init__" = true)
    (k_Side___init__ : PySem.W.keepIn K (.ref x_Side___init__) = true)
    (a_Side_take_run : PySem.W.findIn K (.ref x_Side) "take_run" = some (some (.ref x_Side_take_run)))
    (i_Side_take_run : PySem.W.isFn K (.ref x_Side_take_run) = true)
    (l_Side_take_run : K.lookup x_Side_take_run = some ⟨oc_Side_take_run, od_Side_take_run, .func (PySem.W.fnOf "take_run" "Side.take_run" (defArgs s_Side_take_run) (defBody s_Side_take_run) (defScope s_Side_take_run) .none kV_Side_take_run dc_Side_take_run pm_Side_take_run an_Side_take_run cd_Side_take_run ct_Side_take_run), sl_Side_take_run⟩)
    (c_Side_take_run : PySem.W.codeIn K cd_Side_take_run "Side.take_run" = true)
    (k_Side_take_run : PySem.W.keepIn K (.ref x_Side_take_run) = true)
    (a_Side_take : PySem.W.findIn K (.ref x_Side) "take" = some (some (.ref x_Side_take)))
    (i_Side_take : PySem.W.isFn K (.ref x_Side_take) = true)
    (l_Side_take : K.lookup x_Side_take = some ⟨oc_Side_take, od_Side_take, .func (PySem.W.fnOf "take" "Side.take" (defArgs s_Side_take) (defBody s_Side_take) (defScope s_Side_take) .none kV_Side_take dc_Side_take pm_Side_take an_Side_take cd_Side_take ct_Side_take), sl_Side_take⟩)
    (c_Side_take : PySem.W.codeIn K cd_Side_take "Side.take" = true)
    (k_Side_take : PySem.W.keepIn K (.ref x_Side_take) = true)
    (a_Strider___init__ : PySem.W.findIn K (.ref x_Strider) "__init__" = some (some (.ref x_Strider___init__)))
    (i_Strider___init__ : PySem.W.isFn K (.ref x_Strider___init__) = true)
    (l_Strider___init__ : K.lookup x_Strider___init__ = some ⟨oc_Strider___init__, od_Strider___init__, .func (PySem.W.fnOf "__init__" "Strider.__init__" (defArgs s_Strider___init__) (defBody s_Strider___init__) (defScope s_Strider___init__) .none kV_Strider___init__ dc_Strider___init__ pm_Strider___init__ an_Strider___init__ cd_Strider___init__ ct_Strider___init__), sl_Strider___init__⟩)
    (c_Strider___init__ : PySem.W.codeIn K cd_Strider___init__ "Strider.__init__" = true)
    (k_Strider___init__ : PySem.W.keepIn K (.ref x_Strider___init__) = true)
    (a_Strider_word : PySem.W.findIn K (.ref x_Strider) "word" = some (some (.ref x_Strider_word)))
    (i_Strider_word : PySem.W.isFn K (.ref x_Strider_word) = true)
    (l_Strider_word : K.lookup x_Strider_word = some ⟨oc_Strider_word, od_Strider_word, .func (PySem.W.fnOf "word" "Strider.word" (defArgs s_Strider_word) (defBody s_Strider_word) (defScope s_Strider_word) .none kV_Strider_word dc_Strider_word pm_Strider_word an_Strider_word cd_Strider_word ct_Strider_word), sl_Strider_word⟩)
    (c_Strider_word : PySem.W.codeIn K cd_Strider_word "Strider.word" = true)
    (k_Strider_word : PySem.W.keepIn K (.ref x_Strider_word) = true)
    (a_Strider_stride : PySem.W.findIn K (.ref x_Strider) "stride" = some (some (.ref x_Strider_stride)))
    (i_Strider_stride : PySem.W.isFn K (.ref x_Strider_stride) = true)
    (l_Strider_stride : K.lookup x_Strider_stride = some ⟨oc_Strider_stride, od_Strider_stride, .func (PySem.W.fnOf "stride" "Strider.stride" (defArgs s_Strider_stride) (defBody s_Strider_stride) (defScope s_Strider_stride) .none kV_Strider_stride dc_Strider_stride pm_Strider_stride an_Strider_stride cd_Strider_stride ct_Strider_stride), sl_Strider_stride⟩)
    (c_Strider_stride : PySem.W.codeIn K cd_Strider_stride "Strider.stride" = true)
    (k_Strider_stride : PySem.W.keepIn K (.ref x_Strider_stride) = true)
    (a_Strider_told : PySem.W.findIn K (.ref x_Strider) "told" = some (some (.ref x_Strider_told)))
    (i_Strider_told : PySem.W.isFn K (.ref x_Strider_told) = true)
    (l_Strider_told : K.lookup x_Strider_told = some ⟨oc_Strider_told, od_Strider_told, .func (PySem.W.fnOf "told" "Strider.told" (defArgs s_Strider_told) (defBody s_Strider_told) (defScope s_Strider_told) .none kV_Strider_told dc_Strider_told pm_Strider_told an_Strider_told cd_Strider_told ct_Strider_told), sl_Strider_told⟩)
    (c_Strider_told : PySem.W.codeIn K cd_Strider_told "Strider.told" = true)
    (k_Strider_told : PySem.W.keepIn K (.ref x_Strider_told) = true)
    (a_by_strides : PySem.W.nsIn K mainGlobals "by_strides" = some (some (.ref x_by_strides)))
    (l_by_strides : K.lookup x_by_strides = some ⟨oc_by_strides, od_by_strides, .func (PySem.W.fnOf "by_strides" "by_strides" (defArgs s_by_strides) (defBody s_by_strides) (defScope s_by_strides) .none kV_by_strides dc_by_strides pm_by_strides an_by_strides cd_by_strides ct_by_strides), sl_by_strides⟩)
    (c_by_strides : PySem.W.codeIn K cd_by_strides "by_strides" = true)
    (k_by_strides : PySem.W.keepIn K (.ref x_by_strides) = true)
    (a_l_entry : PySem.W.nsIn K mainGlobals "_law_entry" = some (some (.ref x_l_entry)))
    (l_l_entry : K.lookup x_l_entry = some ⟨oc_l_entry, od_l_entry, .func (PySem.W.fnOf "_law_entry" "_law_entry" (defArgs s_l_entry) (defBody s_l_entry) (defScope s_l_entry) .none kV_l_entry dc_l_entry pm_l_entry an_l_entry cd_l_entry ct_l_entry), sl_l_entry⟩)
    (c_l_entry : PySem.W.codeIn K cd_l_entry "_law_entry" = true)
    (k_l_entry : PySem.W.keepIn K (.ref x_l_entry) = true)
    (a_l_machine : PySem.W.nsIn K mainGlobals "_law_machine" = some (some (.ref x_l_machine)))
    (l_l_machine : K.lookup x_l_machine = some ⟨oc_l_machine, od_l_machine, .func (PySem.W.fnOf "_law_machine" "_law_machine" (defArgs s_l_machine) (defBody s_l_machine) (defScope s_l_machine) .none kV_l_machine dc_l_machine pm_l_machine an_l_machine cd_l_machine ct_l_machine), sl_l_machine⟩)
    (c_l_machine : PySem.W.codeIn K cd_l_machine "_law_machine" = true)
    (k_l_machine : PySem.W.keepIn K (.ref x_l_machine) = true)
    (a_l_kept : PySem.W.nsIn K mainGlobals "_law_kept" = some (some (.ref x_l_kept)))
    (l_l_kept : K.lookup x_l_kept = some ⟨oc_l_kept, od_l_kept, .func (PySem.W.fnOf "_law_kept" "_law_kept" (defArgs s_l_kept) (defBody s_l_kept) (defScope s_l_kept) .none kV_l_kept dc_l_kept pm_l_kept an_l_kept cd_l_kept ct_l_kept), sl_l_kept⟩)
    (c_l_kept : PySem.W.codeIn K cd_l_kept "_law_kept" = true)
    (k_l_kept : PySem.W.keepIn K (.ref x_l_kept) = true)
    (a_l_taken : PySem.W.nsIn K mainGlobals "_law_taken" = some (some (.ref x_l_taken)))
    (l_l_taken : K.lookup x_l_taken = some ⟨oc_l_taken, od_l_taken, .func (PySem.W.fnOf "_law_taken" "_law_taken" (defArgs s_l_taken) (defBody s_l_taken) (defScope s_l_taken) .none kV_l_taken dc_l_taken pm_l_taken an_l_taken cd_l_taken ct_l_taken), sl_l_taken⟩)
    (c_l_taken : PySem.W.codeIn K cd_l_taken "_law_taken" = true)
    (k_l_taken : PySem.W.keepIn K (.ref x_l_taken) = true)
    (a_l_side : PySem.W.nsIn K mainGlobals "_law_side" = some (some (.ref x_l_side)))
    (l_l_side : K.lookup x_l_side = some ⟨oc_l_side, od_l_side, .func (PySem.W.fnOf "_law_side" "_law_side" (defArgs s_l_side) (defBody s_l_side) (defScope s_l_side) .none kV_l_side dc_l_side pm_l_side an_l_side cd_l_side ct_l_side), sl_l_side⟩)
    (c_l_side : PySem.W.codeIn K cd_l_side "_law_side" = true)
    (k_l_side : PySem.W.keepIn K (.ref x_l_side) = true)
    (a_l_runs : PySem.W.nsIn K mainGlobals "_law_runs" = some (some (.ref x_l_runs)))
    (l_l_runs : K.lookup x_l_runs = some ⟨oc_l_runs, od_l_runs, .func (PySem.W.fnOf "_law_runs" "_law_runs" (defArgs s_l_runs) (defBody s_l_runs) (defScope s_l_runs) .none kV_l_runs dc_l_runs pm_l_runs an_l_runs cd_l_runs ct_l_runs), sl_l_runs⟩)
    (c_l_runs : PySem.W.codeIn K cd_l_runs "_law_runs" = true)
    (k_l_runs : PySem.W.keepIn K (.ref x_l_runs) = true)
    (a_l_copied : PySem.W.nsIn K mainGlobals "_law_copied" = some (some (.ref x_l_copied)))
    (l_l_copied : K.lookup x_l_copied = some ⟨oc_l_copied, od_l_copied, .func (PySem.W.fnOf "_law_copied" "_law_copied" (defArgs s_l_copied) (defBody s_l_copied) (defScope s_l_copied) .none kV_l_copied dc_l_copied pm_l_copied an_l_copied cd_l_copied ct_l_copied), sl_l_copied⟩)
    (c_l_copied : PySem.W.codeIn K cd_l_copied "_law_copied" = true)
    (k_l_copied : PySem.W.keepIn K (.ref x_l_copied) = true)
    (a_l_told : PySem.W.nsIn K mainGlobals "_law_told" = some (some (.ref x_l_told)))
    (l_l_told : K.lookup x_l_told = some ⟨oc_l_told, od_l_told, .func (PySem.W.fnOf "_law_told" "_law_told" (defArgs s_l_told) (defBody s_l_told) (defScope s_l_told) .none kV_l_told dc_l_told pm_l_told an_l_told cd_l_told ct_l_told), sl_l_told⟩)
    (c_l_told : PySem.W.codeIn K cd_l_told "_law_told" = true)
    (k_l_told : PySem.W.keepIn K (.ref x_l_told) = true)
    (a_l_strides : PySem.W.nsIn K mainGlobals "_law_strides" = some (some (.ref x_l_strides)))
    (l_l_strides : K.lookup x_l_strides = some ⟨oc_l_strides, od_l_strides, .func (PySem.W.fnOf "_law_strides" "_law_strides" (defArgs s_l_strides) (defBody s_l_strides) (defScope s_l_strides) .none kV_l_strides dc_l_strides pm_l_strides an_l_strides cd_l_strides ct_l_strides), sl_l_strides⟩)
    (c_l_strides : PySem.W.codeIn K cd_l_strides "_law_strides" = true)
    (k_l_strides : PySem.W.keepIn K (.ref x_l_strides) = true)
    (a_l_good : PySem.W.nsIn K mainGlobals "_law_good" = some (some (.ref x_l_good)))
    (l_l_good : K.lookup x_l_good = some ⟨oc_l_good, od_l_good, .func (PySem.W.fnOf "_law_good" "_law_good" (defArgs s_l_good) (defBody s_l_good) (defScope s_l_good) .none kV_l_good dc_l_good pm_l_good an_l_good cd_l_good ct_l_good), sl_l_good⟩)
    (c_l_good : PySem.W.codeIn K cd_l_good "_law_good" = true)
    (k_l_good : PySem.W.keepIn K (.ref x_l_good) = true)
    (a_law : PySem.W.nsIn K mainGlobals "law" = some (some (.ref x_law)))
    (l_law : K.lookup x_law = some ⟨oc_law, od_law, .func (PySem.W.fnOf "law" "law" (defArgs s_law) (defBody s_law) (defScope s_law) .none kV_law dc_law pm_law an_law cd_law ct_law), sl_law⟩)
    (c_law : PySem.W.codeIn K cd_law "law" = true)
    (k_law : PySem.W.keepIn K (.ref x_law) = true)
    (gt : PySem.W.specialIn K (.builtin "object.__class__") "__get__" = some (some (.builtin "getset_descriptor.__get__")))
    (tk : PySem.W.takesIn K (.builtin "object.__class__") = some true)
    (a_MillError : PySem.W.nsIn K mainGlobals "MillError" = some (some (.ref x_MillError)))
    (i_MillError : PySem.W.excIn K x_MillError veMro "ValueError.__new__" = true)
    (k_MillError : PySem.W.keepIn K (.ref x_MillError) = true)
    (ga_MillError : PySem.W.findIn K (.ref x_MillError) "__getattribute__" = some (some (.builtin "BaseException.__getattribute__")))
    (na_MillError : PySem.W.findIn K (.ref x_MillError) "__getattr__" = some none)
    (cl_MillError : PySem.W.findIn K (.ref x_MillError) "__class__" = some (some (.builtin "object.__class__")))
    (mo_MillError : PySem.W.mroIn K x_MillError (.type "object") = some true)
    (mb_MillError : PySem.W.mroIn K x_MillError (.type "BaseException") = some true)
    (ci_MillError : PySem.W.clsIn K x_MillError = some cx_MillError)
    (mr_MillError : cx_MillError.mro = [.ref x_MillError] ++ veMro)
    (ty_MillError : PySem.W.typeIn K (.ref x_MillError) = some (.type "type"))
    (a_NoMachine : PySem.W.nsIn K mainGlobals "NoMachine" = some (some (.ref x_NoMachine)))
    (i_NoMachine : PySem.W.excIn K x_NoMachine veMro "ValueError.__new__" = true)
    (k_NoMachine : PySem.W.keepIn K (.ref x_NoMachine) = true)
    (ga_NoMachine : PySem.W.findIn K (.ref x_NoMachine) "__getattribute__" = some (some (.builtin "BaseException.__getattribute__")))
    (na_NoMachine : PySem.W.findIn K (.ref x_NoMachine) "__getattr__" = some none)
    (cl_NoMachine : PySem.W.findIn K (.ref x_NoMachine) "__class__" = some (some (.builtin "object.__class__")))
    (mo_NoMachine : PySem.W.mroIn K x_NoMachine (.type "object") = some true)
    (mb_NoMachine : PySem.W.mroIn K x_NoMachine (.type "BaseException") = some true)
    (ci_NoMachine : PySem.W.clsIn K x_NoMachine = some cx_NoMachine)
    (mr_NoMachine : cx_NoMachine.mro = [.ref x_NoMachine, .ref x_MillError] ++ veMro)
    (ty_NoMachine : PySem.W.typeIn K (.ref x_NoMachine) = some (.type "type"))
    (z_range : PySem.W.nsIn K mainGlobals "range" = some none)
    (z_len : PySem.W.nsIn K mainGlobals "len" = some none)
    (z_abs : PySem.W.nsIn K mainGlobals "abs" = some none)
    (z_list : PySem.W.nsIn K mainGlobals "list" = some none)
    (z_tuple : PySem.W.nsIn K mainGlobals "tuple" = some none)
    (z_int : PySem.W.nsIn K mainGlobals "int" = some none)
    (z_bool : PySem.W.nsIn K mainGlobals "bool" = some none)
    (z_dict : PySem.W.nsIn K mainGlobals "dict" = some none)
    (z_isinstance : PySem.W.nsIn K mainGlobals "isinstance" = some none)
    (z_max : PySem.W.nsIn K mainGlobals "max" = some none)
    (z_min : PySem.W.nsIn K mainGlobals "min" = some none)
    (z_zip : PySem.W.nsIn K mainGlobals "zip" = some none)
    (z_all : PySem.W.nsIn K mainGlobals "all" = some none)
    (nd : [x_MillError, x_NoMachine].Nodup)
    (q_MOST_ROWS : PySem.W.nsIn K mainGlobals "MOST_ROWS" = some (some (.int 4 tk_MOST_ROWS)))
    (q_LEAST_SIGNS : PySem.W.nsIn K mainGlobals "LEAST_SIGNS" = some (some (.int 2 tk_LEAST_SIGNS)))
    (q_MOST_SIGNS : PySem.W.nsIn K mainGlobals "MOST_SIGNS" = some (some (.int 4 tk_MOST_SIGNS)))
    : ∃ fd : FuncData, (∀ (s : Shared) (v : Value), BindsTo s fd ⟨[v], []⟩ [("_law_script", v)]) ∧ ∀ base : Heap, K.In base → base.Ns mainGlobals mg → FnOk l.prog w K mg base CX0 7 fa fd ["_law_script"] (sp_law K) := by
  have e := hfa.symm.trans (PySem.W.mg_of X G a_law)
  have e' : x_law = fa := by cases e; rfl
  subst e'
  have F_l_at := fun_mk (st := s_l_at) l_l_at c_l_at k_l_at
  have b_l_at := F_l_at.binds (ps := ["_law_script", "_law_k"]) fun _ _ _ _ _ _ us hl => match us, hl with | [_, _], _ => rfl
  have F_l_whole := fun_mk (st := s_l_whole) l_l_whole c_l_whole k_l_whole
  have b_l_whole := F_l_whole.binds (ps := ["_law_found"]) fun _ _ _ _ _ _ us hl => match us, hl with | [_], _ => rfl
  have F_l_mixed := fun_mk (st := s_l_mixed) l_l_mixed c_l_mixed k_l_mixed
  have b_l_mixed := F_l_mixed.binds (ps := ["_law_cell", "_law_k"]) fun _ _ _ _ _ _ us hl => match us, hl with | [_, _], _ => rfl
  have F_l_purse := fun_mk (st := s_l_purse) l_l_purse c_l_purse k_l_purse
  have b_l_purse := F_l_purse.binds (ps := ["_law_script", "_law_at_here"]) fun _ _ _ _ _ _ us hl => match us, hl with | [_, _], _ => rfl
  have F_l_draw := fun_mk (st := s_l_draw) l_l_draw c_l_draw k_l_draw
  have b_l_draw := F_l_draw.binds (ps := ["_law_purse_here", "_law_out_of"]) fun _ _ _ _ _ _ us hl => match us, hl with | [_, _], _ => rfl
  have F_is_entry := fun_mk (st := s_is_entry) l_is_entry c_is_entry k_is_entry
  have b_is_entry := F_is_entry.binds (ps := ["entry", "rows", "signs"]) fun _ _ _ _ _ _ us hl => match us, hl with | [_, _, _], _ => rfl
  have F_is_row := fun_mk (st := s_is_row) l_is_row c_is_row k_is_row
  have b_is_row := F_is_row.binds (ps := ["row", "rows", "signs"]) fun _ _ _ _ _ _ us hl => match us, hl with | [_, _, _], _ => rfl
  have F_is_machine := fun_mk (st := s_is_machine) l_is_machine c_is_machine k_is_machine
  have b_is_machine := F_is_machine.binds (ps := ["machine"]) fun _ _ _ _ _ _ us hl => match us, hl with | [_], _ => rfl
  have F_must_machine := fun_mk (st := s_must_machine) l_must_machine c_must_machine k_must_machine
  have b_must_machine := F_must_machine.binds (ps := ["machine"]) fun _ _ _ _ _ _ us hl => match us, hl with | [_], _ => rfl
  have F_l_laid := fun_mk (st := s_l_laid) l_l_laid c_l_laid k_l_laid
  have b_l_laid := F_l_laid.binds (ps := ["_law_runs_here", "_law_sign", "_law_many"]) fun _ _ _ _ _ _ us hl => match us, hl with | [_, _, _], _ => rfl
  have F_l_are_runs := fun_mk (st := s_l_are_runs) l_l_are_runs c_l_are_runs k_l_are_runs
  have b_l_are_runs := F_l_are_runs.binds (ps := ["_law_runs_here"]) fun _ _ _ _ _ _ us hl => match us, hl with | [_], _ => rfl
  have F_Side_lay := fun_mk (st := s_Side_lay) l_Side_lay c_Side_lay k_Side_lay
  have b_Side_lay := F_Side_lay.binds (ps := ["self", "sign", "many"]) fun _ _ _ _ _ _ us hl => match us, hl with | [_, _, _], _ => rfl
  have F_Side___init__ := fun_mk (st := s_Side___init__) l_Side___init__ c_Side___init__ k_Side___init__
  have b_Side___init__ := F_Side___init__.binds (ps := ["self", "begin"]) fun _ _ _ _ _ _ us hl => match us, hl with | [_, _], _ => rfl
  have F_Side_take_run := fun_mk (st := s_Side_take_run) l_Side_take_run c_Side_take_run k_Side_take_run
  have b_Side_take_run := F_Side_take_run.binds (ps := ["self", "sign"]) fun _ _ _ _ _ _ us hl => match us, hl with | [_, _], _ => rfl
  have F_Side_take := fun_mk (st := s_Side_take) l_Side_take c_Side_take k_Side_take
  have b_Side_take := F_Side_take.binds (ps := ["self"]) fun _ _ _ _ _ _ us hl => match us, hl with | [_], _ => rfl
  have F_Strider___init__ := fun_mk (st := s_Strider___init__) l_Strider___init__ c_Strider___init__ k_Strider___init__
  have b_Strider___init__ := F_Strider___init__.binds (ps := ["self", "table", "row", "runs"]) fun _ _ _ _ _ _ us hl => match us, hl with | [_, _, _, _], _ => rfl
  have F_Strider_word := fun_mk (st := s_Strider_word) l_Strider_word c_Strider_word k_Strider_word
  have b_Strider_word := F_Strider_word.binds (ps := ["self"]) fun _ _ _ _ _ _ us hl => match us, hl with | [_], _ => rfl
  have F_Strider_stride := fun_mk (st := s_Strider_stride) l_Strider_stride c_Strider_stride k_Strider_stride
  have b_Strider_stride := F_Strider_stride.binds (ps := ["self"]) fun _ _ _ _ _ _ us hl => match us, hl with | [_], _ => rfl
  have F_Strider_told := fun_mk (st := s_Strider_told) l_Strider_told c_Strider_told k_Strider_told
  have b_Strider_told := F_Strider_told.binds (ps := ["self"]) fun _ _ _ _ _ _ us hl => match us, hl with | [_], _ => rfl
  have F_by_strides := fun_mk (st := s_by_strides) l_by_strides c_by_strides k_by_strides
  have b_by_strides := F_by_strides.binds (ps := ["machine", "row", "runs", "many"]) fun _ _ _ _ _ _ us hl => match us, hl with | [_, _, _, _], _ => rfl
  have F_l_entry := fun_mk (st := s_l_entry) l_l_entry c_l_entry k_l_entry
  have b_l_entry := F_l_entry.binds (ps := ["_law_purse_here", "_law_rows", "_law_signs", "_law_row", "_law_few"]) fun _ _ _ _ _ _ us hl => match us, hl with | [_, _, _, _, _], _ => rfl
  have F_l_machine := fun_mk (st := s_l_machine) l_l_machine c_l_machine k_l_machine
  have b_l_machine := F_l_machine.binds (ps := ["_law_purse_here"]) fun _ _ _ _ _ _ us hl => match us, hl with | [_], _ => rfl
  have F_l_kept := fun_mk (st := s_l_kept) l_l_kept c_l_kept k_l_kept
  have b_l_kept := F_l_kept.binds (ps := ["_law_machine_here"]) fun _ _ _ _ _ _ us hl => match us, hl with | [_], _ => rfl
  have F_l_taken := fun_mk (st := s_l_taken) l_l_taken c_l_taken k_l_taken
  have b_l_taken := F_l_taken.binds (ps := ["_law_runs_here"]) fun _ _ _ _ _ _ us hl => match us, hl with | [_], _ => rfl
  have F_l_side := fun_mk (st := s_l_side) l_l_side c_l_side k_l_side
  have b_l_side := F_l_side.binds (ps := ["_law_purse_here", "_law_signs", "_law_near_first"]) fun _ _ _ _ _ _ us hl => match us, hl with | [_, _, _], _ => rfl
  have F_l_runs := fun_mk (st := s_l_runs) l_l_runs c_l_runs k_l_runs
  have b_l_runs := F_l_runs.binds (ps := ["_law_purse_here", "_law_signs"]) fun _ _ _ _ _ _ us hl => match us, hl with | [_, _], _ => rfl
  have F_l_copied := fun_mk (st := s_l_copied) l_l_copied c_l_copied k_l_copied
  have b_l_copied := F_l_copied.binds (ps := ["_law_runs_here"]) fun _ _ _ _ _ _ us hl => match us, hl with | [_], _ => rfl
  have F_l_told := fun_mk (st := s_l_told) l_l_told c_l_told k_l_told
  have b_l_told := F_l_told.binds (ps := ["_law_sides", "_law_sign"]) fun _ _ _ _ _ _ us hl => match us, hl with | [_, _], _ => rfl
  have F_l_strides := fun_mk (st := s_l_strides) l_l_strides c_l_strides k_l_strides
  have b_l_strides := F_l_strides.binds (ps := ["_law_machine_here", "_law_row", "_law_runs_here", "_law_many"]) fun _ _ _ _ _ _ us hl => match us, hl with | [_, _, _, _], _ => rfl
  have F_l_good := fun_mk (st := s_l_good) l_l_good c_l_good k_l_good
  have b_l_good := F_l_good.binds (ps := ["_law_found", "_law_due"]) fun _ _ _ _ _ _ us hl => match us, hl with | [_, _], _ => rfl
  have F_law := fun_mk (st := s_law) l_law c_law k_law
  have b_law := F_law.binds (ps := ["_law_script"]) fun _ _ _ _ _ _ us hl => match us, hl with | [_], _ => rfl
  have T : Tx K mg ⟨x_l_at, _, x_l_whole, _, x_l_mixed, _, x_l_purse, _, x_l_draw, _, x_is_entry, _, x_is_row, _, x_is_machine, _, x_must_machine, _, x_l_laid, _, x_l_are_runs, _, x_Side_lay, _, x_Side___init__, _, x_Side_take_run, _, x_Side_take, _, x_Strider___init__, _, x_Strider_word, _, x_Strider_stride, _, x_Strider_told, _, x_by_strides, _, x_l_entry, _, x_l_machine, _, x_l_kept, _, x_l_taken, _, x_l_side, _, x_l_runs, _, x_l_copied, _, x_l_told, _, x_l_strides, _, x_l_good, _, x_law, _, x_MillError, x_NoMachine, x_Side, x_Strider⟩ := ⟨F_l_at, b_l_at, PySem.W.mg_of X G a_l_at, F_l_whole, b_l_whole, PySem.W.mg_of X G a_l_whole, F_l_mixed, b_l_mixed, PySem.W.mg_of X G a_l_mixed, F_l_purse, b_l_purse, PySem.W.mg_of X G a_l_purse, F_l_draw, b_l_draw, PySem.W.mg_of X G a_l_draw, F_is_entry, b_is_entry, PySem.W.mg_of X G a_is_entry, F_is_row, b_is_row, PySem.W.mg_of X G a_is_row, F_is_machine, b_is_machine, PySem.W.mg_of X G a_is_machine, F_must_machine, b_must_machine, PySem.W.mg_of X G a_must_machine, F_l_laid, b_l_laid, PySem.W.mg_of X G a_l_laid, F_l_are_runs, b_l_are_runs, PySem.W.mg_of X G a_l_are_runs, F_Side_lay, b_Side_lay, ⟨a_Side_lay, i_Side_lay, k_Side_lay⟩, F_Side___init__, b_Side___init__, ⟨mk_Side, a_Side___init__, i_Side___init__, kc_Side⟩, F_Side_take_run, b_Side_take_run, ⟨a_Side_take_run, i_Side_take_run, k_Side_take_run⟩, F_Side_take, b_Side_take, ⟨a_Side_take, i_Side_take, k_Side_take⟩, F_Strider___init__, b_Strider___init__, ⟨mk_Strider, a_Strider___init__, i_Strider___init__, kc_Strider⟩, F_Strider_word, b_Strider_word, ⟨a_Strider_word, i_Strider_word, k_Strider_word⟩, F_Strider_stride, b_Strider_stride, ⟨a_Strider_stride, i_Strider_stride, k_Strider_stride⟩, F_Strider_told, b_Strider_told, ⟨a_Strider_told, i_Strider_told, k_Strider_told⟩, F_by_strides, b_by_strides, PySem.W.mg_of X G a_by_strides, F_l_entry, b_l_entry, PySem.W.mg_of X G a_l_entry, F_l_machine, b_l_machine, PySem.W.mg_of X G a_l_machine, F_l_kept, b_l_kept, PySem.W.mg_of X G a_l_kept, F_l_taken, b_l_taken, PySem.W.mg_of X G a_l_taken, F_l_side, b_l_side, PySem.W.mg_of X G a_l_side, F_l_runs, b_l_runs, PySem.W.mg_of X G a_l_runs, F_l_copied, b_l_copied, PySem.W.mg_of X G a_l_copied, F_l_told, b_l_told, PySem.W.mg_of X G a_l_told, F_l_strides, b_l_strides, PySem.W.mg_of X G a_l_strides, F_l_good, b_l_good, PySem.W.mg_of X G a_l_good, F_law, b_law, PySem.W.mg_of X G a_law, ⟨i_MillError, k_MillError⟩, ⟨ga_MillError, na_MillError, cl_MillError, gt, tk, mo_MillError, mb_MillError, by rw [ci_MillError]; rfl⟩, PySem.W.mg_of X G a_MillError, ⟨⟨_, ci_MillError, mr_MillError⟩, ty_MillError⟩, ⟨i_NoMachine, k_NoMachine⟩, ⟨ga_NoMachine, na_NoMachine, cl_NoMachine, gt, tk, mo_NoMachine, mb_NoMachine, by rw [ci_NoMachine]; rfl⟩, PySem.W.mg_of X G a_NoMachine, ⟨⟨_, ci_NoMachine, mr_NoMachine⟩, ty_NoMachine⟩, ⟨pg_Side, hd_Side, po_Side, sa_Side⟩, PySem.W.mg_of X G a_Side, n_Side_runs, ⟨pg_Strider, hd_Strider, po_Strider, sa_Strider⟩, PySem.W.mg_of X G a_Strider, n_Strider_table, n_Strider_row, n_Strider_sign, n_Strider_sides, n_Strider_steps, ⟨_, PySem.W.mg_of X G q_MOST_ROWS, ⟨_, rfl⟩⟩, ⟨_, PySem.W.mg_of X G q_LEAST_SIGNS, ⟨_, rfl⟩⟩, ⟨_, PySem.W.mg_of X G q_MOST_SIGNS, ⟨_, rfl⟩⟩, PySem.W.mg_none_of X G z_range, PySem.W.mg_none_of X G z_len, PySem.W.mg_none_of X G z_abs, PySem.W.mg_none_of X G z_list, PySem.W.mg_none_of X G z_tuple, PySem.W.mg_none_of X G z_int, PySem.W.mg_none_of X G z_bool, PySem.W.mg_none_of X G z_dict, PySem.W.mg_none_of X G z_isinstance, PySem.W.mg_none_of X G z_max, PySem.W.mg_none_of X G z_min, PySem.W.mg_none_of X G z_zip, PySem.W.mg_none_of X G z_all, nd⟩
  exact ⟨_, fun s v => .of_eq rfl, fun base _ _ => ok_law T⟩
theorem walk {l : PySem.W.OpenLaw} {q : Program} {loose : List Str} {XP : (Str → Option Value) → Heap → Prop} {YP : World → Heap → Prop} {d : DefRec} {K : Params → PySem.W.Frag} (hn : l.most = some 63) (hdf : d.params.defaults = [])
    (hY : ∀ (w : World) (h : Heap), YP w h → (K w.params).In h)
    (F : ∀ (w : World) (mg : Str → Option Value) (fa : Addr) (h : Heap), (K w.params).In h → h.Ns mainGlobals mg → mg d.name = some (.ref fa) →
      ∃ fd : FuncData, (∀ (s : Shared) (u : Value), BindsTo s fd ⟨[u], []⟩ [("_law_script", u)]) ∧ ∀ base : Heap, (K w.params).In base → base.Ns mainGlobals mg → FnOk l.prog w (K w.params) mg base CX0 7 fa fd ["_law_script"] (sp_law (K w.params))) :
    PySem.W.WalkO q loose XP YP l.row.toRowW d [] (fun f vs => PySem.call f vs) :=
  L2.walk_of (n := 63) (k := 7) (x := "_law_script") (CX := fun _ => CX0) (sp := fun w => sp_law (K w.params)) hn (by decide) hdf ⟨rfl, by decide, by decide⟩ hY F (fun _ _ a ns hl _ hS => ⟨ns, hS, hl, fun _ => rfl⟩) fun _ _ _ _ _ z => z
end Law
open PySem PySem.W PyProof.Rows
set_option maxRecDepth 100000 in
set_option maxHeartbeats 0 in
theorem PySem.Challenge.cw_endnever_k74_strides_told_holds : PySem.Challenge.rw_endnever_k74_strides_told.Holds := by
  w_on; o_law; k_head; (case hw => w_witness2)
  k_fill
  refine Law.walk (l := PySem.Challenge.rw_endnever_k74_strides_told) rfl rfl (fun w h Y => PySem.W.kIn_of Y) ?F
  case F =>
    intro w mg fa h KX G hmg
    refine' Law.all_mk KX G hmg ?a_Side ?pg_Side ?hd_Side ?po_Side ?sa_Side ?mk_Side ?kc_Side ?n_Side_runs ?a_Strider ?pg_Strider ?hd_Strider ?po_Strider ?sa_Strider ?mk_Strider ?kc_Strider ?n_Strider_table ?n_Strider_row ?n_Strider_sign ?n_Strider_sides ?n_Strider_steps ?a_l_at ?l_l_at ?c_l_at ?k_l_at ?a_l_whole ?l_l_whole ?c_l_whole ?k_l_whole ?a_l_mixed ?l_l_mixed ?c_l_mixed ?k_l_mixed ?a_l_purse ?l_l_purse ?c_l_purse ?k_l_purse ?a_l_draw ?l_l_draw ?c_l_draw ?k_l_draw ?a_is_entry ?l_is_entry ?c_is_entry ?k_is_entry ?a_is_row ?l_is_row ?c_is_row ?k_is_row ?a_is_machine ?l_is_machine ?c_is_machine ?k_is_machine ?a_must_machine ?l_must_machine ?c_must_machine ?k_must_machine ?a_l_laid ?l_l_laid ?c_l_laid ?k_l_laid ?a_l_are_runs ?l_l_are_runs ?c_l_are_runs ?k_l_are_runs ?a_Side_lay ?i_Side_lay ?l_Side_lay ?c_Side_lay ?k_Side_lay ?a_Side___init__ ?i_Side___init__ ?l_Side___init__ ?c_Side___init__ ?k_Side___init__ ?a_Side_take_run ?i_Side_take_run ?l_Side_take_run ?c_Side_take_run ?k_Side_take_run ?a_Side_take ?i_Side_take ?l_Side_take ?c_Side_take ?k_Side_take ?a_Strider___init__ ?i_Strider___init__ ?l_Strider___init__ ?c_Strider___init__ ?k_Strider___init__ ?a_Strider_word ?i_Strider_word ?l_Strider_word ?c_Strider_word ?k_Strider_word ?a_Strider_stride ?i_Strider_stride ?l_Strider_stride ?c_Strider_stride ?k_Strider_stride ?a_Strider_told ?i_Strider_told ?l_Strider_told ?c_Strider_told ?k_Strider_told ?a_by_strides ?l_by_strides ?c_by_strides ?k_by_strides ?a_l_entry ?l_l_entry ?c_l_entry ?k_l_entry ?a_l_machine ?l_l_machine ?c_l_machine ?k_l_machine ?a_l_kept ?l_l_kept ?c_l_kept ?k_l_kept ?a_l_taken ?l_l_taken ?c_l_taken ?k_l_taken ?a_l_side ?l_l_side ?c_l_side ?k_l_side ?a_l_runs ?l_l_runs ?c_l_runs ?k_l_runs ?a_l_copied ?l_l_copied ?c_l_copied ?k_l_copied ?a_l_told ?l_l_told ?c_l_told ?k_l_told ?a_l_strides ?l_l_strides ?c_l_strides ?k_l_strides ?a_l_good ?l_l_good ?c_l_good ?k_l_good ?a_law ?l_law ?c_law ?k_law ?gt ?tk ?a_MillError ?i_MillError ?k_MillError ?ga_MillError ?na_MillError ?cl_MillError ?mo_MillError ?mb_MillError ?ci_MillError ?mr_MillError ?ty_MillError ?a_NoMachine ?i_NoMachine ?k_NoMachine ?ga_NoMachine ?na_NoMachine ?cl_NoMachine ?mo_NoMachine ?mb_NoMachine ?ci_NoMachine ?mr_NoMachine ?ty_NoMachine ?z_range ?z_len ?z_abs ?z_list ?z_tuple ?z_int ?z_bool ?z_dict ?z_isinstance ?z_max ?z_min ?z_zip ?z_all ?nd ?q_MOST_ROWS ?q_LEAST_SIGNS ?q_MOST_SIGNS
    (case a_Side => k_is)
    (case pg_Side => k_is)
    (case hd_Side => k_is)
    (case po_Side => k_is)
    (case sa_Side => k_is)
    (case mk_Side => k_is)
    (case kc_Side => k_is)
    (case n_Side_runs => k_is)
    (case a_Strider => k_is)
    (case pg_Strider => k_is)
    (case hd_Strider => k_is)
    (case po_Strider => k_is)
    (case sa_Strider => k_is)
    (case mk_Strider => k_is)
    (case kc_Strider => k_is)
    (case n_Strider_table => k_is)
    (case n_Strider_row => k_is)
    (case n_Strider_sign => k_is)
    (case n_Strider_sides => k_is)
    (case n_Strider_steps => k_is)
    (case a_l_at => k_is)
    (case l_l_at => k_is)
    (case c_l_at => k_is)
    (case k_l_at => k_is)
    (case a_l_whole => k_is)
    (case l_l_whole => k_is)
    (case c_l_whole => k_is)
    (case k_l_whole => k_is)
    (case a_l_mixed => k_is)
    (case l_l_mixed => k_is)
    (case c_l_mixed => k_is)
    (case k_l_mixed => k_is)
    (case a_l_purse => k_is)
    (case l_l_purse => k_is)
    (case c_l_purse => k_is)
    (case k_l_purse => k_is)
    (case a_l_draw => k_is)
    (case l_l_draw => k_is)
    (case c_l_draw => k_is)
    (case k_l_draw => k_is)
    (case a_is_entry => k_is)
    (case l_is_entry => k_is)
    (case c_is_entry => k_is)
    (case k_is_entry => k_is)
    (case a_is_row => k_is)
    (case l_is_row => k_is)
    (case c_is_row => k_is)
    (case k_is_row => k_is)
    (case a_is_machine => k_is)
    (case l_is_machine => k_is)
    (case c_is_machine => k_is)
    (case k_is_machine => k_is)
    (case a_must_machine => k_is)
    (case l_must_machine => k_is)
    (case c_must_machine => k_is)
    (case k_must_machine => k_is)
    (case a_l_laid => k_is)
    (case l_l_laid => k_is)
    (case c_l_laid => k_is)
    (case k_l_laid => k_is)
    (case a_l_are_runs => k_is)
    (case l_l_are_runs => k_is)
    (case c_l_are_runs => k_is)
    (case k_l_are_runs => k_is)
    (case a_Side_lay => k_is)
    (case i_Side_lay => k_is)
    (case l_Side_lay => k_is)
    (case c_Side_lay => k_is)
    (case k_Side_lay => k_is)
    (case a_Side___init__ => k_is)
    (case i_Side___init__ => k_is)
    (case l_Side___init__ => k_is)
    (case c_Side___init__ => k_is)
    (case k_Side___init__ => k_is)
    (case a_Side_take_run => k_is)
    (case i_Side_take_run => k_is)
    (case l_Side_take_run => k_is)
    (case c_Side_take_run => k_is)
    (case k_Side_take_run => k_is)
    (case a_Side_take => k_is)
    (case i_Side_take => k_is)
    (case l_Side_take => k_is)
    (case c_Side_take => k_is)
    (case k_Side_take => k_is)
    (case a_Strider___init__ => k_is)
    (case i_Strider___init__ => k_is)
    (case l_Strider___init__ => k_is)
    (case c_Strider___init__ => k_is)
    (case k_Strider___init__ => k_is)
    (case a_Strider_word => k_is)
    (case i_Strider_word => k_is)
    (case l_Strider_word => k_is)
    (case c_Strider_word => k_is)
    (case k_Strider_word => k_is)
    (case a_Strider_stride => k_is)
    (case i_Strider_stride => k_is)
    (case l_Strider_stride => k_is)
    (case c_Strider_stride => k_is)
    (case k_Strider_stride => k_is)
    (case a_Strider_told => k_is)
    (case i_Strider_told => k_is)
    (case l_Strider_told => k_is)
    (case c_Strider_told => k_is)
    (case k_Strider_told => k_is)
    (case a_by_strides => k_is)
    (case l_by_strides => k_is)
    (case c_by_strides => k_is)
    (case k_by_strides => k_is)
    (case a_l_entry => k_is)
    (case l_l_entry => k_is)
    (case c_l_entry => k_is)
    (case k_l_entry => k_is)
    (case a_l_machine => k_is)
    (case l_l_machine => k_is)
    (case c_l_machine => k_is)
    (case k_l_machine => k_is)
    (case a_l_kept => k_is)
    (case l_l_kept => k_is)
    (case c_l_kept => k_is)
    (case k_l_kept => k_is)
    (case a_l_taken => k_is)
    (case l_l_taken => k_is)
    (case c_l_taken => k_is)
    (case k_l_taken => k_is)
    (case a_l_side => k_is)
    (case l_l_side => k_is)
    (case c_l_side => k_is)
    (case k_l_side => k_is)
    (case a_l_runs => k_is)
    (case l_l_runs => k_is)
    (case c_l_runs => k_is)
    (case k_l_runs => k_is)
    (case a_l_copied => k_is)
    (case l_l_copied => k_is)
    (case c_l_copied => k_is)
    (case k_l_copied => k_is)
    (case a_l_told => k_is)
    (case l_l_told => k_is)
    (case c_l_told => k_is)
    (case k_l_told => k_is)
    (case a_l_strides => k_is)
    (case l_l_strides => k_is)
    (case c_l_strides => k_is)
    (case k_l_strides => k_is)
    (case a_l_good => k_is)
    (case l_l_good => k_is)
    (case c_l_good => k_is)
    (case k_l_good => k_is)
    (case a_law => k_is)
    (case l_law => k_is)
    (case c_law => k_is)
    (case k_law => k_is)
    (case gt => k_is)
    (case tk => k_is)
    (case a_MillError => k_is)
    (case i_MillError => k_exc)
    (case k_MillError => k_is)
    (case ga_MillError => k_is)
    (case na_MillError => k_is)
    (case cl_MillError => k_is)
    (case mo_MillError => k_is)
    (case mb_MillError => k_is)
    (case ci_MillError => k_is)
    (case mr_MillError => rfl)
    (case ty_MillError => k_is)
    (case a_NoMachine => k_is)
    (case i_NoMachine => k_exc)
    (case k_NoMachine => k_is)
    (case ga_NoMachine => k_is)
    (case na_NoMachine => k_is)
    (case cl_NoMachine => k_is)
    (case mo_NoMachine => k_is)
    (case mb_NoMachine => k_is)
    (case ci_NoMachine => k_is)
    (case mr_NoMachine => rfl)
    (case ty_NoMachine => k_is)
    (case z_range => k_is)
    (case z_len => k_is)
    (case z_abs => k_is)
    (case z_list => k_is)
    (case z_tuple => k_is)
    (case z_int => k_is)
    (case z_bool => k_is)
    (case z_dict => k_is)
    (case z_isinstance => k_is)
    (case z_max => k_is)
    (case z_min => k_is)
    (case z_zip => k_is)
    (case z_all => k_is)
    (case nd => decide)
    (case q_MOST_ROWS => k_is)
    (case q_LEAST_SIGNS => k_is)
    (case q_MOST_SIGNS => k_is)
