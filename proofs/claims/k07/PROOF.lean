import PyProof.Rows.All
import Wide.All
import OpenK.AllK
import Wide.FinOn
import PyProof.EqAt
import PyProof.EqKinds
import PyProof.NeKinds
import PyProof.TupleCall
import PyProof.ExcArgsOwn
import PyProof.EnumFor
import PyProof.EnumStmt
import PyProof.EnumMake
import Lean
import PySem.Challenge.RW_endnever_k07_refusals_made
set_option Elab.async false
set_option linter.all false
set_option maxRecDepth 100000
set_option maxHeartbeats 4000000
section
-- CHANGE: your row's module here, as the last of these rows
set_option Elab.async false
set_option linter.all false
set_option maxRecDepth 100000
/-! THE HAND LAYER, for ints, bools, texts, own classes, LISTS and tuples (index, slices, in, append, pop ..), calls, loops. Paste it whole ahead of your own text; what your proof does not reach may be deleted. -/
namespace L2
open PySem PySem.Spec PyProof.Rows

/-- a key: an int or a str -/
abbrev Key := Sum Int Str
def keyIs : Key → Value → Bool
  | .inl k, v => Value.isInt k v
  | .inr x, v => Value.isStrOf x v
def keyH (w : World) : Key → Int
  | .inl k => hashInt k
  | .inr x => hashStr w x
theorem keyIs_shape : ∀ {k : Key} {v : Value}, keyIs k v = true → (∃ i t, k = Sum.inl i ∧ v = Value.int i t) ∨ (∃ x t, k = Sum.inr x ∧ v = Value.str x t)
  | .inl i, v, h => by
    obtain ⟨t, e⟩ := Value.isInt_shape (k := i) (v := v) h
    exact .inl ⟨i, t, rfl, e⟩
  | .inr x, v, h => by
    obtain ⟨t, e⟩ := Value.isStrOf_shape (x := x) (v := v) h
    exact .inr ⟨x, t, rfl, e⟩
theorem key_ll (a b : Int) : decide ((Sum.inl a : Key) = Sum.inl b) = (a == b) := by
  by_cases e : a = b
  · subst e; simp
  · have h : ¬ (Sum.inl a : Key) = Sum.inl b := fun q => e (Sum.inl.inj q)
    rw [decide_eq_false h]
    exact (beq_eq_false_iff_ne.mpr e).symm
theorem key_rr (a b : Str) : decide ((Sum.inr a : Key) = Sum.inr b) = decide (a = b) := by
  by_cases e : a = b
  · subst e; simp
  · have h : ¬ (Sum.inr a : Key) = Sum.inr b := fun q => e (Sum.inr.inj q)
    rw [decide_eq_false h, decide_eq_false e]
theorem key_lr (a : Int) (b : Str) : decide ((Sum.inl a : Key) = Sum.inr b) = false := decide_eq_false (fun q => nomatch q)
theorem key_rl (a : Str) (b : Int) : decide ((Sum.inr a : Key) = Sum.inl b) = false := decide_eq_false (fun q => nomatch q)

def mixKind (prog : Program) (w : World) : PySem.KeyKind prog w Key where
  is := keyIs
  hash := keyH w
  inj := fun v a b ha hb => by
    rcases keyIs_shape ha with ⟨i, t, rfl, rfl⟩ | ⟨x, t, rfl, rfl⟩
    · rcases keyIs_shape hb with ⟨j, u, rfl, e⟩ | ⟨y, u, rfl, e⟩
      · injection e with e1 _; rw [e1]
      · exact nomatch e
    · rcases keyIs_shape hb with ⟨j, u, rfl, e⟩ | ⟨y, u, rfl, e⟩
      · exact nomatch e
      · injection e with e1 _; rw [e1]
  byValue := fun k v h => by
    rcases keyIs_shape h with ⟨i, t, rfl, rfl⟩ | ⟨x, t, rfl, rfl⟩ <;> rfl
  pyHash := fun hv h => by
    rcases keyIs_shape hv with ⟨i, t, rfl, rfl⟩ | ⟨x, t, rfl, rfl⟩
    · exact wpAny_pyHash_int h
    · exact wpAny_pyHash_str h
  eqBool := fun hu hv h => by
    rcases keyIs_shape hu with ⟨i, t, rfl, rfl⟩ | ⟨x, t, rfl, rfl⟩
    · rcases keyIs_shape hv with ⟨j, u, rfl, rfl⟩ | ⟨y, u, rfl, rfl⟩
      · rw [key_ll] at h; exact wpAny_eqBool_int h
      · rw [key_lr] at h; exact SeqAt.EqAt.int_str i t y u _ _ _ _ h
    · rcases keyIs_shape hv with ⟨j, u, rfl, rfl⟩ | ⟨y, u, rfl, rfl⟩
      · rw [key_rl] at h; exact SeqAt.EqAt.str_int x t j u _ _ _ _ h
      · rw [key_rr] at h; exact wpAny_eqBool_str h
  «strs» := fun k x t v h => by
    rcases keyIs_shape h with ⟨i, u, rfl, e⟩ | ⟨y, u, rfl, e⟩
    · exact nomatch e
    · injection e with e1 _
      subst e1
      cases v <;> rfl

end L2

namespace L2
open PySem PySem.Spec PyProof.Rows

/-- a value, without the heap -/
inductive V where
  | non | bl (b : Bool) | int (i : Int) | str (x : Str) | byt (b : Array UInt8) | flt (b : UInt64) | ref (a : Addr) | ty (n : String)
  deriving DecidableEq

def RelV : V → Value → Prop
  | .non, u => u = Value.none
  | .bl b, u => u = Value.bool b
  | .int i, u => ∃ t, u = Value.int i t
  | .str x, u => ∃ t, u = Value.str x t
  | .byt b, u => ∃ t, u = Value.bytes b t
  | .flt b, u => ∃ t, u = Value.float b t
  | .ref a, u => u = Value.ref a
  | .ty n, u => u = Value.type n

abbrev Vals : List V → List Value → Prop := Paired RelV
theorem Vals.length {xs : List V} {us : List Value} (r : Vals xs us) : xs.length = us.length := Paired.length r
theorem Vals.get : ∀ {xs : List V} {us : List Value} {i : Nat} {x : V}, Vals xs us → xs[i]? = some x → ∃ u, us[i]? = some u ∧ RelV x u
  | _, _, _, _, .nil, e => by simp at e
  | _, _, 0, _, .cons r _, e => by simp at e; subst e; exact ⟨_, rfl, r⟩
  | _, _, i + 1, x, .cons _ t, e => by
    obtain ⟨u, h1, h2⟩ := Vals.get (i := i) (x := x) t (by simpa using e)
    exact ⟨u, by simpa using h1, h2⟩
theorem Vals.set {x : V} {u : Value} (r : RelV x u) : ∀ {xs : List V} {us : List Value} (i : Nat), Vals xs us → Vals (xs.set i x) (us.set i u)
  | _, _, _, .nil => .nil
  | _, _, 0, .cons _ t => .cons r t
  | _, _, i + 1, .cons q t => .cons q (Vals.set r i t)
theorem Vals.append : ∀ {xs ys : List V} {us ws : List Value}, Vals xs us → Vals ys ws → Vals (xs ++ ys) (us ++ ws)
  | _, _, _, _, .nil, s => s
  | _, _, _, _, .cons r t, s => .cons r (Vals.append t s)
theorem Vals.take : ∀ {xs : List V} {us : List Value} (n : Nat), Vals xs us → Vals (xs.take n) (us.take n)
  | _, _, 0, _ => .nil
  | _, _, _ + 1, .nil => .nil
  | _, _, n + 1, .cons r t => .cons r (Vals.take n t)
theorem Vals.drop : ∀ {xs : List V} {us : List Value} (n : Nat), Vals xs us → Vals (xs.drop n) (us.drop n)
  | _, _, 0, r => r
  | _, _, _ + 1, .nil => .nil
  | _, _, n + 1, .cons _ t => Vals.drop n t
def RelO : Option V → Option Value → Prop
  | some v, some u => RelV v u
  | none, none => True
  | _, _ => False
def KV {κ : Type} : List (κ × V) → List (κ × Value) → Prop := Paired fun (p : κ × V) (q : κ × Value) => p.1 = q.1 ∧ RelV p.2 q.2

/-- a key of a dict (00_mix): an int or a text -/
def kV : Key → V
  | .inl i => .int i
  | .inr x => .str x

/-- what stands at a tracked address -/
inductive HO where
  /-- a list -/
  | lst (xs : List V)
  /-- a tuple (never changes) -/
  | tup (xs : List V)
  /-- a dict whose keys are ints and texts; one whose keys are tuples of ints and texts (the empty one is both) -/
  | dK (kvs : List (Key × V)) | dT (kvs : List (List Key × V))
  /-- a set of ints: its members, its size -/
  | set (S : Int → Bool) (n : Nat)
  /-- an instance of the class at C, its dict at dx, its attributes -/
  | ins (C dx : Addr) (fs : List (Str × V))
  /-- the dict of the instance at x -/
  | own (x : Addr)
  /-- the dict of an exception -/
  | xd (fs : List (Str × V))
  /-- a bound method, f of x -/
  | met (f x : Addr)
  /-- a range object lo, lo + 1, .. below hi -/
  | rng (lo hi : Int)
  /-- a thing that is known to the object (the script; a dict while a loop walks it): read, never written while it is so -/
  | frz (o : Obj) (u : HO)
  /-- a code object's table -/
  | tbl (ps : Array Value)
  /-- any other thing, by what is true of its one object (a def of one's own: SetO a S n := HO.ext fun h => ..) -/
  | ext (φ : Heap → Prop)

abbrev Hp := Addr → Option HO
def upd (H : Hp) (a : Addr) (o : HO) : Hp := fun b => if b = a then some o else H b
theorem upd_same {H : Hp} {a : Addr} {o : HO} : upd H a o a = some o := by unfold upd; rw [if_pos rfl]
theorem upd_ne {H : Hp} {a b : Addr} {o : HO} (h : b ≠ a) : upd H a o b = H b := by unfold upd; rw [if_neg h]
theorem upd_upd {H : Hp} {a : Addr} {o u : HO} : upd (upd H a o) a u = upd H a u := by
  funext b; unfold upd; split <;> rfl
/-- two objects of different content stand apart -/
theorem ne_of {H : Hp} {a b : Addr} {o u : HO} (h : H a = some o) (h' : H b = some u) (d : o ≠ u) : a ≠ b := by
  intro e; subst e; rw [h] at h'; exact d (Option.some.inj h')
theorem ne_of_none {H : Hp} {a b : Addr} {o : HO} (h : H a = some o) (h' : H b = none) : a ≠ b := by
  intro e; subst e; rw [h] at h'; cases h'

section
variable (P : Program) (w : World)
def ObjOk (H : Hp) (h : Heap) (a : Addr) : HO → Prop
  | .lst xs => xs.length ≤ sizeLine ∧ ∃ (its : List Value) (n : Nat), Vals xs its ∧ h.get? a = some { cls := .type "list", data := .seq its.toArray n }
  | .tup xs => xs.length ≤ sizeLine ∧ ∃ its : List Value, Vals xs its ∧ IsTup h a its.toArray
  | .dK kvs => kvs.length ≤ sizeLine ∧ (a == sysModules) = false ∧ ∃ vs, KV kvs vs ∧ h.DictOf (mixKind P w) a vs
  | .dT kvs => kvs.length ≤ sizeLine ∧ (a == sysModules) = false ∧ ∃ xs : List (List Key × Addr × Value),
      Paired (fun (p : List Key × V) (q : List Key × Addr × Value) => p.1 = q.1 ∧ H q.2.1 = some (.tup (p.1.map kV)) ∧ RelV p.2 q.2.2) kvs xs ∧
      ∃ o es ep, h.get? a = some o ∧ o.ExactDict ∧ o.data = .dict es ep ∧ es.toList = xs.map (entryOfKey (tupleKind (mixKind P w))) ∧ (xs.map (·.1)).Nodup
  | .set S n => h.SetOf (intKind P w) a S n
  | .ins C dx fs => H dx = some (.own a) ∧ fs.length ≤ 1000 ∧ dx ≠ a ∧ h.get? a = some (PySem.W.instObj C dx) ∧
      ∃ mA, h.Ns1 dx mA ∧ (∀ f, RelO (fs.lookup f) (mA f)) ∧ PySem.Within mA (fs.map (·.1))
  | .own _ => ∃ o, h.get? a = some o
  | .xd fs => ∃ mA, h.Ns1 a mA ∧ ∀ f, RelO (fs.lookup f) (mA f)
  | .rng lo hi => ∃ t u v, h.get? a = some { cls := .type "range", data := .fields #[.int lo t, .int hi u, .int 1 v] }
  | .frz o u => h.get? a = some o ∧ ObjOk H h a u
  | .tbl ps => h.get? a = some { cls := .none, data := .fields ps }
  | .met f x => h.get? a = some (PySem.W.methodObj (.ref f) (.ref x))
  | .ext φ => φ h ∧ (∃ o, h.get? a = some o) ∧ ∀ h1 h2 : Heap, φ h1 → (∀ o, h1.get? a = some o → h2.get? a = some o) → φ h2
/-- the abstract heap is held -/
def HOk (H : Hp) (h : Heap) : Prop := ∀ a o, H a = some o → ObjOk P w H h a o
end

section
variable {P : Program} {w : World} {H H' : Hp} {h h' : Heap} {a : Addr} {o : HO}
theorem ObjOk.lt (x : ObjOk P w H h a o) : a < h.objs.size := by
  cases o with
  | lst xs => obtain ⟨_, _, _, _, e⟩ := x; exact Heap.lt_size e
  | tup xs => obtain ⟨_, _, _, p⟩ := x; exact p.lt
  | dK kvs => obtain ⟨_, _, _, _, o, _, _, e, _⟩ := x; exact Heap.lt_size e
  | dT kvs => obtain ⟨_, _, _, _, o, _, _, e, _⟩ := x; exact Heap.lt_size e
  | set S n => obtain ⟨o, _, _, _, e, _⟩ := x; exact Heap.lt_size e
  | ins C dx fs => obtain ⟨_, _, _, e, _⟩ := x; exact Heap.lt_size e
  | own y => obtain ⟨_, e⟩ := x; exact Heap.lt_size e
  | xd fs => obtain ⟨_, ⟨_, _, _, e, _⟩, _⟩ := x; exact Heap.lt_size e
  | rng lo hi => obtain ⟨_, _, _, e⟩ := x; exact Heap.lt_size e
  | frz ob u => obtain ⟨e, _⟩ := x; exact Heap.lt_size e
  | tbl ps => exact Heap.lt_size (show h.get? a = some _ from x)
  | met f y => exact Heap.lt_size (show h.get? a = some _ from x)
  | ext φ => obtain ⟨_, ⟨_, e⟩, _⟩ := x; exact Heap.lt_size e
theorem Paired.mapP {α β : Type} {F G : α → β → Prop} : ∀ {l₁ : List α} {l₂ : List β}, Paired F l₁ l₂ → (∀ a b, F a b → G a b) → Paired G l₁ l₂
  | _, _, .nil, _ => .nil
  | _, _, .cons r t, f => .cons (f _ _ r) (Paired.mapP t f)
/-- what an object's description leans on: its own object, its own dict, the tuples -/
theorem ObjOk.stay (x : ObjOk P w H h a o) (k : ∀ b u, (b = a ∨ H b = some (.own a)) → h.get? b = some u → h'.get? b = some u)
    (ho : ∀ b, H b = some (.own a) → H' b = some (.own a)) (ht : ∀ b xs, H b = some (.tup xs) → H' b = some (.tup xs)) : ObjOk P w H' h' a o := by
  induction o with
  | lst xs => obtain ⟨z, its, n, r, e⟩ := x; exact ⟨z, its, n, r, k _ _ (.inl rfl) e⟩
  | tup xs => obtain ⟨z, its, r, ob, e, c⟩ := x; exact ⟨z, its, r, ob, k _ _ (.inl rfl) e, c⟩
  | dK kvs => obtain ⟨z, y, vs, r, ob, es, ep, e, c⟩ := x; exact ⟨z, y, vs, r, ob, es, ep, k _ _ (.inl rfl) e, c⟩
  | dT kvs =>
    obtain ⟨z, y, xs, r, ob, es, ep, e, c⟩ := x
    exact ⟨z, y, xs, Paired.mapP r fun p q z => ⟨z.1, ht _ _ z.2.1, z.2.2⟩, ob, es, ep, k _ _ (.inl rfl) e, c⟩
  | set S n => obtain ⟨ob, es, ep, t, e, c⟩ := x; exact ⟨ob, es, ep, t, k _ _ (.inl rfl) e, c⟩
  | ins C dx fs =>
    obtain ⟨d, z, ne, e, mA, ⟨od, es, ep, e2, c⟩, r⟩ := x
    exact ⟨ho _ d, z, ne, k _ _ (.inl rfl) e, mA, ⟨od, es, ep, k _ _ (.inr d) e2, c⟩, r⟩
  | own y => obtain ⟨ob, e⟩ := x; exact ⟨ob, k _ _ (.inl rfl) e⟩
  | xd fs => obtain ⟨mA, ⟨od, es, ep, e, c⟩, r⟩ := x; exact ⟨mA, ⟨od, es, ep, k _ _ (.inl rfl) e, c⟩, r⟩
  | rng lo hi => obtain ⟨t, u, v, e⟩ := x; exact ⟨t, u, v, k _ _ (.inl rfl) e⟩
  | frz ob u ih => obtain ⟨e, q⟩ := x; exact ⟨k _ _ (.inl rfl) e, ih q⟩
  | tbl ps =>
    have e : h.get? a = some { cls := .none, data := .fields ps } := x
    show h'.get? a = some { cls := .none, data := .fields ps }
    exact k a _ (.inl rfl) e
  | met f y =>
    have e : h.get? a = some (PySem.W.methodObj (.ref f) (.ref y)) := x
    show h'.get? a = some (PySem.W.methodObj (.ref f) (.ref y))
    exact k a _ (.inl rfl) e
  | ext φ => obtain ⟨p, ⟨o, e⟩, st⟩ := x; exact ⟨st _ _ p fun o q => k _ _ (.inl rfl) q, ⟨o, k _ _ (.inl rfl) e⟩, st⟩
theorem HOk.lt (x : HOk P w H h) (e : H a = some o) : a < h.objs.size := (x a o e).lt
theorem HOk.fresh (x : HOk P w H h) (e : h.objs.size ≤ a) : H a = none := by
  cases q : H a with
  | none => rfl
  | some u => exact absurd (Nat.lt_of_lt_of_le (x.lt q) e) (Nat.lt_irrefl _)
/-- every object of the heap is kept -/
theorem HOk.kept (x : HOk P w H h) (k : ∀ b u, h.get? b = some u → h'.get? b = some u) : HOk P w H h' := fun a o e =>
  (x a o e).stay (fun b u _ q => k b u q) (fun _ q => q) fun _ _ q => q
/-- a new object is laid and tracked -/
theorem HOk.laid (x : HOk P w H h) (k : ∀ b u, h.get? b = some u → h'.get? b = some u) (hp : h.objs.size ≤ a) (new : ObjOk P w (upd H a o) h' a o) : HOk P w (upd H a o) h' := fun b u e => by
  have hn := x.fresh hp
  by_cases hb : b = a
  · subst hb; rw [upd_same] at e; cases e; exact new
  · rw [upd_ne hb] at e
    exact (x b u e).stay (fun c v _ q => k c v q) (fun c q => by rw [upd_ne (ne_of_none q hn)]; exact q) fun c xs q => by rw [upd_ne (ne_of_none q hn)]; exact q
end

/-- what may be read as u: it is u, or a known u -/
def Rd (H : Hp) (a : Addr) (u : HO) : Prop := H a = some u ∨ ∃ o, H a = some (.frz o u)
theorem Rd.of {H : Hp} {a : Addr} {u : HO} (h : H a = some u) : Rd H a u := .inl h
theorem Rd.ok {P : Program} {w : World} {H : Hp} {h : Heap} {a : Addr} {u : HO} (r : Rd H a u) (x : HOk P w H h) : ObjOk P w H h a u := by
  rcases r with r | ⟨o, r⟩
  · exact x a u r
  · obtain ⟨_, q⟩ := x a _ r
    exact q
/-- what may be written -/
def Mut : Option HO → Prop
  | some (.lst _) => True
  | some (.dK _) => True
  | some (.dT _) => True
  | some (.set _ _) => True
  | some (.ins _ _ _) => True
  | some (.ext _) => True
  | _ => False
section
variable {P : Program} {w : World} {H : Hp} {h h' : Heap} {x e : Addr} {o' : HO}
/-- the object at e is changed: x itself, or the dict of the instance x -/
theorem HOk.write (ok : HOk P w H h) (mu : Mut (H x)) (he : e = x ∨ H e = some (.own x)) (k : ∀ b u, b ≠ e → h.get? b = some u → h'.get? b = some u) (heo : ∃ u, h'.get? e = some u)
    (new : ObjOk P w (upd H x o') h' x o') : HOk P w (upd H x o') h' := fun b u q => by
  have nown : ∀ c y, H c = some (.own y) → c ≠ x := fun c y r z => by subst z; rw [r] at mu; exact mu
  have ntup : ∀ c xs, H c = some (.tup xs) → c ≠ x := fun c xs r z => by subst z; rw [r] at mu; exact mu
  by_cases hb : b = x
  · subst hb; rw [upd_same] at q; cases q; exact new
  · rw [upd_ne hb] at q
    by_cases hbe : b = e
    · have q' : H b = some (.own x) := by
        rcases he with z | z
        · exact absurd (hbe.trans z) hb
        · rw [hbe]; exact z
      rw [q] at q'; cases q'
      obtain ⟨v, hv⟩ := heo
      exact ⟨v, by rw [hbe]; exact hv⟩
    · refine (ok b u q).stay (fun c v hc r => k c v ?_ r) (fun c r => by rw [upd_ne (nown c b r)]; exact r) fun c xs r => by rw [upd_ne (ntup c xs r)]; exact r
      rcases hc with rfl | hc
      · exact hbe
      · rintro rfl
        rcases he with z | z
        · exact nown c b hc z
        · rw [hc] at z; cases z; exact hb rfl
end

/-! ### kept unless tracked; of the frames at fs (the callers') the slots may change (an exception that passes writes there); of the records at ex (iterators) nothing is said -/
structure Un (fs ex : List Addr) (H H' : Hp) (h h' : Heap) : Prop where
  keep : ∀ b o, h.get? b = some o → H b = none → b ∉ fs → b ∉ ex → h'.get? b = some o
  slot : ∀ b o, h.get? b = some o → H b = none → b ∈ fs → b ∉ ex → ∃ sl, h'.get? b = some { o with slots := sl }
  free : ∀ b o, h.get? b = some o → H b = none → b ∉ ex → H' b = none
  there : ∀ b o, h.get? b = some o → b ∉ ex → ∃ o', h'.get? b = some o'
  tups : ∀ b xs, H b = some (.tup xs) → H' b = some (.tup xs)
  frzs : ∀ b o u, H b = some (.frz o u) → H' b = some (.frz o u)
  tbls : ∀ b ps, H b = some (.tbl ps) → ∃ more, H' b = some (.tbl (ps ++ more))
section
variable {fs fs' ex ex' : List Addr} {H H1 H2 : Hp} {h h1 h2 h' : Heap} {a x e : Addr} {o : HO}
theorem Un.any (u : Un fs ex H H1 h h1) {b : Addr} {ob : Obj} (q : h.get? b = some ob) (n : H b = none) (hx : b ∉ ex) : ∃ sl, h1.get? b = some { ob with slots := sl } := by
  by_cases hb : b ∈ fs
  · exact u.slot b ob q n hb hx
  · exact ⟨ob.slots, u.keep b ob q n hb hx⟩
theorem Un.trans (a : Un fs ex H H1 h h1) (b : Un fs ex H1 H2 h1 h2) : Un fs ex H H2 h h2 where
  keep := fun c ob q n hc hx => b.keep c ob (a.keep c ob q n hc hx) (a.free c ob q n hx) hc hx
  slot := fun c ob q n hc hx => by
    obtain ⟨sl, e1⟩ := a.slot c ob q n hc hx
    obtain ⟨sl', e2⟩ := b.slot c _ e1 (a.free c ob q n hx) hc hx
    exact ⟨sl', e2⟩
  free := fun c ob q n hx => by
    obtain ⟨o', e1⟩ := a.there c ob q hx
    exact b.free c o' e1 (a.free c ob q n hx) hx
  there := fun c ob q hx => by
    obtain ⟨o', e1⟩ := a.there c ob q hx
    exact b.there c o' e1 hx
  tups := fun c xs q => b.tups c xs (a.tups c xs q)
  frzs := fun c ob xs q => b.frzs c ob xs (a.frzs c ob xs q)
  tbls := fun c ps q => by
    obtain ⟨m1, e1⟩ := a.tbls c ps q
    obtain ⟨m2, e2⟩ := b.tbls c _ e1
    exact ⟨m1 ++ m2, by rw [e2, Array.append_assoc]⟩
theorem Un.kept (k : ∀ b u, h.get? b = some u → h'.get? b = some u) : Un fs ex H H h h' :=
  ⟨fun b ob q _ _ _ => k b ob q, fun b ob q _ _ _ => ⟨ob.slots, k b ob q⟩, fun _ _ _ n _ => n, fun b ob q _ => ⟨ob, k b ob q⟩, fun _ _ q => q, fun _ _ _ q => q, fun _ ps q => ⟨#[], by rw [q]; simp⟩⟩
theorem Un.refl : Un fs ex H H h h := Un.kept fun _ _ q => q
theorem Un.laid (k : ∀ b u, h.get? b = some u → h'.get? b = some u) (hp : h.objs.size ≤ a) (hn : H a = none) : Un fs ex H (upd H a o) h h' where
  keep := fun b u q _ _ _ => k b u q
  slot := fun b u q _ _ _ => ⟨u.slots, k b u q⟩
  free := fun b u q n _ => by rw [upd_ne (Nat.ne_of_lt (Nat.lt_of_lt_of_le (Heap.lt_size q) hp))]; exact n
  there := fun b u q _ => ⟨u, k b u q⟩
  tups := fun b xs q => by rw [upd_ne (ne_of_none q hn)]; exact q
  frzs := fun b u xs q => by rw [upd_ne (ne_of_none q hn)]; exact q
  tbls := fun b ps q => ⟨#[], by rw [upd_ne (ne_of_none q hn), q]; simp⟩
theorem Un.write (mu : Mut (H x)) (he : e = x ∨ H e = some (.own x)) (k : ∀ b u, b ≠ e → h.get? b = some u → h'.get? b = some u) (heo : ∃ u, h'.get? e = some u) : Un fs ex H (upd H x o) h h' := by
  have hx : ∀ b, H b = none → b ≠ x := fun b n z => by subst z; rw [n] at mu; exact mu
  have hb : ∀ b, H b = none → b ≠ e := fun b n z => by
    subst z
    rcases he with r | r
    · exact hx b n r
    · rw [n] at r; cases r
  have hm : ∀ b u, H b = some u → ¬ Mut (some u) → b ≠ x := fun b u q nm z => by subst z; rw [q] at mu; exact nm mu
  refine ⟨fun b u q n _ _ => k b u (hb b n) q, fun b u q n _ _ => ⟨u.slots, k b u (hb b n) q⟩, fun b u q n _ => by rw [upd_ne (hx b n)]; exact n, fun b u q _ => ?_,
    fun b xs q => by rw [upd_ne (hm b _ q fun z => z)]; exact q, fun b u xs q => by rw [upd_ne (hm b _ q fun z => z)]; exact q, fun b ps q => ⟨#[], by rw [upd_ne (hm b _ q fun z => z), q]; simp⟩⟩
  by_cases hbe : b = e
  · subst hbe; exact heo
  · exact ⟨u, k b u hbe q⟩
theorem Un.mono (u : Un fs ex H H1 h h1) (hs : ∀ b ∈ fs, b ∈ fs') (hx : ∀ b ∈ ex, b ∈ ex') : Un fs' ex' H H1 h h1 :=
  ⟨fun b ob q n hb he => u.keep b ob q n (fun z => hb (hs b z)) fun z => he (hx b z), fun _ _ q n _ he => u.any q n fun z => he (hx _ z), fun b ob q n he => u.free b ob q n fun z => he (hx b z), fun b ob q he => u.there b ob q fun z => he (hx b z), u.tups, u.frzs, u.tbls⟩
end

/-! ### the heap without what is tracked -/
def trk (h : Heap) (H : Hp) : List Addr := (List.range h.objs.size).filter fun a => (H a).isSome
def hidT (h : Heap) (H : Hp) : Heap := PySem.W.hideAll h (trk h H)
theorem hidT_size (h : Heap) (H : Hp) : (hidT h H).objs.size = h.objs.size := PySem.W.hideAll_size _ _
theorem hidT_get {h : Heap} {H : Hp} {b : Addr} {o : Obj} (e : h.get? b = some o) (n : H b = none) : (hidT h H).get? b = some o :=
  PySem.W.hideAll_get _ e fun hm => by
    have q : (H b).isSome = true := (List.mem_filter.mp hm).2
    rw [n] at q; simp at q
theorem of_hidT {h : Heap} {H : Hp} {b : Addr} {o : Obj} (e : (hidT h H).get? b = some o) : h.get? b = some o ∧ H b = none := by
  have e' : h.get? b = some o := PySem.W.of_hideAll (trk h H) e
  refine ⟨e', ?_⟩
  cases q : H b with
  | none => rfl
  | some x =>
    have hm : b ∈ trk h H := List.mem_filter.mpr ⟨List.mem_range.mpr (Heap.lt_size e'), by simp [q]⟩
    have z : (hidT h H).get? b = none := PySem.W.hideAll_none (trk h H) hm
    rw [z] at e; cases e

/-! ### OpenK's ledger, filled with every new object but one -/
def allNews (g h : Heap) (L : Addr) : List (Addr × Obj) := (List.range h.objs.size).filterMap fun a => if a = L ∨ (g.get? a).isSome = true then none else (h.get? a).map fun o => (a, o)
def rest (g h : Heap) (L d : Addr) : List (Addr × Obj) := (allNews g h L).filter fun p => decide (p.1 ≠ d)
end L2

namespace L2
open PySem PySem.Spec PyProof.Rows

/-- the module's facts, over the base: the heap at the law's entry without what is tracked there -/
structure Mod (K : PySem.W.Frag) (mg : Str → Option Value) (base : Heap) : Prop where
  kin : K.In base
  glob : base.Ns mainGlobals mg
  blt : ∃ mb, base.Ns builtinsNs mb ∧ ∀ x : Str, x ≠ "__name__" → mb x = bootBuiltins x
  nolimit : base.NoLimit

/-- the context: a def's body (or a comprehension's block) running. base: fixed through the whole law; s₀, H₀: the entry; outer: the frames whose slots others may change (a def's callers); stack: all frames that run;
   ex: iterators that were made ahead of the entry and are walked here (a comprehension's); fn: the names whose cells were made at the entry (a def: all; a comprehension's block: its own); calm: not within an except suite; pn: pins that every state bears; xe: what is wanted of an exception that leaves the code -/
structure Cx where
  prog : Program
  w : World
  K : PySem.W.Frag
  mg : Str → Option Value
  base : Heap
  A : Around
  N : List Str
  s₀ : Shared
  H₀ : Hp
  env : Env
  outer : List Env
  stack : List Env
  ex : List Addr
  fn : Str → Bool
  calm : Bool
  pn : List (Addr × Obj)
  xe : Value → Shared → Prop
/-- the callers' frames -/
def frs (l : List Env) : List Addr := l.filterMap (·.frame)
abbrev Cx.fs (X : Cx) : List Addr := frs X.outer

def Vis (sc : Scope) (x : Str) : Prop := sc.names.lookup x = some .local ∨ sc.names.lookup x = some .cell ∨ sc.names.lookup x = some .free
def Loc (sc : Scope) (x : Str) : Prop := sc.names.lookup x = some .local ∨ sc.names.lookup x = some .cell
def Look (env : Env) (h : Heap) (m : Str → Option Value) (x : Str) (u : Value) : Prop :=
  (env.kindOf x = some .local ∧ m x = some u) ∨ ((env.kindOf x = some .cell ∨ env.kindOf x = some .free) ∧ ∃ c, env.cells.lookup x = some c ∧ h.IsCell c (some u))

structure Cx.Ok (X : Cx) : Prop where
  mod : Mod X.K X.mg X.base
  kind : X.env.scope.kind = .function
  glob : X.env.globals = mainGlobals
  blt : X.env.builtins = builtinsNs
  above : X.s₀.heap.objs.size ≤ X.env.locals
  inj : ∀ x y c, X.env.cells.lookup x = some c → X.env.cells.lookup y = some c → x = y
  has : ∀ x, (X.env.kindOf x = some .cell ∨ X.env.kindOf x = some .free) → ∃ c, X.env.cells.lookup x = some c
  cab : ∀ x c, X.fn x = true → X.env.cells.lookup x = some c → X.s₀.heap.objs.size ≤ c
  hd : X.calm = true → X.A.handled = none
  frames : X.A.frames = some X.stack
  stk : X.stack = X.outer ∨ (X.stack = X.env :: X.outer ∧ X.env.frame = some X.env.locals)
  exf : ∀ b ∈ X.ex, b ≠ X.env.locals ∧ ∀ x c, X.env.cells.lookup x = some c → c ≠ b
  bs : ∀ b o, X.base.get? b = some o → X.s₀.heap.get? b = some o ∧ X.H₀ b = none
  bsz : X.base.objs.size ≤ X.s₀.heap.objs.size
  noex : ∀ b o, X.base.get? b = some o → b ∉ X.ex
  exfs : ∀ b ∈ X.ex, b ∉ X.fs
  funs : X.s₀.heap.FunFrames X.base X.outer
  frf : ∀ b ∈ X.fs, X.H₀ b = none

structure Inv (X : Cx) (pins : List (Addr × Obj)) (σ : List (Option V)) (H : Hp) (s : Shared) : Prop where
  ok : X.Ok
  os : s.os = X.s₀.os
  bare : AllBare s.gens
  base : Un X.fs X.ex X.H₀ H X.s₀.heap s.heap
  loc : ∃ m, s.heap.Ns X.env.locals m ∧ ∀ (i : Nat) (x : Str) (v : V), X.N[i]? = some x → σ[i]? = some (some v) → Vis X.env.scope x → ∃ u, RelV v u ∧ Look X.env s.heap m x u
  cell : ∀ x c, X.env.cells.lookup x = some c → ∃ v, s.heap.IsCell c v
  free : H X.env.locals = none
  freeC : ∀ x c, X.env.cells.lookup x = some c → H c = none
  pin : ∀ p ∈ X.pn ++ pins, s.heap.get? p.1 = some p.2 ∧ H p.1 = none ∧ p.1 ≠ X.env.locals ∧ p.1 ∉ X.fs ∧ ∀ v, p.2.data ≠ .cell v
  hok : HOk X.prog X.w H s.heap
  len : σ.length = X.N.length

section
variable {X : Cx} {pins : List (Addr × Obj)} {σ : List (Option V)} {H H' : Hp} {s : Shared} {h' : Heap}

theorem Cx.Ok.nofr (ok : X.Ok) {b : Addr} {o : Obj} (e : X.base.get? b = some o) : b ∉ X.fs := fun hb => by
  have := (ok.funs.mem hb).1
  rw [e] at this; cases this
theorem Inv.bs (I : Inv X pins σ H s) : ∀ b o, X.base.get? b = some o → s.heap.get? b = some o ∧ H b = none := fun b o e =>
  ⟨I.base.keep b o (I.ok.bs b o e).1 (I.ok.bs b o e).2 (I.ok.nofr e) (I.ok.noex b o e), I.base.free b o (I.ok.bs b o e).1 (I.ok.bs b o e).2 (I.ok.noex b o e)⟩
theorem Inv.bk (I : Inv X pins σ H s) : ∀ b o, X.base.get? b = some o → s.heap.get? b = some o := fun b o e => (I.bs b o e).1
theorem Inv.mod (I : Inv X pins σ H s) : Mod X.K X.mg X.base := I.ok.mod
theorem Inv.kIn (I : Inv X pins σ H s) : X.K.In s.heap := I.ok.mod.kin.keeps I.bk
theorem Inv.nolimit (I : Inv X pins σ H s) : s.heap.NoLimit := I.ok.mod.nolimit.keeps I.bk
/-- the frame over the base: for OpenK's rules (K.In X.base is I.mod.kin) -/
theorem Inv.fr (I : Inv X pins σ H s) : ∃ m, Fr X.base X.env.locals s.heap m :=
  let ⟨m, hn, _⟩ := I.loc
  ⟨m, hn, I.bk, Nat.le_trans I.ok.bsz I.ok.above⟩
theorem Inv.lt (I : Inv X pins σ H s) : X.env.locals < s.heap.objs.size := let ⟨_, hn, _⟩ := I.loc; hn.lt
theorem Inv.sz (I : Inv X pins σ H s) : X.s₀.heap.objs.size ≤ s.heap.objs.size := Nat.le_trans I.ok.above (Nat.le_of_lt I.lt)
theorem Inv.nofs (I : Inv X pins σ H s) {a : Addr} (h : s.heap.objs.size ≤ a) : a ∉ X.fs := fun hb => by
  obtain ⟨_, o, ho, _⟩ := I.ok.funs.mem hb
  exact absurd (Nat.lt_of_lt_of_le (Heap.lt_size ho) (Nat.le_trans I.sz h)) (Nat.lt_irrefl _)
theorem Inv.cne (I : Inv X pins σ H s) : ∀ x c, X.env.cells.lookup x = some c → c ≠ X.env.locals := fun x c e z => by
  obtain ⟨v, o, ho, hd⟩ := I.cell x c e
  obtain ⟨m, ⟨o', es, ep, ho', hd', _⟩, _⟩ := I.loc
  rw [z, ho'] at ho; cases ho; rw [hd'] at hd; cases hd
theorem Inv.funs (I : Inv X pins σ H s) : s.heap.FunFrames X.base X.outer := by
  have all : ∀ (l : List Env), (∀ b ∈ frs l, b ∈ X.fs) → X.s₀.heap.FunFrames X.base l → s.heap.FunFrames X.base l := by
    intro l
    induction l with
    | nil => intro _ _; trivial
    | cons env r ih =>
      intro hs hl
      obtain ⟨hk, ⟨L, o, hf, hn, ho, hd⟩, hr⟩ := hl
      have hL : L ∈ X.fs := hs L (by unfold frs; rw [List.filterMap_cons, hf]; exact List.mem_cons_self)
      obtain ⟨sl, e⟩ := I.base.slot L o ho (I.ok.frf L hL) hL fun z => I.ok.exfs L z hL
      exact ⟨hk, ⟨L, _, hf, hn, e, hd⟩, ih (fun b hb => hs b (by unfold frs; rw [List.filterMap_cons, hf]; exact List.mem_cons_of_mem _ hb)) hr⟩
  exact all X.outer (fun _ hb => hb) I.ok.funs

/-- the frames that run, for a call -/
theorem Inv.stack (I : Inv X pins σ H s) : s.heap.FunFrames X.base X.stack := by
  rcases I.ok.stk with e | ⟨e, hf⟩
  · rw [e]; exact I.funs
  · rw [e]
    obtain ⟨m, hn, _⟩ := I.loc
    refine .cons (by rw [I.ok.kind]; decide) hf hn ?_ I.funs
    exact Heap.get?_none_of_le (Nat.le_trans I.ok.bsz I.ok.above)
theorem Inv.stkSub (I : Inv X pins σ H s) : ∀ b ∈ frs X.stack, b ∈ X.env.locals :: X.fs := fun b hb => by
  rcases I.ok.stk with e | ⟨e, hf⟩
  · rw [e] at hb; exact List.mem_cons_of_mem _ hb
  · rw [e] at hb
    unfold frs at hb
    rw [List.filterMap_cons, hf] at hb
    exact hb
theorem Inv.stkFree (I : Inv X pins σ H s) : ∀ b ∈ frs X.stack, H b = none := fun b hb => by
  rcases List.mem_cons.mp (I.stkSub b hb) with e | hb
  · rw [e]; exact I.free
  · obtain ⟨_, o, ho, _⟩ := I.ok.funs.mem hb
    exact I.base.free b o ho (I.ok.frf b hb) fun z => I.ok.exfs b z hb

/-- THE STEP: the untracked objects but the frame and the records at ch are kept (the callers' frames up to slots), the frame's map is kept, the new abstract heap is held -/
theorem Inv.step {g' : Array GenState} {t' : Nat} {d' : Drawn} {ch : List Addr} (I : Inv X pins σ H s)
    (hch : ∀ b ∈ ch, (b ∈ X.ex ∨ X.s₀.heap.objs.size ≤ b) ∧ b ≠ X.env.locals ∧ (∀ x c, X.env.cells.lookup x = some c → c ≠ b) ∧ ∀ p ∈ X.pn ++ pins, p.1 ≠ b)
    (keep : ∀ b o, b ≠ X.env.locals → b ∉ X.fs → b ∉ ch → s.heap.get? b = some o → H b = none → h'.get? b = some o)
    (slot : ∀ b o, b ≠ X.env.locals → b ∈ X.fs → b ∉ ch → s.heap.get? b = some o → H b = none → ∃ sl, h'.get? b = some { o with slots := sl }) (free : ∀ b o, b ∉ ch → s.heap.get? b = some o → H b = none → H' b = none)
    (there : ∀ b o, b ∉ ch → s.heap.get? b = some o → ∃ o', h'.get? b = some o')
    (tups : ∀ b xs, H b = some (.tup xs) → H' b = some (.tup xs)) (frzs : ∀ b o u, H b = some (.frz o u) → H' b = some (.frz o u)) (tbls : ∀ b ps, H b = some (.tbl ps) → ∃ more, H' b = some (.tbl (ps ++ more)))
    (ns : ∀ m, s.heap.Ns X.env.locals m → h'.Ns X.env.locals m) (hok : HOk X.prog X.w H' h') (hg : AllBare g') :
    Inv X pins σ H' { s with heap := h', gens := g', drawn := d', toks := t' } := by
  have neL : ∀ b o, X.s₀.heap.get? b = some o → b ≠ X.env.locals := fun b o e => Nat.ne_of_lt (Nat.lt_of_lt_of_le (Heap.lt_size e) I.ok.above)
  have neC : ∀ b o, X.s₀.heap.get? b = some o → b ∉ X.ex → b ∉ ch := fun b o e hx hb => by
    rcases (hch b hb).1 with z | z
    · exact hx z
    · exact absurd (Nat.lt_of_lt_of_le (Heap.lt_size e) z) (Nat.lt_irrefl _)
  have cellK : ∀ x c, X.env.cells.lookup x = some c → ∀ v, s.heap.IsCell c v → h'.IsCell c v := fun x c e v ⟨o, ho, hd⟩ => by
    have nch : c ∉ ch := fun z => (hch c z).2.2.1 x c e rfl
    by_cases hc : c ∈ X.fs
    · obtain ⟨sl, q⟩ := slot c o (I.cne x c e) hc nch ho (I.freeC x c e)
      exact ⟨_, q, hd⟩
    · exact ⟨o, keep c o (I.cne x c e) hc nch ho (I.freeC x c e), hd⟩
  refine ⟨I.ok, I.os, hg, ⟨fun b o e n hb hx => ?_, fun b o e n hb hx => ?_, fun b o e n hx => ?_, fun b o e hx => ?_, fun b xs e => tups b xs (I.base.tups b xs e), fun b o xs e => frzs b o xs (I.base.frzs b o xs e), fun b ps e => ?_⟩, ?_, fun x c e => ?_, ?_, fun x c e => ?_, fun p hp => ?_, hok, I.len⟩
  · exact keep b o (neL b o e) hb (neC b o e hx) (I.base.keep b o e n hb hx) (I.base.free b o e n hx)
  · obtain ⟨sl, e1⟩ := I.base.slot b o e n hb hx
    obtain ⟨sl', e2⟩ := slot b _ (neL b o e) hb (neC b o e hx) e1 (I.base.free b o e n hx)
    exact ⟨sl', e2⟩
  · obtain ⟨o', e1⟩ := I.base.there b o e hx
    exact free b o' (neC b o e hx) e1 (I.base.free b o e n hx)
  · obtain ⟨o', e1⟩ := I.base.there b o e hx
    exact there b o' (neC b o e hx) e1
  · obtain ⟨m1, e1⟩ := I.base.tbls b ps e
    obtain ⟨m2, e2⟩ := tbls b _ e1
    exact ⟨m1 ++ m2, by rw [e2, Array.append_assoc]⟩
  · obtain ⟨m, hn, hl⟩ := I.loc
    refine ⟨m, ns m hn, fun i x v e1 e2 e3 => ?_⟩
    obtain ⟨u, r, l⟩ := hl i x v e1 e2 e3
    refine ⟨u, r, ?_⟩
    rcases l with l | ⟨k, c, e, z⟩
    · exact .inl l
    · exact .inr ⟨k, c, e, cellK x c e _ z⟩
  · obtain ⟨v, z⟩ := I.cell x c e
    exact ⟨v, cellK x c e v z⟩
  · obtain ⟨m, ⟨o, _, _, ho, _⟩, _⟩ := I.loc
    exact free _ o (fun z => (hch _ z).2.1 rfl) ho I.free
  · obtain ⟨v, o, ho, hd⟩ := I.cell x c e
    exact free c o (fun z => (hch c z).2.2.1 x c e rfl) ho (I.freeC x c e)
  · obtain ⟨e, n, ne, nf, d⟩ := I.pin p hp
    have nch : p.1 ∉ ch := fun z => (hch p.1 z).2.2.2 p hp rfl
    exact ⟨keep p.1 p.2 ne nf nch e n, free p.1 p.2 nch e n, ne, nf, d⟩
/-- .. where the frame's own object is kept too -/
theorem Inv.un {t' : Nat} (I : Inv X pins σ H s) (u : Un X.fs [] H H' s.heap h') (hok : HOk X.prog X.w H' h') : Inv X pins σ H' { s with heap := h', toks := t' } := by
  obtain ⟨m, ⟨o, es, ep, ho, r⟩, _⟩ := id I.loc
  obtain ⟨sl, hL⟩ := u.any ho I.free (by simp)
  exact I.step (g' := s.gens) (d' := s.drawn) (ch := []) (fun _ z => nomatch z) (fun b o _ hb _ e n => u.keep b o e n hb (by simp)) (fun b o _ hb _ e n => u.slot b o e n hb (by simp)) (fun b o _ e n => u.free b o e n (by simp)) (fun b o _ e => u.there b o e (by simp)) u.tups u.frzs u.tbls (fun m' hm => by
    obtain ⟨o', es', ep', ho', r'⟩ := hm
    rw [ho] at ho'; cases ho'
    exact ⟨_, es', ep', hL, r'⟩) hok I.bare
/-- behind a call (or a comprehension's block): the slots of this frame may have changed too, the records at ch may have turned -/
theorem Inv.call {g' : Array GenState} {t' : Nat} {d' : Drawn} {ch : List Addr} (I : Inv X pins σ H s) (u : Un (frs X.stack) ch H H' s.heap h') (hok : HOk X.prog X.w H' h') (hg : AllBare g')
    (hch : ∀ b ∈ ch, (b ∈ X.ex ∨ X.s₀.heap.objs.size ≤ b) ∧ b ≠ X.env.locals ∧ (∀ x c, X.env.cells.lookup x = some c → c ≠ b) ∧ ∀ p ∈ X.pn ++ pins, p.1 ≠ b) :
    Inv X pins σ H' { s with heap := h', gens := g', drawn := d', toks := t' } := by
  obtain ⟨m, ⟨o, es, ep, ho, r⟩, _⟩ := id I.loc
  obtain ⟨sl, hL⟩ := u.any ho I.free fun z => (hch _ z).2.1 rfl
  exact I.step (ch := ch) hch (fun b o hL hb hc e n => u.keep b o e n (fun z => (List.mem_cons.mp (I.stkSub b z)).elim hL hb) hc) (fun b o _ _ hc e n => u.any e n hc) (fun b o hc e n => u.free b o e n hc) (fun b o hc e => u.there b o e hc) u.tups u.frzs u.tbls (fun m' hm => by
    obtain ⟨o', es', ep', ho', r'⟩ := hm
    rw [ho] at ho'; cases ho'
    exact ⟨_, es', ep', hL, r'⟩) hok hg
/-- an untracked record of ours (an iterator) has turned -/
theorem Inv.turned {t' : Nat} {it : Addr} (I : Inv X pins σ H s) (k : ∀ b o, b ≠ it → s.heap.get? b = some o → h'.get? b = some o) (hn : H it = none) (hL : it ≠ X.env.locals)
    (h1 : it ∈ X.ex ∨ X.s₀.heap.objs.size ≤ it) (h2 : ∀ x c, X.env.cells.lookup x = some c → c ≠ it) (h3 : ∀ p ∈ X.pn ++ pins, p.1 ≠ it) : Inv X pins σ H { s with heap := h', toks := t' } := by
  have nit : ∀ b u, H b = some u → b ≠ it := fun b u e z => by rw [z, hn] at e; cases e
  refine I.step (g' := s.gens) (d' := s.drawn) (ch := [it]) (fun b hb => ?_) (fun b o _ _ hc e _ => k b o (fun z => hc (by simp [z])) e) (fun b o _ _ hc e _ => ⟨o.slots, k b o (fun z => hc (by simp [z])) e⟩) (fun _ _ _ _ n => n)
    (fun b o hc e => ⟨o, k b o (fun z => hc (by simp [z])) e⟩) (fun _ _ e => e) (fun _ _ _ e => e) (fun b ps e => ⟨#[], by rw [e]; simp⟩) (fun m hm => ?_) (fun b u e => ?_) I.bare
  · have e : b = it := by simpa using hb
    subst e
    exact ⟨h1, hL, h2, h3⟩
  · obtain ⟨o, es, ep, ho, r⟩ := hm
    exact ⟨o, es, ep, k _ o (Ne.symm hL) ho, r⟩
  · refine (I.hok b u e).stay (fun c v hc q => k c v ?_ q) (fun _ q => q) fun _ _ q => q
    rcases hc with z | z
    · rw [z]; exact nit b u e
    · exact nit c _ z
theorem Inv.tok (I : Inv X pins σ H s) (t : Nat) : Inv X pins σ H { s with toks := t } := I.un (h' := s.heap) (t' := t) Un.refl I.hok
/-- all objects kept -/
theorem Inv.kept {t' : Nat} (I : Inv X pins σ H s) (k : ∀ b u, s.heap.get? b = some u → h'.get? b = some u) : Inv X pins σ H { s with heap := h', toks := t' } := I.un (Un.kept k) (I.hok.kept k)
/-- a new object laid and tracked -/
theorem Inv.laid {a : Addr} {o : HO} {t' : Nat} (I : Inv X pins σ H s) (k : ∀ b u, s.heap.get? b = some u → h'.get? b = some u) (hp : s.heap.objs.size ≤ a) (new : ObjOk X.prog X.w (upd H a o) h' a o) :
    Inv X pins σ (upd H a o) { s with heap := h', toks := t' } := I.un (Un.laid k hp (I.hok.fresh hp)) (I.hok.laid k hp new)
/-- an object written -/
theorem Inv.write {x e : Addr} {o : HO} {t' : Nat} (I : Inv X pins σ H s) (mu : Mut (H x)) (he : e = x ∨ H e = some (.own x)) (k : ∀ b u, b ≠ e → s.heap.get? b = some u → h'.get? b = some u) (heo : ∃ u, h'.get? e = some u)
    (new : ObjOk X.prog X.w (upd H x o) h' x o) : Inv X pins σ (upd H x o) { s with heap := h', toks := t' } := I.un (Un.write mu he k heo) (I.hok.write mu he k heo new)
theorem Inv.pins_of {pins' : List (Addr × Obj)} (I : Inv X pins σ H s) (h : ∀ p ∈ pins', s.heap.get? p.1 = some p.2 ∧ H p.1 = none ∧ p.1 ≠ X.env.locals ∧ p.1 ∉ X.fs ∧ ∀ v, p.2.data ≠ .cell v) : Inv X pins' σ H s :=
  ⟨I.ok, I.os, I.bare, I.base, I.loc, I.cell, I.free, I.freeC, fun p hp => (List.mem_append.mp hp).elim (fun z => I.pin p (List.mem_append_left _ z)) (h p), I.hok, I.len⟩

theorem nodup_ix {N : List Str} (hN : N.Nodup) {i j : Nat} {x : Str} (a : N[i]? = some x) (b : N[j]? = some x) : i = j := by
  obtain ⟨h1, e1⟩ := List.getElem?_eq_some_iff.mp a
  obtain ⟨h2, e2⟩ := List.getElem?_eq_some_iff.mp b
  exact (List.getElem_inj hN).mp (e1.trans e2.symm)

/-- a name is stored; what changed -/
theorem store_ok2 {M : Model} {A : Around} {E : Value → Shared → Prop} {i : Nat} {x : Str} {v : V} {u : Value} {Q : Unit → Shared → Prop} (I : Inv X pins σ H s) (hN : X.N.Nodup) (hi : X.N[i]? = some x) (hx : Loc X.env.scope x) (r : RelV v u)
    (h : ∀ s', Inv X pins (σ.set i (some v)) H s' → (∃ a, Heap.SameBut a s.heap s'.heap ∧ (a = X.env.locals ∨ X.env.cells.lookup x = some a)) → Q () s') (hf : X.fn x = true ∨ X.env.scope.names.lookup x = some .local := by first | exact .inl rfl | exact .inr rfl | assumption) : wpAny M A (storeName X.env x u) Q E s := by
  obtain ⟨m, hn, hl⟩ := id I.loc
  have hcls : (X.env.scope.kind == .class || (X.env.scope.kind == .module && X.env.locals != X.env.globals)) = false := by rw [I.ok.kind]; rfl
  have hiσ : i < σ.length := by rw [I.len]; exact (List.getElem?_eq_some_iff.mp hi).1
  have cne := I.cne
  have tracked : ∀ {a : Addr} {h' : Heap}, (∃ o, s.heap.get? a = some o ∧ H a = none) → Heap.SameBut a s.heap h' → HOk X.prog X.w H h' := fun {a h'} ha hs b ob e => by
    obtain ⟨_, _, hfree⟩ := ha
    refine (I.hok b ob e).stay (fun c w' hc q => (hs.2 c ?_).trans q) (fun _ q => q) fun _ _ q => q
    rintro rfl
    rcases hc with rfl | hc
    · rw [hfree] at e; cases e
    · rw [hfree] at hc; cases hc
  rcases hx with hk | hk
  · refine wpAny_storeName_local hk hn (fun h' hn' hs => ?_) hcls
    obtain ⟨oL, _, _, hoL, _⟩ := id hn
    refine h _ ⟨I.ok, I.os, I.bare, ⟨fun b o e n hb hx => ?_, fun b o e n hb hx => ?_, I.base.free, fun b o e hx => ?_, I.base.tups, I.base.frzs, I.base.tbls⟩, ⟨_, hn', fun j y v' e1 e2 e3 => ?_⟩, fun y c e => ?_, I.free, I.freeC, fun p hp => ?_, tracked ⟨oL, hoL, I.free⟩ hs, by simpa using I.len⟩ ⟨_, hs, .inl rfl⟩
    · exact (hs.2 b (Nat.ne_of_lt (Nat.lt_of_lt_of_le (Heap.lt_size e) I.ok.above))).trans (I.base.keep b o e n hb hx)
    · obtain ⟨sl, e1⟩ := I.base.slot b o e n hb hx
      exact ⟨sl, (hs.2 b (Nat.ne_of_lt (Nat.lt_of_lt_of_le (Heap.lt_size e) I.ok.above))).trans e1⟩
    · obtain ⟨o', e1⟩ := I.base.there b o e hx
      exact ⟨o', (hs.2 b (Nat.ne_of_lt (Nat.lt_of_lt_of_le (Heap.lt_size e) I.ok.above))).trans e1⟩
    · by_cases hj : j = i
      · subst hj
        rw [hi] at e1; cases e1
        rw [List.getElem?_set_self hiσ] at e2
        cases e2
        exact ⟨u, r, .inl ⟨hk, by simp⟩⟩
      · rw [List.getElem?_set_ne (Ne.symm hj)] at e2
        obtain ⟨u', r', q⟩ := hl j y v' e1 e2 e3
        refine ⟨u', r', ?_⟩
        rcases q with ⟨k, e⟩ | ⟨k, c, e, z⟩
        · refine .inl ⟨k, ?_⟩
          have : y ≠ x := fun e => hj (nodup_ix hN e1 (e ▸ hi))
          simp [this, e]
        · exact .inr ⟨k, c, e, z.sameBut hs (cne y c e)⟩
    · obtain ⟨w', z⟩ := I.cell y c e
      exact ⟨w', z.sameBut hs (cne y c e)⟩
    · obtain ⟨e, n, ne, nf, d⟩ := I.pin p hp
      exact ⟨(hs.2 p.1 ne).trans e, n, ne, nf, d⟩
  · have hfn : X.fn x = true := by
      rcases hf with z | z
      · exact z
      · rw [z] at hk; cases hk
    obtain ⟨c, hc⟩ := I.ok.has x (.inl hk)
    obtain ⟨w', z⟩ := I.cell x c hc
    refine wpAny_storeName_cell I.ok.kind hk hc z (fun h' hc' hs => ?_)
    obtain ⟨oc, hoc, hocd⟩ := id z
    refine h { s with heap := h' } ⟨I.ok, I.os, I.bare, ⟨fun b o e n hb hx => ?_, fun b o e n hb hx => ?_, I.base.free, fun b o e hx => ?_, I.base.tups, I.base.frzs, I.base.tbls⟩, ⟨m, hn.sameBut hs (Ne.symm (cne x c hc)), fun j y v' e1 e2 e3 => ?_⟩, fun y c' e => ?_, I.free, I.freeC, fun p hp => ?_, tracked ⟨oc, hoc, I.freeC x c hc⟩ hs, by simpa using I.len⟩ ⟨c, hs, .inr hc⟩
    · exact (hs.2 b (Nat.ne_of_lt (Nat.lt_of_lt_of_le (Heap.lt_size e) (I.ok.cab x c hfn hc)))).trans (I.base.keep b o e n hb hx)
    · obtain ⟨sl, e1⟩ := I.base.slot b o e n hb hx
      exact ⟨sl, (hs.2 b (Nat.ne_of_lt (Nat.lt_of_lt_of_le (Heap.lt_size e) (I.ok.cab x c hfn hc)))).trans e1⟩
    · obtain ⟨o', e1⟩ := I.base.there b o e hx
      exact ⟨o', (hs.2 b (Nat.ne_of_lt (Nat.lt_of_lt_of_le (Heap.lt_size e) (I.ok.cab x c hfn hc)))).trans e1⟩
    · by_cases hj : j = i
      · subst hj
        rw [hi] at e1; cases e1
        rw [List.getElem?_set_self hiσ] at e2
        cases e2
        exact ⟨u, r, .inr ⟨.inl hk, c, hc, hc'⟩⟩
      · rw [List.getElem?_set_ne (Ne.symm hj)] at e2
        obtain ⟨u', r', q⟩ := hl j y v' e1 e2 e3
        refine ⟨u', r', ?_⟩
        rcases q with q | ⟨k, c', e, z'⟩
        · exact .inl q
        · refine .inr ⟨k, c', e, z'.sameBut hs ?_⟩
          rintro rfl
          exact hj (nodup_ix hN e1 (I.ok.inj _ _ _ e hc ▸ hi))
    · by_cases hcc : c' = c
      · subst hcc; exact ⟨_, hc'⟩
      · obtain ⟨w2, z2⟩ := I.cell y c' e
        exact ⟨w2, z2.sameBut hs hcc⟩
    · obtain ⟨e, n, ne, nf, d⟩ := I.pin p hp
      refine ⟨(hs.2 p.1 ?_).trans e, n, ne, nf, d⟩
      intro q
      rw [q, hoc] at e
      have q' : oc = p.2 := Option.some.inj e
      exact d w' (by rw [← q']; exact hocd)
theorem store_ok {M : Model} {A : Around} {E : Value → Shared → Prop} {i : Nat} {x : Str} {v : V} {u : Value} {Q : Unit → Shared → Prop} (I : Inv X pins σ H s) (hN : X.N.Nodup) (hi : X.N[i]? = some x) (hx : Loc X.env.scope x) (r : RelV v u)
    (h : ∀ s', Inv X pins (σ.set i (some v)) H s' → Q () s') (hf : X.fn x = true ∨ X.env.scope.names.lookup x = some .local := by first | exact .inl rfl | exact .inr rfl | assumption) : wpAny M A (storeName X.env x u) Q E s :=
  store_ok2 I hN hi hx r (fun s' I' _ => h s' I') hf
/-- behind a call or a block, the state as it is -/
theorem Inv.call' {s' : Shared} {ch : List Addr} (I : Inv X pins σ H s) (ho : s'.os = s.os) (u : Un (frs X.stack) ch H H' s.heap s'.heap) (hok : HOk X.prog X.w H' s'.heap) (hg : AllBare s'.gens)
    (hch : ∀ b ∈ ch, (b ∈ X.ex ∨ X.s₀.heap.objs.size ≤ b) ∧ b ≠ X.env.locals ∧ (∀ x c, X.env.cells.lookup x = some c → c ≠ b) ∧ ∀ p ∈ X.pn ++ pins, p.1 ≠ b) : Inv X pins σ H' s' := by
  obtain ⟨h', g', d', t', o'⟩ := s'
  have e : o' = s.os := ho
  subst e
  exact I.call (g' := g') (t' := t') (d' := d') u hok hg hch
end

/-! ### the judgements -/
/-- an exception: its class, its own dict's address (where it has one), the abstract heap behind it -/
abbrev XK := Value → Option Addr → Hp → Prop
abbrev St := List (Option V)
abbrev VK := V → Hp → Prop
/-- an expression's reading; a test's; an argument list's -/
abbrev TE := St → Hp → VK → Prop
abbrev TT := St → Hp → (Bool → Hp → Prop) → Prop
abbrev TA := St → Hp → (List V → Hp → Prop) → Prop
/-- what is wanted behind a statement -/
structure Ends where
  nx : St → Hp → Prop
  rt : VK
  bk : St → Hp → Prop := fun _ _ => False
  ct : St → Hp → Prop := fun _ _ => False
abbrev TS := Ends → St → Hp → Prop

def EP (X : Cx) (pins : List (Addr × Obj)) (σ : St) (Q : VK) (u : Value) (s' : Shared) : Prop := ∃ v H', Inv X pins σ H' s' ∧ RelV v u ∧ Q v H'
def TP (X : Cx) (pins : List (Addr × Obj)) (σ : St) (Q : Bool → Hp → Prop) (b : Bool) (s' : Shared) : Prop := ∃ H', Inv X pins σ H' s' ∧ Q b H'
def AP (X : Cx) (pins : List (Addr × Obj)) (σ : St) (Q : List V → Hp → Prop) (us : List Value) (s' : Shared) : Prop := ∃ vs H', Inv X pins σ H' s' ∧ Vals vs us ∧ Q vs H'
def SP (X : Cx) (pins : List (Addr × Obj)) (D : Ends) (f : Flow) (s' : Shared) : Prop :=
  match f with
  | .next => ∃ σ' H', Inv X pins σ' H' s' ∧ D.nx σ' H'
  | .brk => ∃ σ' H', Inv X pins σ' H' s' ∧ D.bk σ' H'
  | .cont => ∃ σ' H', Inv X pins σ' H' s' ∧ D.ct σ' H'
  | .ret u => ∃ v σ' H', Inv X pins σ' H' s' ∧ RelV v u ∧ D.rt v H'

def PE (X : Cx) (e : Expr) (t : TE) : Prop :=
  ∀ (pins : List (Addr × Obj)) (s : Shared) (σ : St) (H : Hp) (Q : VK), Inv X pins σ H s → t σ H Q → wpAny (model X.prog X.w) X.A (eval e X.env) (EP X pins σ Q) X.xe s
def PT (X : Cx) (e : Expr) (t : TT) : Prop :=
  ∀ (pins : List (Addr × Obj)) (s : Shared) (σ : St) (H : Hp) (Q : Bool → Hp → Prop), Inv X pins σ H s → t σ H Q → wpAny (model X.prog X.w) X.A (isTrue e X.env (eval e X.env)) (TP X pins σ Q) X.xe s
/-- a test whatever its 'whole' is (and, or) -/
def PW (X : Cx) (e : Expr) (t : TT) : Prop :=
  ∀ (whole : Sem Value) (pins : List (Addr × Obj)) (s : Shared) (σ : St) (H : Hp) (Q : Bool → Hp → Prop), Inv X pins σ H s → t σ H Q → wpAny (model X.prog X.w) X.A (isTrue e X.env whole) (TP X pins σ Q) X.xe s
theorem PW.pt {X : Cx} {e : Expr} {t : TT} (h : PW X e t) : PT X e t := h _
/-- an argument list (no star), from the left -/
def PA (X : Cx) (es : List Expr) (t : TA) : Prop :=
  ∀ (pos : Pos) (pins : List (Addr × Obj)) (s : Shared) (σ : St) (H : Hp) (Q : List V → Hp → Prop), Inv X pins σ H s → t σ H Q → wpAny (model X.prog X.w) X.A (spliced (backTo pos (starEach es X.env))) (AP X pins σ Q) X.xe s
def PS (X : Cx) (st : Stmt) (t : TS) : Prop :=
  ∀ (pins : List (Addr × Obj)) (s : Shared) (σ : St) (H : Hp) (D : Ends), Inv X pins σ H s → t D σ H → wpAny (model X.prog X.w) X.A (exec st X.env) (SP X pins D) X.xe s
def PSs (X : Cx) (st : List Stmt) (t : TS) : Prop :=
  ∀ (pins : List (Addr × Obj)) (s : Shared) (σ : St) (H : Hp) (D : Ends), Inv X pins σ H s → t D σ H → wpAny (model X.prog X.w) X.A (execs st X.env) (SP X pins D) X.xe s
/-- weaken the end -/
theorem thn {α : Type} {t : Sem α} {Q Q' : α → Shared → Prop} {M : Model} {A : Around} {E : Value → Shared → Prop} {s : Shared} (h : wpAny M A t Q E s) (hQ : ∀ a s, Q a s → Q' a s) : wpAny M A t Q' E s := wpAny_mono h hQ fun _ _ x => x
end L2

namespace L2
open PySem PySem.Spec PyProof.Rows
section
variable {X : Cx}

/-! ### names and constants -/
def tVar (i : Nat) : TE := fun σ H Q => ∃ v, σ[i]? = some (some v) ∧ Q v H
def tC (v : V) : TE := fun _ H Q => Q v H
theorem pe_var {i : Nat} {x : Str} {pos : Pos} (hN : X.N[i]? = some x) (hv : Vis X.env.scope x) (hd : (x == ("__debug__" : Str)) = false := by decide) (hcd : (x == ("__classdict__" : Str)) = false := by decide) : PE X (.Name x pos) (tVar i) := by
  intro pins s σ H Q I h
  obtain ⟨v, e, h⟩ := h
  obtain ⟨m, hn, hl⟩ := I.loc
  obtain ⟨u, r, l⟩ := hl i x v hN e hv
  have fin : EP X pins σ Q u s := ⟨v, H, I, r, h⟩
  rcases l with ⟨hk, hm⟩ | ⟨hk, c, hc, hcell⟩
  · exact wpAny_Name (wpAny_loadName_local I.ok.kind hk hn hm fin) hd
  · rcases hk with hk | hk
    · exact wpAny_Name (wpAny_loadName_cell I.ok.kind hk hc hcell fin) hd
    · exact wpAny_Name (wpAny_loadName_free I.ok.kind hk hc hcell fin hcd) hd
theorem pe_int {i j pos} : PE X (.Constant (.int i) j pos) (tC (.int i)) := fun _ _ _ H _ I h => wpAny_Constant_int ⟨.int i, H, I.tok _, ⟨_, rfl⟩, h⟩
theorem pe_bl {b j pos} : PE X (.Constant (.bool b) j pos) (tC (.bl b)) := fun _ _ _ H _ I h => Constant_bool ⟨.bl b, H, I, rfl, h⟩
theorem pe_str {x j pos} : PE X (.Constant (.str x) j pos) (tC (.str x)) := fun _ _ _ H _ I h => Calls.Constant_str ⟨.str x, H, I.tok _, ⟨_, rfl⟩, h⟩

/-- a global name of the def -/
def Gl (X : Cx) (x : Str) : Prop := X.env.kindOf x = some .globalImplicit
theorem ld_glob {E : Value → Shared → Prop} {pins : List (Addr × Obj)} {s : Shared} {σ : St} {H : Hp} {x : Str} {u : Value} {pos : Pos} {Q : Value → Shared → Prop} (I : Inv X pins σ H s) (hg : Gl X x) (hm : X.mg x = some u) (h : Q u s)
    (hd : (x == ("__debug__" : Str)) = false := by decide) : wpAny (model X.prog X.w) X.A (eval (.Name x pos) X.env) Q E s :=
  Calls.Name_function_global I.ok.kind hg (Calls.loadGlobal_global (by rw [I.ok.glob]; exact I.mod.glob.keeps I.bk) hm h) hd
theorem ld_blt {E : Value → Shared → Prop} {pins : List (Addr × Obj)} {s : Shared} {σ : St} {H : Hp} {x : Str} {u : Value} {pos : Pos} {Q : Value → Shared → Prop} (I : Inv X pins σ H s) (hg : Gl X x) (hm : X.mg x = none) (hv : bootBuiltins x = some u) (h : Q u s)
    (hn : x ≠ "__name__" := by decide) (hd : (x == ("__debug__" : Str)) = false := by decide) : wpAny (model X.prog X.w) X.A (eval (.Name x pos) X.env) Q E s := by
  obtain ⟨mb, h1, h2⟩ := I.mod.blt
  exact Calls.Name_function_global I.ok.kind hg (Calls.loadGlobal_builtin (by rw [I.ok.glob]; exact I.mod.glob.keeps I.bk) hm (by rw [I.ok.blt]; exact h1.keeps I.bk) ((h2 x hn).trans hv) h) hd
/-- a module's constant, a class, a function, as a value -/
theorem pe_glob {x : Str} {v : V} {u : Value} {pos : Pos} (hg : Gl X x) (hm : X.mg x = some u) (r : RelV v u) (hd : (x == ("__debug__" : Str)) = false := by decide) : PE X (.Name x pos) (tC v) :=
  fun _ _ _ H _ I h => ld_glob I hg hm ⟨v, H, I, r, h⟩ hd
theorem pe_bltn {x : Str} {v : V} {u : Value} {pos : Pos} (hg : Gl X x) (hm : X.mg x = none) (hv : bootBuiltins x = some u) (r : RelV v u) (hn : x ≠ "__name__" := by decide) (hd : (x == ("__debug__" : Str)) = false := by decide) : PE X (.Name x pos) (tC v) :=
  fun _ _ _ H _ I h => ld_blt I hg hm hv ⟨v, H, I, r, h⟩ hn hd

/-! ### arithmetic -/
variable {a b : Expr} {ta tb : TE} {pos : Pos}
/-! ### comparisons -/
/-- a comparison as a value, as a test -/
def tB (t : TE) : TT := fun σ H Q => t σ H fun x H1 => ∃ c, x = .bl c ∧ Q c H1
/-! ### and, or, not -/
variable {tA tB' : TT} {rest : List Expr}
def tOr (t u : TT) : TT := fun σ H Q => t σ H fun c H1 => if c = true then Q true H1 else u σ H1 Q
def tNot (t : TT) : TT := fun σ H Q => t σ H fun c H1 => Q (!c) H1
theorem pw_or1 (ha : PT X a tA) : PW X (.BoolOp .Or [a] pos) tA := by
  intro wh pins s σ H Q I h
  refine isTrue_or (thn (ha pins s σ H Q I h) fun c s1 e => ?_)
  cases c with
  | false => exact isTrue_or_nil e
  | true => exact e
theorem pw_or (ha : PT X a tA) (hb : PW X (.BoolOp .Or (b :: rest) pos) tB') : PW X (.BoolOp .Or (a :: b :: rest) pos) (tOr tA tB') := by
  intro wh pins s σ H Q I h
  refine isTrue_or (thn (ha pins s σ H _ I h) fun c s1 ⟨H1, I1, q1⟩ => ?_)
  cases c with
  | true => exact ⟨H1, I1, q1⟩
  | false => exact hb wh pins s1 σ H1 Q I1 q1
theorem pt_not (ha : PT X a tA) : PT X (.UnaryOp .Not a pos) (tNot tA) := by
  intro pins s σ H Q I h
  exact isTrue_not (ha pins s σ H (fun c H1 => Q (!c) H1) I h)
end
end L2

namespace L2
open PySem PySem.Spec PyProof.Rows

/-! ### a list, a tuple that is read: tracked, frozen, or an object of the module -/
def SqL (K : PySem.W.Frag) (H : Hp) (a : Addr) (xs : List V) : Prop :=
  Rd H a (.lst xs) ∨
    ∃ (o : Obj) (its : Array Value) (n : Nat), K.lookup a = some o ∧ o.cls = .type "list" ∧ o.dict = none ∧ o.data = .seq its n ∧ its.size ≤ sizeLine ∧ Vals xs its.toList
def SqT (K : PySem.W.Frag) (H : Hp) (a : Addr) (xs : List V) : Prop :=
  Rd H a (.tup xs) ∨
    ∃ (o : Obj) (its : Array Value) (n : Nat), K.lookup a = some o ∧ o.cls = .type "tuple" ∧ o.data = .seq its n ∧ its.size ≤ sizeLine ∧ Vals xs its.toList
def absV : Value → Option V
  | .none => some .non
  | .bool b => some (.bl b)
  | .int i _ => some (.int i)
  | .str x _ => some (.str x)
  | .bytes b _ => some (.byt b)
  | .float b _ => some (.flt b)
  | .ref a => some (.ref a)
  | .type n => some (.ty n)
  | _ => none
theorem RelV.abs {x : V} {u : Value} (r : RelV x u) : absV u = some x := by
  cases x with
  | non => cases r; rfl
  | bl _ => cases r; rfl
  | int _ => obtain ⟨t, rfl⟩ := r; rfl
  | str _ => obtain ⟨t, rfl⟩ := r; rfl
  | byt _ => obtain ⟨t, rfl⟩ := r; rfl
  | flt _ => obtain ⟨t, rfl⟩ := r; rfl
  | ref _ => cases r; rfl
  | ty _ => cases r; rfl
theorem RelV.inj {x y : V} {u : Value} (r : RelV x u) (q : RelV y u) : x = y := Option.some.inj (r.abs.symm.trans q.abs)
theorem Vals.inj : ∀ {xs ys : List V} {us : List Value}, Vals xs us → Vals ys us → xs = ys
  | _, _, _, .nil, .nil => rfl
  | _, _, _, .cons r t, .cons r' t' => by rw [r.inj r', Vals.inj t t']
section
variable {X : Cx} {pins : List (Addr × Obj)} {σ : St} {H : Hp} {s : Shared} {a : Addr} {xs ys : List V}
theorem SqL.of {K : PySem.W.Frag} (h : H a = some (.lst xs)) : SqL K H a xs := .inl (.inl h)
theorem SqT.of {K : PySem.W.Frag} (h : H a = some (.tup xs)) : SqT K H a xs := .inl (.inl h)
theorem Inv.list (I : Inv X pins σ H s) (h : SqL X.K H a xs) : ∃ its : List Value, Vals xs its ∧ PlainL s.heap a its.toArray ∧ xs.length ≤ sizeLine := by
  rcases h with h | ⟨o, its, n, hk, hc, hd, hs, hz, r⟩
  · obtain ⟨z, its, n, r, e⟩ := h.ok I.hok
    exact ⟨its, r, ⟨_, n, e, rfl, rfl, rfl⟩, z⟩
  · refine ⟨its.toList, r, ⟨o, n, I.kIn a o hk, hc, hd, by simpa using hs⟩, ?_⟩
    have e := r.length
    simp only [Array.length_toList] at e
    omega
theorem Inv.tuple (I : Inv X pins σ H s) (h : SqT X.K H a xs) : ∃ its : List Value, Vals xs its ∧ IsTup s.heap a its.toArray ∧ xs.length ≤ sizeLine := by
  rcases h with h | ⟨o, its, n, hk, hc, hs, hz, r⟩
  · obtain ⟨z, its, r, p⟩ := h.ok I.hok
    exact ⟨its, r, p, z⟩
  · refine ⟨its.toList, r, ⟨o, I.kIn a o hk, hc, n, by simpa using hs⟩, ?_⟩
    have e := r.length
    simp only [Array.length_toList] at e
    omega
theorem Inv.list_inj (I : Inv X pins σ H s) (h : SqL X.K H a xs) (h' : SqL X.K H a ys) : xs = ys := by
  obtain ⟨its, r, ⟨o, n, e, _, _, d⟩, _⟩ := I.list h
  obtain ⟨its', r', ⟨o', n', e', _, _, d'⟩, _⟩ := I.list h'
  rw [e] at e'; cases e'
  rw [d] at d'
  injection d' with d1 _
  have : its = its' := by simpa using congrArg Array.toList d1
  subst this
  exact r.inj r'
end

/-! ### another wish about exceptions -/
abbrev Cx.wish (X : Cx) (E : Value → Shared → Prop) : Cx := { X with xe := E }
/-- no exception leaves -/
abbrev Cx.nox (X : Cx) : Cx := X.wish fun _ _ => False
theorem Cx.Ok.wish {X : Cx} (ok : X.Ok) (E : Value → Shared → Prop) : (X.wish E).Ok :=
  ⟨ok.mod, ok.kind, ok.glob, ok.blt, ok.above, ok.inj, ok.has, ok.cab, ok.hd, ok.frames, ok.stk, ok.exf, ok.bs, ok.bsz, ok.noex, ok.exfs, ok.funs, ok.frf⟩
theorem Cx.Ok.unwish {X : Cx} {E : Value → Shared → Prop} (ok : (X.wish E).Ok) : X.Ok :=
  ⟨ok.mod, ok.kind, ok.glob, ok.blt, ok.above, ok.inj, ok.has, ok.cab, ok.hd, ok.frames, ok.stk, ok.exf, ok.bs, ok.bsz, ok.noex, ok.exfs, ok.funs, ok.frf⟩
section
variable {X : Cx} {pins : List (Addr × Obj)} {σ : St} {H : Hp} {s : Shared} {E : Value → Shared → Prop}
theorem Inv.wish (I : Inv X pins σ H s) (E : Value → Shared → Prop) : Inv (X.wish E) pins σ H s := ⟨I.ok.wish E, I.os, I.bare, I.base, I.loc, I.cell, I.free, I.freeC, I.pin, I.hok, I.len⟩
theorem Inv.unwish (I : Inv (X.wish E) pins σ H s) : Inv X pins σ H s := ⟨I.ok.unwish, I.os, I.bare, I.base, I.loc, I.cell, I.free, I.freeC, I.pin, I.hok, I.len⟩
theorem SP.unwish {D : Ends} {f : Flow} {s' : Shared} (h : SP (X.wish E) pins D f s') : SP X pins D f s' := by
  cases f with
  | next => obtain ⟨σ', H', I, q⟩ := h; exact ⟨σ', H', I.unwish, q⟩
  | brk => obtain ⟨σ', H', I, q⟩ := h; exact ⟨σ', H', I.unwish, q⟩
  | cont => obtain ⟨σ', H', I, q⟩ := h; exact ⟨σ', H', I.unwish, q⟩
  | ret u => obtain ⟨v, σ', H', I, r, q⟩ := h; exact ⟨v, σ', H', I.unwish, r, q⟩
theorem PE.nox {e : Expr} {t : TE} (h : PE X.nox e t) : PE X e t := fun pins s σ H Q I hw =>
  wpAny_mono (h pins s σ H Q (I.wish _) hw) (fun _ _ ⟨v, H', I', r, q⟩ => ⟨v, H', I'.unwish, r, q⟩) fun _ _ z => False.elim z
theorem PT.nox {e : Expr} {t : TT} (h : PT X.nox e t) : PT X e t := fun pins s σ H Q I hw =>
  wpAny_mono (h pins s σ H Q (I.wish _) hw) (fun _ _ ⟨H', I', q⟩ => ⟨H', I'.unwish, q⟩) fun _ _ z => False.elim z
theorem PSs.nox {st : List Stmt} {t : TS} (h : PSs X.nox st t) : PSs X st t := fun pins s σ H D I hw =>
  wpAny_mono (h pins s σ H D (I.wish _) hw) (fun _ _ q => q.unwish) fun _ _ z => False.elim z
end

/-! ### blocks and small statements -/
section
variable {X : Cx} {st : Stmt} {rest : List Stmt} {t u : TS} {e : Expr} {te : TE} {pos : Pos}
def tNext : TS := fun D σ H => D.nx σ H
def tSeq (t u : TS) : TS := fun D σ H => t { D with nx := u D } σ H
theorem pss_nil : PSs X [] tNext := fun _ _ σ H _ I h => wpAny_execs_nil ⟨σ, H, I, h⟩
theorem pss_cons (h1 : PS X st t) (h2 : PSs X rest u) : PSs X (st :: rest) (tSeq t u) := by
  intro pins s σ H D I h
  refine wpAny_execs_cons (thn (h1 pins s σ H { D with nx := u D } I h) fun f s1 q => ?_)
  cases f with
  | next =>
    obtain ⟨σ', H', I', q⟩ := q
    exact h2 pins s1 σ' H' D I' q
  | ret v => exact q
  | brk => exact q
  | cont => exact q
theorem pss_one (h1 : PS X st t) : PSs X [st] t := by
  intro pins s σ H D I h
  refine wpAny_execs_cons (thn (h1 pins s σ H D I h) fun f s1 q => ?_)
  cases f with
  | next => exact wpAny_execs_nil q
  | ret v => exact q
  | brk => exact q
  | cont => exact q
/-- in a def's body nothing is shown -/
theorem Inv.quiet {pins : List (Addr × Obj)} {σ : St} {H : Hp} {s : Shared} (I : Inv X pins σ H s) : interactive X.env = false := by simp [interactive, I.ok.kind]
/-- an expression whose value is dropped -/
def tDrop (te : TE) : TS := fun D σ H => te σ H fun _ H1 => D.nx σ H1
theorem ps_expr (he : PE X e te) (hs : swapsWith e none pos.line X.env = pure false := by rfl) : PS X (.Expr e pos) (tDrop te) := by
  intro pins s σ H D I h
  exact wpAny_Expr_any (thn (he pins s σ H _ I h) fun v s1 ⟨x, H1, I1, r1, q1⟩ => ⟨σ, H1, I1, q1⟩) I.quiet hs
def tRet (te : TE) : TS := fun D σ H => te σ H D.rt
theorem ps_ret (he : PE X e te) : PS X (.Return (some e) pos) (tRet te) := by
  intro pins s σ H D I h
  exact wpAny_Return_some (thn (he pins s σ H _ I h) fun v s1 ⟨x, H1, I1, r1, q1⟩ => ⟨x, σ, H1, I1, r1, q1⟩)
/-- code that the proof never comes to -/
def tNever : TS := fun _ _ _ => False
theorem pss_never {sts : List Stmt} : PSs X sts tNever := fun _ _ _ _ _ _ h => h.elim
end

/-! ### targets -/
abbrev TG := V → St → Hp → (St → Hp → Prop) → Prop
abbrev TGs := List V → St → Hp → (St → Hp → Prop) → Prop
def PG (X : Cx) (target : Expr) (t : TG) : Prop :=
  ∀ (pins : List (Addr × Obj)) (s : Shared) (σ : St) (H : Hp) (v : V) (u : Value) (Q : St → Hp → Prop), Inv X pins σ H s → RelV v u → t v σ H Q →
    wpAny (model X.prog X.w) X.A (assign target X.env u) (fun _ s' => ∃ σ' H', Inv X pins σ' H' s' ∧ Q σ' H') X.xe s
/-- several targets, one after another -/
def PGs (X : Cx) (ts : List Expr) (t : TGs) : Prop :=
  ∀ (pins : List (Addr × Obj)) (s : Shared) (σ : St) (H : Hp) (vs : List V) (us : List Value) (Q : St → Hp → Prop), Inv X pins σ H s → Vals vs us → t vs σ H Q →
    wpAny (model X.prog X.w) X.A (assignInOrder ((assignEach ts X.env).map (·.2)) us) (fun _ s' => ∃ σ' H', Inv X pins σ' H' s' ∧ Q σ' H') X.xe s
/-- o[i] = v, by values -/
abbrev TSet := V → V → V → Hp → (Hp → Prop) → Prop
def PSet (X : Cx) (t : TSet) : Prop :=
  ∀ (pins : List (Addr × Obj)) (s : Shared) (σ : St) (H : Hp) (o i v : V) (ov iv u : Value) (Q : Hp → Prop), Inv X pins σ H s → RelV o ov → RelV i iv → RelV v u → t o i v H Q →
    wpAny (model X.prog X.w) X.A (setItem ov iv u) (fun _ s' => ∃ H', Inv X pins σ H' s' ∧ Q H') X.xe s
section
variable {X : Cx} {pos : Pos}
def gName (i : Nat) : TG := fun v σ H Q => Q (σ.set i (some v)) H
theorem pg_name {i : Nat} {x : Str} (hN : X.N.Nodup) (hi : X.N[i]? = some x) (hx : Loc X.env.scope x) (hf : X.fn x = true ∨ X.env.scope.names.lookup x = some .local := by first | exact .inl rfl | exact .inr rfl | assumption) : PG X (.Name x pos) (gName i) := by
  intro pins s σ H v u Q I r h
  exact wpAny_assign_Name (store_ok I hN hi hx r (fun s' I' => ⟨_, H, I', h⟩) hf)
def gNil : TGs := fun vs σ H Q => vs = [] ∧ Q σ H
def gCons (t : TG) (u : TGs) : TGs := fun vs σ H Q => ∃ v r, vs = v :: r ∧ t v σ H fun σ' H' => u r σ' H' Q
theorem pgs_nil : PGs X [] gNil := by
  intro pins s σ H vs us Q I r h
  obtain ⟨e, h⟩ := h
  subst e
  cases r
  exact assignInOrder_nil ⟨σ, H, I, h⟩
theorem pgs_cons {e : Expr} {es : List Expr} {t : TG} {u : TGs} (h1 : PG X e t) (h2 : PGs X es u)
    (hs : (assignEach (e :: es) X.env).map (·.2) = assign e X.env :: (assignEach es X.env).map (·.2) := by rfl) : PGs X (e :: es) (gCons t u) := by
  intro pins s σ H vs us Q I r h
  obtain ⟨v, vr, e1, h⟩ := h
  subst e1
  cases r with
  | cons r rr =>
    rw [hs]
    refine assignInOrder_cons (thn (h1 pins s σ H _ _ _ I r h) fun _ s1 ⟨σ1, H1, I1, q1⟩ => ?_)
    exact h2 pins s1 σ1 H1 _ _ Q I1 rr q1
/-- (a, b, ..) = a tuple of that length -/
def gTup (K : PySem.W.Frag) (n : Nat) (t : TGs) : TG := fun v σ H Q => ∃ a xs, v = .ref a ∧ SqT K H a xs ∧ xs.length = n ∧ t xs σ H Q
theorem pg_tup {es : List Expr} {k : Nat} {t : TGs} {n : Nat} (hc : X.calm = true) (h : PGs X es t)
    (hn : (assignEach es X.env).length = n := by rfl) (hst : (assignEach es X.env).findIdx? (·.1) = none := by rfl) : PG X (.Tuple es k pos) (gTup X.K n t) := by
  intro pins s σ H v u Q I r hw
  obtain ⟨a, xs, e1, hq, hl, hw⟩ := hw
  subst e1
  cases r
  obtain ⟨its, rv, ht, hz⟩ := I.tuple hq
  refine assign_Tuple_tuple (I.ok.hd hc) ht (by simp [hn, ← hl, rv.length]) hst fun h' hx => ?_
  have I1 : Inv X pins σ H { s with heap := h' } := I.kept (t' := s.toks) fun b o e => hx b o (Nat.ne_of_lt (Heap.lt_size e)) e
  exact h pins _ σ H xs _ Q I1 (by simpa using rv) hw
/-- o[i] = .. -/
def gSub (to ti : TE) (t : TSet) : TG := fun v σ H Q => to σ H fun o H1 => ti σ H1 fun i H2 => t o i v H2 fun H3 => Q σ H3
theorem pg_sub {o i : Expr} {to ti : TE} {t : TSet} (ho : PE X o to) (hi : PE X i ti) (hs : PSet X t)
    (ha : ∀ v, assign (.Subscript o i pos) X.env v = (do
      let ov ← holding [v] (eval o X.env)
      let iv ← holding [v, ov] (eval i X.env)
      standAt pos
      holding [v, ov, iv] (setItem ov iv v)
      release [v, ov, iv] []) := by intro _; rfl) : PG X (.Subscript o i pos) (gSub to ti t) := by
  intro pins s σ H v u Q I r h
  rw [ha]
  refine wpAny_bind (wpAny_holding (thn (ho pins s σ H _ I h) fun ov s1 ⟨x, H1, I1, r1, q1⟩ => ?_))
  refine wpAny_bind (wpAny_holding (thn (hi pins s1 σ H1 _ I1 q1) fun iv s2 ⟨y, H2, I2, r2, q2⟩ => ?_))
  refine wpAny_bind (wpAny_standAt (wpAny_bind (wpAny_holding (thn (hs pins s2 σ H2 x y v ov iv u _ I2 r1 r2 r q2) fun _ s3 ⟨H3, I3, q3⟩ => ?_))))
  exact wpAny_release ⟨σ, H3, I3, q3⟩
/-- target = value -/
def tAsg (te : TE) (g : TG) : TS := fun D σ H => te σ H fun x H1 => g x σ H1 D.nx
theorem ps_asg {tg e : Expr} {te : TE} {g : TG} (he : PE X e te) (hg : PG X tg g) (hs : swapsWithSole [tg] e pos.line X.env = pure false := by rfl) (hw : swappedStores [tg] e X.env = pure none := by rfl)
    (h1 : (assignEach [tg] X.env).map (·.2) = [assign tg X.env] := by rfl) : PS X (.Assign [tg] e pos) (tAsg te g) := by
  intro pins s σ H D I h
  refine wpAny_Assign_stores (thn (he pins s σ H _ I h) fun v s1 ⟨x, H1, I1, r1, q1⟩ => ?_) hs hw
  rw [h1]
  exact thn (hg pins s1 σ H1 x v _ I1 r1 q1) fun _ s2 q => q
/-- name = value -/
theorem ps_set {i : Nat} {x : Str} {e : Expr} {te : TE} {pos' : Pos} (hN : X.N.Nodup) (hi : X.N[i]? = some x) (hx : Loc X.env.scope x) (he : PE X e te) (hs : swapsWith e (some (.Name x pos')) pos.line X.env = pure false := by rfl) (hf : X.fn x = true ∨ X.env.scope.names.lookup x = some .local := by first | exact .inl rfl | exact .inr rfl | assumption) :
    PS X (.Assign [.Name x pos'] e pos) (tAsg te (gName i)) := by
  intro pins s σ H D I h
  refine wpAny_Assign_Name (thn (he pins s σ H _ I h) fun v s1 ⟨y, H1, I1, r1, q1⟩ => ?_) hs
  exact store_ok I1 hN hi hx r1 (fun s2 I2 => ⟨_, H1, I2, q1⟩) hf
end

/-! ### while -/
section
variable {X : Cx} {pos : Pos}
end

/-! ### what a loop or a comprehension walks -/
/-- at turn i: it yields x (the heap may grow), or it stops -/
structure It where
  go : Nat → Hp → Prop
  yld : Nat → Hp → V → Hp → Prop
  stop : Nat → Hp → Prop
/-- the iterator's own objects may turn: they are not the frame's, not pinned, younger than the entry (or a comprehension's own) -/
def FpOk (X : Cx) (pins : List (Addr × Obj)) (H : Hp) (b : Addr) : Prop :=
  H b = none ∧ b ≠ X.env.locals ∧ b ∉ X.fs ∧ (b ∈ X.ex ∨ X.s₀.heap.objs.size ≤ b) ∧ (∀ x c, X.env.cells.lookup x = some c → c ≠ b) ∧ ∀ p ∈ X.pn ++ pins, p.1 ≠ b
theorem Inv.fpOk {X : Cx} {pins : List (Addr × Obj)} {σ : St} {H H' : Hp} {s : Shared} {b : Addr} (I : Inv X pins σ H s) (hb : s.heap.objs.size ≤ b) (hn : H' b = none) : FpOk X pins H' b := by
  refine ⟨hn, Nat.ne_of_gt (Nat.lt_of_lt_of_le I.lt hb), I.nofs hb, .inr (Nat.le_trans I.sz hb), fun x c e z => ?_, fun p hp z => ?_⟩
  · obtain ⟨v, q⟩ := I.cell x c e
    exact absurd (Nat.lt_of_lt_of_le q.lt (by rw [z]; exact hb)) (Nat.lt_irrefl _)
  · exact absurd (Nat.lt_of_lt_of_le (Heap.lt_size (I.pin p hp).1) (by rw [z]; exact hb)) (Nat.lt_irrefl _)
structure Turn (P : Program) (w : World) (K : PySem.W.Frag) (tg : Expr) (J : It) (fp : List Addr) (it : Addr) (tn : Nat → Heap → Prop) : Prop where
  mem : it ∈ fp
  obj : ∀ i h, tn i h → ∀ b ∈ fp, ∃ o, h.get? b = some o ∧ ∀ v, o.data ≠ .cell v
  keep : ∀ i h h', tn i h → (∀ b ∈ fp, ∀ o, h.get? b = some o → h'.get? b = some o) → tn i h'
  item : ∀ (X : Cx), X.prog = P → X.w = w → X.K = K → X.calm = true → ∀ (i : Nat) (pins : List (Addr × Obj)) (s : Shared) (σ : St) (H : Hp) (E : Value → Shared → Prop), Inv X pins σ H s → (∀ b ∈ fp, FpOk X pins H b) → tn i s.heap → J.go i H →
    wpAny (model P w) X.A (pyNext (.ref it)) (fun r s1 => ∃ u, r = some u ∧
      wpAny (model P w) X.A (letOwnedTupleGo tg (.ref it) u) (fun _ s2 => ∃ x H', Inv X pins σ H' s2 ∧ RelV x u ∧ J.yld i H x H' ∧ tn (i + 1) s2.heap ∧ ∀ b ∈ fp, H' b = none) E s1) E s
  done : ∀ (X : Cx), X.prog = P → X.w = w → X.K = K → X.calm = true → ∀ (i : Nat) (pins : List (Addr × Obj)) (s : Shared) (σ : St) (H : Hp) (E : Value → Shared → Prop), Inv X pins σ H s → (∀ b ∈ fp, FpOk X pins H b) → tn i s.heap → J.stop i H →
    wpAny (model P w) X.A (pyNext (.ref it)) (fun r s1 => r = none ∧ Inv X pins σ H s1) E s
  self : ∀ (A : Around) (i : Nat) (s : Shared) (Q : Value → Shared → Prop) (E : Value → Shared → Prop), tn i s.heap → Q (.ref it) s → wpAny (model P w) A (pyIter (.ref it)) Q E s
abbrev TI := St → Hp → (It → Hp → Prop) → Prop
/-- an iterator has come -/
def PIE (X : Cx) (pins : List (Addr × Obj)) (σ : St) (tg : Expr) (R : It → Hp → Prop) (itv : Value) (s2 : Shared) : Prop :=
  ∃ (it : Addr) (fp : List Addr) (tn : Nat → Heap → Prop) (J : It) (H' : Hp), itv = .ref it ∧ Inv X pins σ H' s2 ∧ Turn X.prog X.w X.K tg J fp it tn ∧ tn 0 s2.heap ∧ (∀ b ∈ fp, FpOk X pins H' b) ∧ R J H'
def PI (X : Cx) (tg iter : Expr) (wi : TI) : Prop :=
  ∀ (pins : List (Addr × Obj)) (s : Shared) (σ : St) (H : Hp) (R : It → Hp → Prop), Inv X pins σ H s → wi σ H R →
    wpAny (model X.prog X.w) X.A (eval iter X.env) (fun v s1 => wpAny (model X.prog X.w) X.A (pyIter v) (PIE X pins σ tg R) X.xe s1) X.xe s

/-- the step ahead of the store is nothing for an iterator that keeps no tuple -/
theorem go_of {M : Model} {A : Around} {E : Value → Shared → Prop} {s : Shared} {tg : Expr} {it : Addr} {u : Value} {o : Obj} {n : String} {vs : Array Value} {Q : Unit → Shared → Prop} (ho : s.heap.get? it = some o) (hc : o.cls = .type n) (hd : o.data = .fields vs)
    (hn : ["enumerate", "zip", "dict_itemiterator", "dict_reverseitemiterator", "odict_iterator", "itertools.zip_longest", "itertools.pairwise"].contains n = false) (hQ : Q () s) : wpAny M A (letOwnedTupleGo tg (.ref it) u) Q E s := by
  unfold letOwnedTupleGo
  cases tg <;> first
    | exact wpAny_pure hQ
    | (cases u <;> first
        | exact wpAny_pure hQ
        | (refine wpAny_bind (wpAny_load ho ?_)
           rw [hc, hd]
           show wpAny M A (if (["enumerate", "zip", "dict_itemiterator", "dict_reverseitemiterator", "odict_iterator", "itertools.zip_longest", "itertools.pairwise"].contains n && vs[0]? == some (rawInt _)) = true then _ else _) Q E s
           rw [if_neg (by intro h; rw [hn, Bool.false_and] at h; cases h)]
           exact wpAny_pure hQ))

/-- the list at a, as it stands at each turn (a loop may append to it) -/
def Itl (K : PySem.W.Frag) (a : Addr) : It :=
  ⟨fun i H => ∃ xs x, SqL K H a xs ∧ xs[i]? = some x, fun i H x H' => H' = H ∧ ∀ xs, SqL K H a xs → xs[i]? = some x, fun i H => ∃ xs, SqL K H a xs ∧ xs.length ≤ i⟩
/-- lo, lo + 1, .. (n of them) -/
def Itr (lo : Int) (n : Nat) : It := ⟨fun i _ => i < n, fun i H x H' => H' = H ∧ x = .int (lo + i), fun i _ => n ≤ i⟩
theorem turn_list {P : Program} {w : World} {K : PySem.W.Frag} {tg : Expr} (a it : Addr) : Turn P w K tg (Itl K a) [it] it (fun i h => h.IsListIter it a i) where
  mem := by simp
  obj := fun i h st b hb => by
    have e : b = it := by simpa using hb
    subst e
    obtain ⟨o, e, c, d⟩ := st
    exact ⟨o, e, fun v z => by rw [d] at z; cases z⟩
  keep := fun i h h' st k => st.at fun o e => k it (by simp) o e
  item := by
    intro X hP hw hK hc i pins s σ H E I hf st hg
    subst hP hw hK
    obtain ⟨xs, x, hq, hx⟩ := hg
    obtain ⟨its, rv, p, hz⟩ := I.list hq
    obtain ⟨u, hu, ru⟩ := rv.get hx
    obtain ⟨f0, f1, f2, f3, f4, f5⟩ := hf it (by simp)
    refine wpAny_pyNext_list_item st p.isList (x := u) (by simpa using hu) fun h' st' sb => ?_
    have I1 : Inv X pins σ H { s with heap := h' } := I.turned (t' := s.toks) (fun b o hb e => (sb.2 b hb).trans e) f0 f1 f3 f4 f5
    obtain ⟨o, e, c, d⟩ := id st'
    exact ⟨u, rfl, go_of (s := { s with heap := h' }) e c d (by decide) ⟨x, H, I1, ru, ⟨rfl, fun ys hy => by rw [I.list_inj hy hq]; exact hx⟩, st', fun b hb => (hf b hb).1⟩⟩
  done := by
    intro X hP hw hK hc i pins s σ H E I hf st hg
    subst hP hw hK
    obtain ⟨xs, hq, hx⟩ := hg
    obtain ⟨its, rv, p, hz⟩ := I.list hq
    obtain ⟨f0, f1, f2, f3, f4, f5⟩ := hf it (by simp)
    have hl := rv.length
    exact wpAny_pyNext_list_end (I.ok.hd hc) st p.isList (by simp; omega) fun h' eb => ⟨rfl, I.turned (t' := s.toks) (fun b o hb e => eb b o hb e) f0 f1 f3 f4 f5⟩
  self := fun _ _ _ _ _ st h => wpAny_pyIter_listiter st h
theorem turn_range {P : Program} {w : World} {K : PySem.W.Frag} {tg : Expr} (it : Addr) (lo : Int) (n : Nat) : Turn P w K tg (Itr lo n) [it] it (fun i h => IsRangeIter h it (lo + (i : Nat) * 1) ((n : Int) - (i : Nat)) 1) where
  mem := by simp
  obj := fun i h st b hb => by
    have e : b = it := by simpa using hb
    subst e
    exact ⟨_, st, fun v z => by
      have z' : Data.fields _ = Data.cell v := z
      cases z'⟩
  keep := fun i h h' st k => k it (by simp) _ st
  item := by
    intro X hP hw hK hc i pins s σ H E I hf st hg
    subst hP hw hK
    obtain ⟨f0, f1, f2, f3, f4, f5⟩ := hf it (by simp)
    have W := Walks.range (prog := X.prog) (w := X.w) (I.ok.hd hc) it lo 1 n
    refine W.item i s _ _ hg st fun v h' tk hv st' kk => ?_
    obtain ⟨t, rfl⟩ := hv
    have I1 : Inv X pins σ H { s with heap := h', toks := tk } := I.turned (fun b o hb e => kk b o (by simpa using hb) e) f0 f1 f3 f4 f5
    refine ⟨_, rfl, go_of (s := { s with heap := h', toks := tk }) (n := "range_iterator") st' rfl rfl (by decide) ⟨.int (lo + i), H, I1, ⟨t, ?_⟩, ⟨rfl, rfl⟩, st', fun b hb => (hf b hb).1⟩⟩
    rw [Int.mul_one]
  done := by
    intro X hP hw hK hc i pins s σ H E I hf st hg
    subst hP hw hK
    obtain ⟨f0, f1, f2, f3, f4, f5⟩ := hf it (by simp)
    exact wpAny_pyNext_range_end (I.ok.hd hc) st (by have : n ≤ i := hg; omega) fun h' eb => ⟨rfl, I.turned (t' := s.toks) (fun b o hb e => eb b o hb e) f0 f1 f3 f4 f5⟩
  self := fun _ _ _ _ _ st h => wpAny_pyIter_rangeiter st h
end L2

namespace L2
open PySem PySem.Spec PyProof.Rows
section
variable {X : Cx} {tg : Expr}
/-- a range object just made, walked -/
theorem range_it {pins : List (Addr × Obj)} {σ : St} {H : Hp} {s : Shared} {R : It → Hp → Prop} {E : Value → Shared → Prop} {lo hi : Int} {t u v : Tok} {tk : Nat} (I : Inv X pins σ H s) (h1 : -(2 ^ 62) ≤ lo) (h2 : lo < 2 ^ 62) (h3 : -(2 ^ 62) ≤ hi) (h4 : hi < 2 ^ 62)
    (q : R (Itr lo (hi - lo).toNat) H) : wpAny (model X.prog X.w) X.A (pyIter (.ref s.heap.objs.size)) (PIE X pins σ tg R) E { s with heap := s.heap.push { cls := .type "range", data := .fields #[.int lo t, .int hi u, .int 1 v] }, toks := tk } := by
  refine wpAny_pyIter_range (IsRange.new ..) (small_one h1 h2 h3 h4) ?_
  have I1 : Inv X pins σ H { s with heap := s.heap.push { cls := .type "range", data := .fields #[.int lo t, .int hi u, .int 1 v] }, toks := tk } := I.kept fun b o e => Heap.get?_push_of_some _ e
  refine ⟨(s.heap.push { cls := .type "range", data := .fields #[.int lo t, .int hi u, .int 1 v] }).objs.size, [(s.heap.push { cls := .type "range", data := .fields #[.int lo t, .int hi u, .int 1 v] }).objs.size], _, _, H, rfl,
    I1.kept (t' := tk) fun b o e => Heap.get?_push_of_some _ e, turn_range _ lo (hi - lo).toNat, ?_, fun b hb => ?_, q⟩
  · have e1 : lo + ((0 : Nat) : Int) * 1 = lo := by simp
    have e2 : (((hi - lo).toNat : Nat) : Int) - ((0 : Nat) : Int) = Builtin.Range.rangeSize lo hi 1 := by rw [rangeSize_one]; split <;> omega
    show IsRangeIter _ _ (lo + ((0 : Nat) : Int) * 1) ((((hi - lo).toNat : Nat) : Int) - ((0 : Nat) : Int)) 1
    rw [e1, e2]
    exact Heap.get?_push_size _ rfl
  · have e : b = (s.heap.push { cls := .type "range", data := .fields #[.int lo t, .int hi u, .int 1 v] }).objs.size := by simpa using hb
    subst e
    exact I1.fpOk (Nat.le_refl _) (I1.hok.fresh (Nat.le_refl _))
/-! ### for -/
/-- W: the invariant by the turn and a measure; N: what the body is to reach -/
def tFor (wi : TI) (g : TG) (tb : TS) : TS := fun D σ H => wi σ H fun J H1 => ∃ W : Nat → Nat → St → Hp → Prop, (∃ m, W 0 m σ H1) ∧ ∀ i m σ H, W i m σ H →
  (J.stop i H ∧ D.nx σ H) ∨ (J.go i H ∧ ∃ N : St → Hp → Prop, (∀ σ' H', N σ' H' → ∃ m', m' < m ∧ W (i + 1) m' σ' H') ∧ ∀ x H', J.yld i H x H' → g x σ H' fun σ2 H2 => tb { D with nx := N, ct := N, bk := D.nx } σ2 H2)
/-- the records at fp as they stand -/
def pinsAt (fp : List Addr) (h : Heap) : List (Addr × Obj) := fp.filterMap fun b => (h.get? b).map fun o => (b, o)
theorem mem_pinsAt {fp : List Addr} {h : Heap} {b : Addr} {o : Obj} (hb : b ∈ fp) (e : h.get? b = some o) : (b, o) ∈ pinsAt fp h := List.mem_filterMap.mpr ⟨b, hb, by rw [e]; rfl⟩
theorem of_pinsAt {fp : List Addr} {h : Heap} {p : Addr × Obj} (hp : p ∈ pinsAt fp h) : p.1 ∈ fp ∧ h.get? p.1 = some p.2 := by
  obtain ⟨b, hb, e⟩ := List.mem_filterMap.mp hp
  cases q : h.get? b with
  | none => rw [q] at e; cases e
  | some o =>
    rw [q] at e
    have e' : (b, o) = p := Option.some.inj e
    subst e'
    exact ⟨hb, q⟩
theorem Inv.pinned {pins : List (Addr × Obj)} {σ : St} {H : Hp} {s : Shared} {fp : List Addr} (I : Inv X pins σ H s) (hf : ∀ b ∈ fp, FpOk X pins H b) (ho : ∀ b ∈ fp, ∃ o, s.heap.get? b = some o ∧ ∀ v, o.data ≠ .cell v) : Inv X (pins ++ pinsAt fp s.heap) σ H s :=
  I.pins_of fun p hp => (List.mem_append.mp hp).elim (fun z => I.pin p (List.mem_append_right _ z)) fun z => by
    obtain ⟨hb, e⟩ := of_pinsAt z
    obtain ⟨f0, f1, f2, _⟩ := hf p.1 hb
    obtain ⟨o, e', d⟩ := ho p.1 hb
    rw [e] at e'; cases e'
    exact ⟨e, f0, f1, f2, d⟩
theorem Inv.unpinned {pins pl : List (Addr × Obj)} {σ : St} {H : Hp} {s : Shared} (I : Inv X (pins ++ pl) σ H s) : Inv X pins σ H s := I.pins_of fun p hp => I.pin p (List.mem_append_right _ (List.mem_append_left _ hp))
theorem ps_for {iter : Expr} {body : List Stmt} {wi : TI} {g : TG} {tb : TS} {pos : Pos} (hp : PassesOwn (model X.prog X.w) X.A X.env X.xe) (hc : X.calm = true) (hi : PI X tg iter wi) (hg : PG X tg g) (hb : PSs X body tb)
    (hs : ∀ x, foldedSetIterable iter X.env x = pure x := by intro _; rfl) : PS X (.For tg iter body [] pos) (tFor wi g tb) := by
  intro pins s σ H D I h
  refine wpAny_For (thn (hi pins s σ H _ I h) fun v s1 h1 => thn h1 fun itv s2 h2 => ?_) hs
  obtain ⟨it, fp, tn, J, H2, e, I2, T, st2, f2, W, ⟨m0, w0⟩, turn⟩ := h2
  subst e
  -- what stays true of the iterator's objects through the loop
  have stat : ∀ {H' : Hp}, (∀ b ∈ fp, H' b = none) → ∀ b ∈ fp, FpOk X pins H' b := fun hn b hb => ⟨hn b hb, (f2 b hb).2⟩
  refine codeAny_forLoop_any (fun n s' => ∃ i σ' H', Inv X pins σ' H' s' ∧ tn i s'.heap ∧ (∀ b ∈ fp, H' b = none) ∧ W i n σ' H') ?_ m0 ⟨0, σ, H2, I2, st2, fun b hb => (f2 b hb).1, w0⟩
  rintro n s3 ⟨i, σ3, H3, I3, st3, fr3, w3⟩
  rcases turn i n σ3 H3 w3 with ⟨stop, qn⟩ | ⟨go, N, hN, step⟩
  · refine wpAny_passesOwn hp (thn (T.done X rfl rfl rfl hc i pins s3 σ3 H3 X.xe I3 (stat fr3) st3 stop) fun r s4 ⟨hr, I4⟩ => ?_)
    subst hr
    exact wpAny_execs_nil ⟨σ3, H3, I4, qn⟩
  · refine wpAny_passesOwn hp (thn (T.item X rfl rfl rfl hc i pins s3 σ3 H3 X.xe I3 (stat fr3) st3 go) fun r s4 ⟨u, hr, h4⟩ => ?_)
    subst hr
    refine wpAny_passesOwn hp (thn h4 fun _ s5 ⟨x, H5, I5, r5, y5, st5, fr5⟩ => ?_)
    have I5' := I5.pinned (stat fr5) (T.obj _ _ st5)
    refine wpAny_passesOwn hp (thn (hg _ s5 σ3 H5 x u _ I5' r5 (step x H5 y5)) fun _ s6 ⟨σ6, H6, I6, q6⟩ => ?_)
    refine wpAny_passesOwn hp (thn (hb _ s6 σ6 H6 _ I6 q6) fun f s7 q7 => ?_)
    have again : ∀ {σ7 : St} {H7 : Hp}, Inv X (pins ++ pinsAt fp s5.heap) σ7 H7 s7 → N σ7 H7 → ∃ m, m < n ∧ ∃ i σ' H', Inv X pins σ' H' s7 ∧ tn i s7.heap ∧ (∀ b ∈ fp, H' b = none) ∧ W i m σ' H' := fun {σ7 H7} I7 n7 => by
      obtain ⟨m', hm, w7⟩ := hN σ7 H7 n7
      refine ⟨m', hm, i + 1, σ7, H7, I7.unpinned, T.keep _ _ _ st5 fun b hb o e => (I7.pin (b, o) (List.mem_append_right _ (List.mem_append_right _ (mem_pinsAt hb e)))).1, fun b hb => ?_, w7⟩
      obtain ⟨o, e, d⟩ := T.obj _ _ st5 b hb
      exact (I7.pin (b, o) (List.mem_append_right _ (List.mem_append_right _ (mem_pinsAt hb e)))).2.1
    cases f with
    | next => obtain ⟨σ7, H7, I7, n7⟩ := q7; exact again I7 n7
    | cont => obtain ⟨σ7, H7, I7, n7⟩ := q7; exact again I7 n7
    | brk => obtain ⟨σ7, H7, I7, q7⟩ := q7; exact ⟨σ7, H7, I7.unpinned, q7⟩
    | ret v => obtain ⟨x7, σ7, H7, I7, r7, q7⟩ := q7; exact ⟨x7, σ7, H7, I7.unpinned, r7, q7⟩
end

/-! ### the forms one uses -/
/-- over a list that the body leaves as it is -/
theorem for_list {K : PySem.W.Frag} {a : Addr} {xs : List V} {g : TG} {tb : TS} {D : Ends} {σ : St} {H : Hp} (Pv : Nat → St → Hp → Prop) (h0 : Pv 0 σ H) (hl : ∀ i σ H, i ≤ xs.length → Pv i σ H → SqL K H a xs)
    (hs : ∀ i x σ H, xs[i]? = some x → Pv i σ H → g x σ H fun σ2 H2 => tb { D with nx := Pv (i + 1), ct := Pv (i + 1), bk := D.nx } σ2 H2) (hd : ∀ σ H, Pv xs.length σ H → D.nx σ H) :
    ∃ W : Nat → Nat → St → Hp → Prop, (∃ m, W 0 m σ H) ∧ ∀ i m σ H, W i m σ H →
      ((Itl K a).stop i H ∧ D.nx σ H) ∨ ((Itl K a).go i H ∧ ∃ N : St → Hp → Prop, (∀ σ' H', N σ' H' → ∃ m', m' < m ∧ W (i + 1) m' σ' H') ∧ ∀ x H', (Itl K a).yld i H x H' → g x σ H' fun σ2 H2 => tb { D with nx := N, ct := N, bk := D.nx } σ2 H2) := by
  refine ⟨fun i m σ H => m = xs.length - i ∧ i ≤ xs.length ∧ Pv i σ H, ⟨xs.length, by simp, Nat.zero_le _, h0⟩, ?_⟩
  rintro i m σ H ⟨rfl, hi, p⟩
  have q := hl i σ H hi p
  by_cases hlt : i < xs.length
  · refine .inr ⟨⟨xs, xs[i], q, by simp [hlt]⟩, Pv (i + 1), fun σ' H' p' => ⟨xs.length - (i + 1), by omega, rfl, hlt, p'⟩, fun x H' y => ?_⟩
    obtain ⟨e, y⟩ := y
    subst e
    exact hs i x σ _ (y xs q) p
  · have e : i = xs.length := by omega
    subst e
    exact .inl ⟨⟨xs, q, Nat.le_refl _⟩, hd σ H p⟩
theorem for_range {lo : Int} {n : Nat} {g : TG} {tb : TS} {D : Ends} {σ : St} {H : Hp} (Pv : Nat → St → Hp → Prop) (h0 : Pv 0 σ H)
    (hs : ∀ i σ H, i < n → Pv i σ H → g (.int (lo + i)) σ H fun σ2 H2 => tb { D with nx := Pv (i + 1), ct := Pv (i + 1), bk := D.nx } σ2 H2) (hd : ∀ σ H, Pv n σ H → D.nx σ H) :
    ∃ W : Nat → Nat → St → Hp → Prop, (∃ m, W 0 m σ H) ∧ ∀ i m σ H, W i m σ H →
      ((Itr lo n).stop i H ∧ D.nx σ H) ∨ ((Itr lo n).go i H ∧ ∃ N : St → Hp → Prop, (∀ σ' H', N σ' H' → ∃ m', m' < m ∧ W (i + 1) m' σ' H') ∧ ∀ x H', (Itr lo n).yld i H x H' → g x σ H' fun σ2 H2 => tb { D with nx := N, ct := N, bk := D.nx } σ2 H2) := by
  refine ⟨fun i m σ H => m = n - i ∧ i ≤ n ∧ Pv i σ H, ⟨n, by simp, Nat.zero_le _, h0⟩, ?_⟩
  rintro i m σ H ⟨rfl, hi, p⟩
  by_cases hlt : i < n
  · refine .inr ⟨hlt, Pv (i + 1), fun σ' H' p' => ⟨n - (i + 1), by omega, rfl, hlt, p'⟩, fun x H' y => ?_⟩
    obtain ⟨e, y⟩ := y
    subst e y
    exact hs i σ _ hlt p
  · have e : i = n := by omega
    subst e
    exact .inl ⟨Nat.le_refl _, hd σ H p⟩
end L2

namespace L2
open PySem PySem.Spec PyProof.Rows

abbrev R2 := V → V → Hp → VK → Prop
/-- a two-place operation on values: f is binaryOp op, inplaceOp op or compareOp op -/
def OpR (X : Cx) (f : Value → Value → Sem Value) (r : R2) : Prop :=
  ∀ (pins : List (Addr × Obj)) (s : Shared) (σ : St) (H : Hp) (x y : V) (v u : Value) (Q : VK), Inv X pins σ H s → RelV x v → RelV y u → r x y H Q →
    wpAny (model X.prog X.w) X.A (f v u) (EP X pins σ Q) X.xe s
/-- a call of a value that is known (a builtin, a type) with values -/
def CallR (X : Cx) (f : Value) (r : List V → Hp → VK → Prop) : Prop :=
  ∀ (pins : List (Addr × Obj)) (s : Shared) (σ : St) (H : Hp) (xs : List V) (us : List Value) (Q : VK), Inv X pins σ H s → Vals xs us → r xs H Q →
    wpAny (model X.prog X.w) X.A (call f us) (EP X pins σ Q) X.xe s
def tOp (r : R2) (ta tb : TE) : TE := fun σ H Q => ta σ H fun x H1 => tb σ H1 fun y H2 => r x y H2 Q
/-- ints in, under C, and a value out -/
def rI (C : Int → Int → Prop) (g : Int → Int → V) : R2 := fun x y H Q => ∃ i j, x = .int i ∧ y = .int j ∧ C i j ∧ Q (g i j) H
def rI0 (g : Int → Int → V) : R2 := fun x y H Q => ∃ i j, x = .int i ∧ y = .int j ∧ Q (g i j) H
section
variable {X : Cx} {a b c : Expr} {ta tb tc : TE} {pos : Pos}

theorem binT (ha : PE X a ta) (hb : PE X b tb) {pins : List (Addr × Obj)} {s : Shared} {σ : St} {H : Hp} {R : V → V → Hp → Prop} (I : Inv X pins σ H s)
    (h : ta σ H fun x H1 => tb σ H1 fun y H2 => R x y H2) {Q : Value → Shared → Prop} {f : Value → Value → Sem Value}
    (hf : ∀ v u s2 x y H2, Inv X pins σ H2 s2 → RelV x v → RelV y u → R x y H2 → wpAny (model X.prog X.w) X.A (f v u) Q X.xe s2) :
    wpAny (model X.prog X.w) X.A (eval a X.env) (fun v s₁ => wpAny (model X.prog X.w) X.A (eval b X.env) (fun u s₂ => wpAny (model X.prog X.w) X.A (f v u) Q X.xe s₂) X.xe s₁) X.xe s := by
  refine thn (ha pins s σ H _ I h) fun v s1 ⟨x, H1, I1, r1, q1⟩ => ?_
  refine thn (hb pins s1 σ H1 _ I1 q1) fun u s2 ⟨y, H2, I2, r2, q2⟩ => ?_
  exact hf v u s2 x y H2 I2 r1 r2 q2

theorem pe_op {op : Operator} {r : R2} (ho : OpR X (binaryOp op) r) (ha : PE X a ta) (hb : PE X b tb) : PE X (.BinOp a op b pos) (tOp r ta tb) := by
  intro pins s σ H Q I h
  exact wpAny_BinOp (binT ha hb I h fun v u s2 x y H2 I2 rx ry q => ho pins s2 σ H2 x y v u Q I2 rx ry q)
/-! ### ints -/
theorem opI {f : Value → Value → Sem Value} {C : Int → Int → Prop} {g : Int → Int → Int}
    (rule : ∀ (i j : Int) (t u : Tok) (s : Shared) (Q : Value → Shared → Prop) (E : Value → Shared → Prop), C i j → Q (.int (g i j) s.toks) { s with toks := s.toks + 1 } → wpAny (model X.prog X.w) X.A (f (.int i t) (.int j u)) Q E s) :
    OpR X f (rI C fun i j => .int (g i j)) := by
  intro pins s σ H x y v u Q I rx ry h
  obtain ⟨i, j, rfl, rfl, hc, q⟩ := h
  obtain ⟨t, rfl⟩ := rx
  obtain ⟨t', rfl⟩ := ry
  exact rule i j t t' s _ _ hc ⟨.int (g i j), H, I.tok _, ⟨_, rfl⟩, q⟩
theorem opI0 {f : Value → Value → Sem Value} {g : Int → Int → Int}
    (rule : ∀ (i j : Int) (t u : Tok) (s : Shared) (Q : Value → Shared → Prop) (E : Value → Shared → Prop), Q (.int (g i j) s.toks) { s with toks := s.toks + 1 } → wpAny (model X.prog X.w) X.A (f (.int i t) (.int j u)) Q E s) :
    OpR X f (rI0 fun i j => .int (g i j)) := by
  intro pins s σ H x y v u Q I rx ry h
  obtain ⟨i, j, rfl, rfl, q⟩ := h
  obtain ⟨t, rfl⟩ := rx
  obtain ⟨t', rfl⟩ := ry
  exact rule i j t t' s _ _ ⟨.int (g i j), H, I.tok _, ⟨_, rfl⟩, q⟩
theorem opB0 {f : Value → Value → Sem Value} {g : Int → Int → Bool}
    (rule : ∀ (i j : Int) (t u : Tok) (s : Shared) (Q : Value → Shared → Prop) (E : Value → Shared → Prop), Q (.bool (g i j)) s → wpAny (model X.prog X.w) X.A (f (.int i t) (.int j u)) Q E s) :
    OpR X f (rI0 fun i j => .bl (g i j)) := by
  intro pins s σ H x y v u Q I rx ry h
  obtain ⟨i, j, rfl, rfl, q⟩ := h
  obtain ⟨t, rfl⟩ := rx
  obtain ⟨t', rfl⟩ := ry
  exact rule i j t t' s _ _ ⟨.bl (g i j), H, I, rfl, q⟩

def CPow (i j : Int) : Prop := 0 ≤ j ∧ j ≤ 1000000 ∧ i.natAbs < 2 ^ 64
def CMul (i j : Int) : Prop := (-(2 ^ 64) < i ∧ i < 2 ^ 64) ∨ (-(2 ^ 64) < j ∧ j < 2 ^ 64)
theorem CMul.ok {i j : Int} (h : CMul i j) : IntMulOk i j := by
  rcases h with ⟨h1, h2⟩ | ⟨h1, h2⟩
  · exact .of_left (intBits_le_64 h1 h2)
  · exact .of_right (intBits_le_64 h1 h2)
theorem op_add : OpR X (binaryOp .Add) (rI0 fun i j => .int (i + j)) := opI0 fun _ _ _ _ _ _ _ q => add_int q
theorem op_mul : OpR X (binaryOp .Mult) (rI CMul fun i j => .int (i * j)) := opI fun _ _ _ _ _ _ _ hc q => mul_int q hc.ok
/-- % by a positive divisor of any size -/
theorem op_mod : OpR X (binaryOp .Mod) (rI (fun _ j => 0 < j) fun i j => .int (i % j)) := opI fun i j _ _ _ _ _ hc q => by
  have h1 : (0 : Int) < j := hc
  exact mod_int' (by omega) (by rw [Int.fmod_eq_emod_of_nonneg i (by omega)]; exact q)
theorem op_pow : OpR X (binaryOp .Pow) (rI CPow fun i j => .int (i ^ j.toNat)) := opI fun _ _ _ _ _ _ _ hc q => pow_int_small hc.1 hc.2.1 hc.2.2 q
/-! ### bools among ints: n += (a < b) -/
end

/-! ### comparisons -/
section
variable {X : Cx} {a b c : Expr} {ta tb tc : TE} {pos : Pos}
theorem fin_bl {pins : List (Addr × Obj)} {σ : St} {H : Hp} {s : Shared} {Q : VK} {k k' : Bool} (I : Inv X pins σ H s) (q : Q (.bl k) H) (e : k = k') : EP X pins σ Q (.bool k') s := by
  subst e
  exact ⟨.bl k, H, I, rfl, q⟩
theorem op_le : OpR X (compareOp .LtE) (rI0 fun i j => .bl (decide (i ≤ j))) := opB0 fun _ _ _ _ _ _ _ q => le_int q
theorem op_ge : OpR X (compareOp .GtE) (rI0 fun i j => .bl (decide (j ≤ i))) := opB0 fun _ _ _ _ _ _ _ q => ge_int q
/-- two rules for one operation: by cases -/
theorem OpR.or {f : Value → Value → Sem Value} {r r' : R2} (h : OpR X f r) (h' : OpR X f r') : OpR X f (fun x y H Q => r x y H Q ∨ r' x y H Q) := by
  intro pins s σ H x y v u Q I rx ry q
  rcases q with q | q
  · exact h pins s σ H x y v u Q I rx ry q
  · exact h' pins s σ H x y v u Q I rx ry q

theorem nomark (b : Expr) {op : CmpOp} (h : op ≠ .In := by decide) (h2 : op ≠ .NotIn := by decide) : behindInMarks op b = false := by
  have e1 : (op == CmpOp.In) = false := by cases op <;> first | rfl | exact absurd rfl h
  have e2 : (op == CmpOp.NotIn) = false := by cases op <;> first | rfl | exact absurd rfl h2
  cases b <;> simp [behindInMarks, e1, e2]
/-- a comparison as a value; hm: nomark b, or (for in, not in) by with_unfolding_all rfl -/
theorem pe_cmpR {op : CmpOp} {r : R2} (ho : OpR X (compareOp op) r) (ha : PE X a ta) (hb : PE X b tb) (hm : behindInMarks op b = false) : PE X (.Compare a [op] [b] pos) (tOp r ta tb) := by
  intro pins s σ H Q I h
  exact wpAny_Compare1 (binT ha hb I h fun v u s2 x y H2 I2 rx ry q => ho pins s2 σ H2 x y v u Q I2 rx ry q) hm
/-! ### truth -/
theorem line63 : (sizeLine : Nat) < 2 ^ 63 := by rw [sizeLine_eq]; decide
/-! ### strs and bytes -/
/-! ### scalar builtins, by CallR -/
theorem vals1 {x : V} {us : List Value} (r : Vals [x] us) : ∃ u, us = [u] ∧ RelV x u := by
  cases r with
  | cons r1 r2 => cases r2; exact ⟨_, rfl, r1⟩
theorem call_abs : CallR X (.builtin "abs") (fun xs H Q => ∃ i, xs = [.int i] ∧ Q (.int (if i < 0 then -i else i)) H) := by
  intro pins s σ H xs us Q I r h
  obtain ⟨i, rfl, q⟩ := h
  obtain ⟨u, rfl, t, rfl⟩ := vals1 r
  exact call_abs_int fun u tk => ⟨.int (if i < 0 then -i else i), H, I.tok _, ⟨_, rfl⟩, q⟩
end
end L2

namespace L2
open PySem PySem.Spec PyProof.Rows

/-! ### an instance, its attributes a map -/
structure ObjM (h : Heap) (x dx C : Addr) (mA : Str → Option Value) : Prop where
  obj : h.get? x = some (PySem.W.instObj C dx)
  ns : h.Ns1 dx mA
  ne : dx ≠ x

theorem lookIn_ns {h : Heap} {dx : Addr} {mA : Str → Option Value} (n : h.Ns1 dx mA) : ∃ od, h.get? dx = some od ∧ ∀ name, PySem.W.lookIn name od = some (mA name) := by
  obtain ⟨o, es, ep, ho, hd, hk, _, hm⟩ := n
  refine ⟨o, ho, fun name => ?_⟩
  have e := hm name
  unfold nsFind findBy at e
  rw [← Array.find?_toList] at e
  unfold PySem.W.lookIn
  rw [hd]
  dsimp only
  split
  · rename_i y q
    rw [q] at e
    exact congrArg some e
  · rename_i q
    rw [q] at e
    have a : es.toList.any (·.refKey) = false := by
      rw [List.any_eq_false]
      intro y hy
      obtain ⟨z, t, hkey⟩ := hk y (Array.mem_toList_iff.mp hy)
      simp [DictEntry.refKey, hkey]
    have a' : ¬ es.toList.any (·.refKey) = true := by rw [a]; exact Bool.false_ne_true
    rw [if_neg a']
    exact congrArg some e

theorem ObjM.look {h : Heap} {x dx C : Addr} {mA : Str → Option Value} (I : ObjM h x dx C mA) : ∃ od, PySem.W.InstAt h x (PySem.W.instObj C dx) C (some od) ∧ ∀ name, PySem.W.lookIn name od = some (mA name) :=
  let ⟨od, ho, hl⟩ := lookIn_ns I.ns
  ⟨od, ⟨I.obj, rfl, rfl, ho⟩, hl⟩

section
variable {prog : Program} {w : World} {A : Around} {E : Value → Shared → Prop} {s : Shared} {K : PySem.W.Frag} {x dx C f : Addr} {mA : Str → Option Value} {name : Str} {v : Value}

end

/-! ### the attributes as a list of pairs -/
section
variable {P : Program} {w : World} {H H' : Hp} {h h' : Heap} {a C dx : Addr} {fs fs' : List (Str × V)}
theorem ins_get (hok : HOk P w H h) (e : H a = some (.ins C dx fs)) : ∃ mA, ObjM h a dx C mA ∧ (∀ f, RelO (fs.lookup f) (mA f)) ∧ PySem.Within mA (fs.map (·.1)) ∧ fs.length ≤ 1000 ∧ H dx = some (.own a) := by
  obtain ⟨d, z, ne, ob, mA, n, r, q⟩ := (show ObjOk P w H h a (.ins C dx fs) from hok a _ e)
  exact ⟨mA, ⟨ob, n, ne⟩, r, q, z, d⟩
end

/-! ### what of the text a class must have -/
structure Cls (K : PySem.W.Frag) (C : Addr) : Prop where
  pg : PySem.W.plainGet K C Str.empty = true
  hd : PySem.W.hasDictIn K C = true
  po : PySem.W.plainOver K C = true
  sa : PySem.W.findIn K (.ref C) "__setattr__" = some (some (.builtin "object.__setattr__"))
theorem Cls.get {K : PySem.W.Frag} {C : Addr} (c : Cls K C) (f : Str) : PySem.W.plainGet K C f = true := c.pg
section
variable {X : Cx} {pins : List (Addr × Obj)} {σ : St} {H : Hp} {s : Shared} {a C dx : Addr} {fs : List (Str × V)} {f : Str} {v : V} {A : Around} {E : Value → Shared → Prop}

/-- a new instance, tracked, without attributes -/
theorem Inv.made (I : Inv X pins σ H s) : Inv X pins σ (upd (upd H s.heap.objs.size (.own (s.heap.objs.size + 1))) (s.heap.objs.size + 1) (.ins C s.heap.objs.size []))
    { s with heap := (s.heap.push PySem.W.emptyDict).push (PySem.W.instObj C s.heap.objs.size) } := by
  have e1 : (s.heap.push PySem.W.emptyDict).get? s.heap.objs.size = some PySem.W.emptyDict := Heap.get?_push_size s.heap rfl
  have e2 : ((s.heap.push PySem.W.emptyDict).push (PySem.W.instObj C s.heap.objs.size)).get? (s.heap.objs.size + 1) = some (PySem.W.instObj C s.heap.objs.size) := by
    have := Heap.get?_push_size (s.heap.push PySem.W.emptyDict) (o := PySem.W.instObj C s.heap.objs.size) rfl
    rwa [Heap.size_push] at this
  have e3 : (s.heap.push PySem.W.emptyDict).Ns s.heap.objs.size (fun _ => none) := ⟨PySem.W.emptyDict, #[], _, e1, rfl, (fun e he => absurd he (by simp)), fun _ => rfl⟩
  have I1 := I.laid (a := s.heap.objs.size) (o := .own (s.heap.objs.size + 1)) (h' := s.heap.push PySem.W.emptyDict) (t' := s.toks) (fun b u q => Heap.get?_push_of_some _ q) (Nat.le_refl _) ⟨_, e1⟩
  refine I1.laid (a := s.heap.objs.size + 1) (o := .ins C s.heap.objs.size []) (t' := s.toks) (fun b u q => Heap.get?_push_of_some _ q) (Nat.le_of_eq (Heap.size_push _ _)) ?_
  have ne : s.heap.objs.size ≠ s.heap.objs.size + 1 := Nat.ne_of_lt (Nat.lt_succ_self _)
  refine ⟨by rw [upd_ne ne, upd_same], Nat.zero_le _, ne, e2, fun _ => none, (Heap.Ns1.of_empty e3).at fun o q => Heap.get?_push_of_some _ q, fun _ => True.intro, fun y hy => absurd rfl hy⟩

end

/-! ### readings and rules -/
section
variable {X : Cx} {o e value : Expr} {f : Str} {pos pos' tpos : Pos} {ta tv : TE}
end

/-! ### isinstance -/
section
variable {X : Cx} {pins : List (Addr × Obj)} {σ : St} {H : Hp} {s : Shared} {A : Around} {E : Value → Shared → Prop} {Q : Value → Shared → Prop} {c : Value} {b : Bool}
/-- the type of a value, as the fragment's deciders take it; for an instance its class -/
inductive TyOf (K : PySem.W.Frag) (H : Hp) : V → Value → Prop where
  | non : TyOf K H .non (.type "NoneType")
  | bl (x : Bool) : TyOf K H (.bl x) (.type "bool")
  | int (i : Int) : TyOf K H (.int i) (.type "int")
  | str (x : Str) : TyOf K H (.str x) (.type "str")
  | flt (x : UInt64) : TyOf K H (.flt x) (.type "float")
  | lst {a : Addr} {xs : List V} (e : H a = some (.lst xs)) : TyOf K H (.ref a) (.type "list")
  | frz {a : Addr} {o : Obj} {xs : List V} (e : H a = some (.frz o (.lst xs))) : TyOf K H (.ref a) (.type "list")
  | tup {a : Addr} {xs : List V} (e : H a = some (.tup xs)) : TyOf K H (.ref a) (.type "tuple")
  | dK {a : Addr} {kvs : List (Key × V)} (e : H a = some (.dK kvs)) : TyOf K H (.ref a) (.type "dict")
  | dT {a : Addr} {kvs : List (List Key × V)} (e : H a = some (.dT kvs)) : TyOf K H (.ref a) (.type "dict")
  | ins {a C dx : Addr} {fs : List (Str × V)} (e : H a = some (.ins C dx fs)) (cl : Cls K C) (ha : PySem.W.findIn K (.ref C) "__class__" = some (some (.builtin "object.__class__")))
      (hn : PySem.W.specialIn K (.builtin "object.__class__") "__get__" = some (some (.builtin "getset_descriptor.__get__"))) (htk : PySem.W.takesIn K (.builtin "object.__class__") = some true)
      (hm : PySem.W.mroIn K C (.type "object") = some true) : TyOf K H (.ref a) (.ref C)
/-- isinstance(x, c) for one class c, a built-in or an own one: kitOne's answer -/
theorem isinst_ok {x : V} {u t : Value} (I : Inv X pins σ H s) (rx : RelV x u) (ty : TyOf X.K H x t) (e : PySem.W.kitOne X.K t c = some b) (h : ∀ tk, Q (.bool b) { s with toks := tk }) :
    wpAny (model X.prog X.w) A (call (.builtin "isinstance") [u, c]) Q E s := by
  cases ty with
  | non => cases (show u = Value.none from rx); exact PySem.W.kia_one PySem.W.kitx_none I.kIn True.intro e (fun z => nomatch z) h
  | bl y => cases (show u = Value.bool y from rx); exact PySem.W.kia_one PySem.W.kitx_bool I.kIn True.intro e (fun z => nomatch z) h
  | int i => obtain ⟨t, q⟩ := (show ∃ t, u = Value.int i t from rx); cases q; exact PySem.W.kia_one PySem.W.kitx_int I.kIn True.intro e (fun z => nomatch z) h
  | str y => obtain ⟨t, q⟩ := (show ∃ t, u = Value.str y t from rx); cases q; exact PySem.W.kia_one PySem.W.kitx_str I.kIn True.intro e (fun z => nomatch z) h
  | flt y => obtain ⟨t, q⟩ := (show ∃ t, u = Value.float y t from rx); cases q; exact PySem.W.kia_one PySem.W.kitx_float I.kIn True.intro e (fun z => nomatch z) h
  | @lst a xs ea =>
    cases (show u = Value.ref a from rx)
    obtain ⟨_, _, n, _, h1⟩ := (show ObjOk X.prog X.w H s.heap a (.lst xs) from I.hok a _ ea)
    exact PySem.W.kia_one PySem.W.kitx_list I.kIn ⟨_, h1, rfl⟩ e (fun z => nomatch z) h
  | @frz a ob xs ea =>
    cases (show u = Value.ref a from rx)
    obtain ⟨_, _, _, n, _, h1⟩ := (show ObjOk X.prog X.w H s.heap a (.frz ob (.lst xs)) from I.hok a _ ea)
    exact PySem.W.kia_one PySem.W.kitx_list I.kIn ⟨_, h1, rfl⟩ e (fun z => nomatch z) h
  | @tup a xs ea =>
    cases (show u = Value.ref a from rx)
    obtain ⟨_, _, _, p⟩ := (show ObjOk X.prog X.w H s.heap a (.tup xs) from I.hok a _ ea)
    obtain ⟨o, h1, h2, _⟩ := p
    exact PySem.W.kia_one PySem.W.kitx_tuple I.kIn ⟨o, h1, h2⟩ e (fun z => nomatch z) h
  | @dK a kvs ea =>
    cases (show u = Value.ref a from rx)
    obtain ⟨_, _, vs, _, p⟩ := (show ObjOk X.prog X.w H s.heap a (.dK kvs) from I.hok a _ ea)
    obtain ⟨o, es, ep, h1, h2, _⟩ := p
    exact PySem.W.kia_one PySem.W.kitx_dict I.kIn ⟨o, h1, h2.1⟩ e (fun z => nomatch z) h
  | @dT a kvs ea =>
    cases (show u = Value.ref a from rx)
    obtain ⟨_, _, xs, _, o, es, ep, h1, h2, _⟩ := (show ObjOk X.prog X.w H s.heap a (.dT kvs) from I.hok a _ ea)
    exact PySem.W.kia_one PySem.W.kitx_dict I.kIn ⟨o, h1, h2.1⟩ e (fun z => nomatch z) h
  | @ins a C dx fs ea cl ha hn htk hm =>
    cases (show u = Value.ref a from rx)
    obtain ⟨mA, O, _⟩ := ins_get I.hok ea
    obtain ⟨od, J, _⟩ := O.look
    exact PySem.W.kia_one (PySem.W.kitx_own (cl.get _) cl.hd ha hn htk hm) I.kIn J e (fun z => nomatch z) h
end
end L2

namespace L2
open PySem PySem.Spec PyProof.Rows

/-! ### room -/
structure Room (k : Nat) (A : Around) : Prop where
  hd : A.handled = none
  dp : A.depth + 3 * k + 5 < recursionLimit
  un : A.units + 16 * k + 200 < cLine
theorem Room.mono {j k : Nat} {A : Around} (r : Room k A) (h : j ≤ k) : Room j A := ⟨r.hd, by have := r.dp; omega, by have := r.un; omega⟩
theorem Room.deeper {k : Nat} {A : Around} (r : Room (k + 1) A) (env : Env) : Room k (A.deeper env) :=
  ⟨r.hd, by have := r.dp; show A.depth + 1 + 3 * k + 5 < _; omega, by have := r.un; show A.units + 3 + 16 * k + 200 < _; omega⟩
theorem Room.in1 {k : Nat} {A : Around} (r : Room (k + 1) A) : Room k A.in1 :=
  ⟨r.hd, by have := r.dp; show A.depth + 3 * k + 5 < _; omega, by have := r.un; show A.units + 1 + 16 * k + 200 < _; omega⟩
theorem Room.depth {k : Nat} {A : Around} (r : Room k A) : A.depth < recursionLimit := by have := r.dp; omega
theorem Room.units {k : Nat} {A : Around} (r : Room k A) : A.units + 64 < cLine := by have := r.un; omega
/-! ### argument lists and displays -/
def tNil : TA := fun _ H Q => Q [] H
def tCons (ta : TE) (tr : TA) : TA := fun σ H Q => ta σ H fun x H1 => tr σ H1 fun xs H2 => Q (x :: xs) H2
section
variable {X : Cx} {e : Expr} {es : List Expr} {te : TE} {t : TA} {pos : Pos}
theorem pa_nil : PA X [] tNil := fun _ _ _ _ H Q I h => Calls.spliced_nil ⟨[], H, I, .nil, h⟩
theorem pa_cons (ha : PE X e te) (hr : PA X es t) (hs : starEach (e :: es) X.env = (false, eval e X.env) :: starEach es X.env := by rfl) : PA X (e :: es) (tCons te t) := by
  intro pos pins s σ H Q I h
  rw [hs]
  show wpAny _ _ (spliced ((false, eval e X.env) :: backTo pos (starEach es X.env))) _ _ s
  refine Calls.spliced_cons (thn (ha pins s σ H _ I h) fun u s1 ⟨x, H1, I1, r1, q1⟩ => ?_)
  exact thn (hr pos pins s1 σ H1 _ I1 q1) fun us s2 ⟨xs, H2, I2, r2, q2⟩ => ⟨x :: xs, H2, I2, .cons r1 r2, q2⟩

/-- a tuple, a list of written items -/
def tTup (t : TA) : TE := fun σ H Q => t σ H fun xs H1 => xs.length ≤ sizeLine ∧ ∀ p, H1 p = none → Q (.ref p) (upd H1 p (.tup xs))
def tLst (t : TA) : TE := fun σ H Q => t σ H fun xs H1 => xs.length ≤ sizeLine ∧ ∀ p, H1 p = none → Q (.ref p) (upd H1 p (.lst xs))
theorem pe_tup {x1} (h : PA X es t) : PE X (.Tuple es x1 pos) (tTup t) := by
  intro pins s σ H Q I hq
  refine wpAny_Tuple_spliced (thn (h pos pins s σ H _ I hq) fun us s1 ⟨xs, H1, I1, r, z, q⟩ => ⟨by rw [← r.length]; exact z, ?_⟩)
  have hf : H1 s1.heap.objs.size = none := I1.hok.fresh (Nat.le_refl _)
  refine ⟨.ref s1.heap.objs.size, upd H1 s1.heap.objs.size (.tup xs), I1.laid (t' := s1.toks) (fun b u e => Heap.get?_push_of_some _ e) (Nat.le_refl _) ?_, rfl, q _ hf⟩
  exact ⟨z, us, r, ⟨_, Heap.get?_push_size _ rfl, rfl, _, rfl⟩⟩
theorem pe_lst (h : PA X es t) : PE X (.List es pos) (tLst t) := by
  intro pins s σ H Q I hq
  refine wpAny_List_spliced (thn (h pos pins s σ H _ I hq) fun us s1 ⟨xs, H1, I1, r, z, q⟩ => ⟨by rw [← r.length]; exact z, ?_⟩)
  have hf : H1 s1.heap.objs.size = none := I1.hok.fresh (Nat.le_refl _)
  refine ⟨.ref s1.heap.objs.size, upd H1 s1.heap.objs.size (.lst xs), I1.laid (t' := s1.toks) (fun b u e => Heap.get?_push_of_some _ e) (Nat.le_refl _) ?_, rfl, q _ hf⟩
  exact ⟨z, us, 0, r, Heap.get?_push_size _ rfl⟩
end

/-! ### what a def promises -/
/-- a def's promise: the bound arguments in the parameters' order, the heap, the wanted end, the wanted exception -/
abbrev Sp := List V → Hp → VK → XK → Prop
/-- how an exception lies behind a call (file 08 gives it): the callers' frames, abstract heap and state ahead of the call, the wish, the exception, the state -/
abbrev CXT := List Env → Hp → Shared → XK → Value → Shared → Prop

/-- the state at a call -/
structure Env0 (P : Program) (w : World) (K : PySem.W.Frag) (mg : Str → Option Value) (base : Heap) (A : Around) (outer : List Env) (s : Shared) (H : Hp) : Prop where
  frames : A.frames = some outer
  mod : Mod K mg base
  bs : ∀ b o, base.get? b = some o → s.heap.get? b = some o ∧ H b = none
  bsz : base.objs.size ≤ s.heap.objs.size
  funs : s.heap.FunFrames base outer
  frf : ∀ b ∈ frs outer, H b = none
  hok : HOk P w H s.heap
  bare : AllBare s.gens
/-- a call's end -/
def CE (outer : List Env) (P : Program) (w : World) (H : Hp) (s : Shared) (Q : VK) (u : Value) (s' : Shared) : Prop :=
  ∃ v H', s'.os = s.os ∧ AllBare s'.gens ∧ Un (frs outer) [] H H' s.heap s'.heap ∧ HOk P w H' s'.heap ∧ RelV v u ∧ Q v H'
def CR (CX : CXT) (outer : List Env) (P : Program) (w : World) (H : Hp) (s : Shared) (Q : VK) (E : XK) (r : Result) (s' : Shared) : Prop :=
  match r with
  | .ok (.ret u) => CE outer P w H s Q u s'
  | .ok _ => False
  | .error e => CX outer H s E e s'
structure FnOk (P : Program) (w : World) (K : PySem.W.Frag) (mg : Str → Option Value) (base : Heap) (CX : CXT) (k : Nat) (f : Addr) (fd : FuncData) (ps : List Str) (sp : Sp) : Prop where
  len : ∀ vs H Q E, sp vs H Q E → vs.length = ps.length
  run : ∀ (A : Around) (outer : List Env) (s : Shared) (H : Hp) (args : Args) (us : List Value) (vs : List V) (Q : VK) (E : XK), Room k A → Env0 P w K mg base A outer s H → BindsTo s fd args (ps.zip us) → Vals vs us → sp vs H Q E →
    codeAny (model P w) A (.call (.ref f) args) (CR CX outer P w H s Q E) s
theorem FnOk.mono {P : Program} {w : World} {K : PySem.W.Frag} {mg : Str → Option Value} {base : Heap} {CX : CXT} {j k : Nat} {f : Addr} {fd : FuncData} {ps : List Str} {sp : Sp} (F : FnOk P w K mg base CX j f fd ps sp) (h : j ≤ k) :
    FnOk P w K mg base CX k f fd ps sp := ⟨F.len, fun A outer s H args us vs Q E hr => F.run A outer s H args us vs Q E (hr.mono h)⟩
/-- a weaker promise -/
theorem FnOk.imp {P : Program} {w : World} {K : PySem.W.Frag} {mg : Str → Option Value} {base : Heap} {CX : CXT} {k : Nat} {f : Addr} {fd : FuncData} {ps : List Str} {sp sp' : Sp} (F : FnOk P w K mg base CX k f fd ps sp)
    (h : ∀ vs H Q E, sp' vs H Q E → sp vs H Q E) : FnOk P w K mg base CX k f fd ps sp' :=
  ⟨fun vs H Q E q => F.len vs H Q E (h _ _ _ _ q), fun A outer s H args us vs Q E hr he hb hv hs => F.run A outer s H args us vs Q E hr he hb hv (h _ _ _ _ hs)⟩

theorem Env0.in1 {P : Program} {w : World} {K : PySem.W.Frag} {mg : Str → Option Value} {base : Heap} {A : Around} {outer : List Env} {s : Shared} {H : Hp} (e : Env0 P w K mg base A outer s H) :
    Env0 P w K mg base A.in1 outer s H := ⟨e.frames, e.mod, e.bs, e.bsz, e.funs, e.frf, e.hok, e.bare⟩

section
variable {X : Cx} {pins : List (Addr × Obj)} {σ : St} {H : Hp} {s s' : Shared}
/-- from a body: what a callee wants -/
theorem Inv.env0 (I : Inv X pins σ H s) : Env0 X.prog X.w X.K X.mg X.base X.A X.stack s H :=
  ⟨I.ok.frames, I.ok.mod, I.bs, Nat.le_trans I.ok.bsz I.sz, I.stack, I.stkFree, I.hok, I.bare⟩
/-- behind a call -/
theorem Inv.after {Q : VK} {u : Value} (I : Inv X pins σ H s) (h : CE X.stack X.prog X.w H s Q u s') : EP X pins σ Q u s' := by
  obtain ⟨v, H', os, bare, un, hok, r, q⟩ := h
  obtain ⟨hh, g, d, t, os'⟩ := s'
  obtain rfl : os' = s.os := os
  exact ⟨v, H', I.call (h' := hh) (g' := g) (d' := d) (t' := t) (ch := []) un hok bare (fun b z => absurd z (by simp)), r, q⟩
end

/-! ### calls -/
/-- f(..): the written arguments, then the defaults dvs; E: what is wanted of an exception -/
def tCall (sp : Sp) (dvs : List V) (E : XK) (t : TA) : TE := fun σ H Q => t σ H fun vs H1 => sp (vs ++ dvs) H1 Q E
/-- how the parameters are bound: us the positional arguments, kw the keywords' values by name, ds the defaults that fill up -/
def Binds (K : PySem.W.Frag) (fd : FuncData) (ps : List Str) (ds : List Value) : Prop :=
  ∀ (s : Shared) (us : List Value), K.In s.heap → (us ++ ds).length = ps.length → BindsTo s fd ⟨us, []⟩ (ps.zip (us ++ ds))
/-- every parameter is given -/
theorem Binds.all {K : PySem.W.Frag} {fd : FuncData} {ps : List Str} (h : ∀ us : List Value, us.length = ps.length → bindArgs fd ⟨us, []⟩ = pure (ps.zip us)) : Binds K fd ps [] := fun s us _ hl => by
  rw [List.append_nil] at hl ⊢
  exact .of_eq (h us hl)

/-- an exception of a callee reaches what this body wants of exceptions -/
def Passes (CX : CXT) (X : Cx) (E : XK) : Prop := ∀ (pins : List (Addr × Obj)) (σ : St) (H : Hp) (s : Shared) (e : Value) (s' : Shared), Inv X pins σ H s → CX X.stack H s E e s' → X.xe e s'

section
variable {X : Cx} {CX : CXT} {k : Nat} {f C : Addr} {fd : FuncData} {ps : List Str} {sp : Sp} {dvs : List V} {ds : List Value} {E : XK} {x m : Str} {p pos apos : Pos} {e o : Expr} {es : List Expr} {ta : TE} {t : TA}

/-- the callee runs -/
theorem run_fn {pins : List (Addr × Obj)} {σ : St} {H : Hp} {s : Shared} {Q : VK} {us : List Value} {vs : List V} (F : FnOk X.prog X.w X.K X.mg X.base CX k f fd ps sp) (hr : Room k X.A) (hb : Binds X.K fd ps ds) (hd : Vals dvs ds) (hx : Passes CX X E)
    (I : Inv X pins σ H s) (r : Vals vs us) (h : sp (vs ++ dvs) H Q E) : wpAny (model X.prog X.w) X.A (call (.ref f) us) (EP X pins σ Q) X.xe s := by
  have r2 : Vals (vs ++ dvs) (us ++ ds) := r.append hd
  have hl : (us ++ ds).length = ps.length := by rw [← r2.length]; exact F.len _ _ _ _ h
  refine wpAny_call (codeAny_mono (F.run X.A X.stack s H ⟨us, []⟩ (us ++ ds) (vs ++ dvs) Q E hr I.env0 (hb s us I.kIn hl) r2 h) fun r s' hq => ?_)
  cases r with
  | error e => exact hx pins σ H s e s' I hq
  | ok fl =>
    cases fl with
    | ret u => exact I.after hq
    | next => exact False.elim hq
    | brk => exact False.elim hq
    | cont => exact False.elim hq

theorem pe_call (F : FnOk X.prog X.w X.K X.mg X.base CX k f fd ps sp) (hr : Room k X.A) (hg : Gl X x) (hm : X.mg x = some (.ref f)) (hk : PySem.W.keepIn X.K (.ref f) = true) (hb : Binds X.K fd ps ds) (hd : Vals dvs ds) (hx : Passes CX X E)
    (ha : PA X (e :: es) t) (hdb : (x == ("__debug__" : Str)) = false := by decide) (he : starEach (e :: es) X.env = (false, eval e X.env) :: starEach es X.env := by rfl) (hpl : (backTo pos (starEach es X.env)).any (·.1) = false := by rfl) :
    PE X (.Call (.Name x p) (e :: es) [] pos) (tCall sp dvs E t) := by
  intro pins s σ H Q I h
  refine wpAny_Call_Name_kw (ld_glob I hg hm ?_ hdb)
  refine PySem.W.callWith_K (h₀ := X.base) I.ok.mod.kin hk (thn (ha pos pins s σ H _ I h) fun us s1 ⟨vs, H1, I1, r, q⟩ => ⟨I1.kIn, ?_⟩) he hpl
  exact run_fn F hr hb hd hx I1 r q
end

/-! ### keywords -/
section
variable {X : Cx} {CX : CXT} {k : Nat} {f C : Addr} {fd : FuncData} {ps ks : List Str} {sp : Sp} {E : XK} {x m : Str} {p pos apos kpos : Pos} {e o : Expr} {es : List Expr} {kws : List Keyword} {te ta : TE} {t tk : TA} {nm : Option Str}
variable {g : List Value → List Value → List Value} {gV : List V → List V → List V}
end

/-! ### a def's body keeps its promise -/
/-- names: the parameters first -/
structure FnScope (N P : List Str) (sc : Scope) : Prop where
  kind : sc.kind = .function
  co : sc.isCoroutine = false
  gen : sc.isGenerator = false
  nd : N.Nodup
  pre : N.take P.length = P
  par : ∀ x ∈ P, sc.names.lookup x = some .local ∨ sc.names.lookup x = some .cell
  nofree : ∀ y ∈ sc.names, y.2 ≠ .free

theorem bindL_out {kindOf : Str → Option NameKind} {x : Str} : ∀ {binds : List (Str × Value)} {m : Str → Option Value}, (∀ v, (x, v) ∉ binds) → bindL kindOf binds m x = m x
  | [], _, _ => rfl
  | (n, v) :: r, m, h => by
    unfold bindL
    rw [bindL_out fun w hw => h w (List.mem_cons_of_mem _ hw)]
    split
    · have : x ≠ n := by rintro rfl; exact h v List.mem_cons_self
      simp [this]
    · rfl
theorem bindC_out {kindOf : Str → Option NameKind} {x : Str} : ∀ {binds : List (Str × Value)} {m : Str → Option Value}, (∀ v, (x, v) ∉ binds) → bindC kindOf binds m x = m x
  | [], _, _ => rfl
  | (n, v) :: r, m, h => by
    unfold bindC
    rw [bindC_out fun w hw => h w (List.mem_cons_of_mem _ hw)]
    split
    · rfl
    · have : x ≠ n := by rintro rfl; exact h v List.mem_cons_self
      simp [this]
theorem bindL_get {kindOf : Str → Option NameKind} {x : Str} {v : Value} : ∀ {P : List Str} {vs : List Value} {i : Nat} {m : Str → Option Value}, P.Nodup → P[i]? = some x → vs[i]? = some v → kindOf x = some .local →
    bindL kindOf (P.zip vs) m x = some v
  | [], _, _, _, _, h, _, _ => by simp at h
  | _ :: _, [], _, _, _, _, h, _ => by simp at h
  | p :: P, w :: vs, 0, m, nd, h1, h2, hk => by
    simp at h1 h2; subst h1; subst h2
    show bindL kindOf ((p, w) :: P.zip vs) m p = _
    unfold bindL
    rw [bindL_out fun v hv => (List.nodup_cons.mp nd).1 (List.of_mem_zip hv).1, if_pos hk]
    simp
  | p :: P, w :: vs, i + 1, m, nd, h1, h2, hk => by
    show bindL kindOf ((p, w) :: P.zip vs) m x = _
    unfold bindL
    exact bindL_get (i := i) (List.nodup_cons.mp nd).2 (by simpa using h1) (by simpa using h2) hk
theorem bindC_get {kindOf : Str → Option NameKind} {x : Str} {v : Value} : ∀ {P : List Str} {vs : List Value} {i : Nat} {m : Str → Option Value}, P.Nodup → P[i]? = some x → vs[i]? = some v → kindOf x ≠ some .local →
    bindC kindOf (P.zip vs) m x = some v
  | [], _, _, _, _, h, _, _ => by simp at h
  | _ :: _, [], _, _, _, _, h, _ => by simp at h
  | p :: P, w :: vs, 0, m, nd, h1, h2, hk => by
    simp at h1 h2; subst h1; subst h2
    show bindC kindOf ((p, w) :: P.zip vs) m p = _
    unfold bindC
    rw [bindC_out fun v hv => (List.nodup_cons.mp nd).1 (List.of_mem_zip hv).1, if_neg hk]
    simp
  | p :: P, w :: vs, i + 1, m, nd, h1, h2, hk => by
    show bindC kindOf ((p, w) :: P.zip vs) m x = _
    unfold bindC
    exact bindC_get (i := i) (List.nodup_cons.mp nd).2 (by simpa using h1) (by simpa using h2) hk

/-- the names' values at the entry -/
def start (N : List Str) (vs : List V) : St := vs.map some ++ List.replicate (N.length - vs.length) none

/-- the context of a def's body, at its entry; an exception leaves the frame, then lies as CX says -/
def cxOf (CX : CXT) (P : Program) (w : World) (K : PySem.W.Frag) (mg : Str → Option Value) (base : Heap) (N : List Str) (qual : Str) (scope : Scope) (f : Addr) (cd : Value) (A : Around) (outer : List Env) (s : Shared) (H : Hp) (E : XK) : Cx where
  prog := P
  w := w
  K := K
  mg := mg
  base := base
  A := A.deeper (envOfC qual scope s.heap.objs.size f cd)
  N := N
  s₀ := s
  H₀ := H
  env := envOfC qual scope s.heap.objs.size f cd
  outer := outer
  stack := envOfC qual scope s.heap.objs.size f cd :: outer
  ex := []
  calm := true
  fn := fun _ => true
  pn := []
  xe := fun e s' => wpAny (model P w) (A.deeper (envOfC qual scope s.heap.objs.size f cd)) (leaving (envOfC qual scope s.heap.objs.size f cd) e) (fun _ s'' => CX outer H s E e s'') (fun e' s'' => CX outer H s E e' s'') s'

theorem cell_has {sc : Scope} {n : Nat} {x : Str} (h : sc.names.lookup x = some .cell) : ∃ c, (cellsFrom n sc.names []).lookup x = some c := by
  have q := PySem.W.cellsFrom_some sc.names n [] (.inl h)
  exact Option.isSome_iff_exists.mp q

theorem inv_start {CX : CXT} {P : Program} {w : World} {K : PySem.W.Frag} {mg : Str → Option Value} {base : Heap} {N ps : List Str} {qual : Str} {scope : Scope} {f : Addr} {cd : Value} {A : Around} {outer : List Env} {s s1 : Shared} {H : Hp} {E : XK} {us : List Value} {vs : List V}
    (S : FnScope N ps scope) (hd : A.handled = none) (e0 : Env0 P w K mg base A outer s H) (hl : vs.length = ps.length) (r : Vals vs us)
    (x : InCallC s s.heap.objs.size (bindL (envOfC qual scope s.heap.objs.size f cd).kindOf (ps.zip us) fun _ => none) (cellsFrom (s.heap.objs.size + 1) scope.names []) (bindC (envOfC qual scope s.heap.objs.size f cd).kindOf (ps.zip us) fun _ => none) s1) :
    Inv (cxOf CX P w K mg base N qual scope f cd A outer s H E) [] (start N vs) H s1 := by
  have hpl : ps.length ≤ N.length := by have := congrArg List.length S.pre; rw [List.length_take] at this; omega
  obtain ⟨h1, tk, rfl, hk⟩ := x.done
  have noA : ∀ b : Addr, b ∉ (cxOf CX P w K mg base N qual scope f cd A outer s H E).ex := fun b z => absurd (show b ∈ ([] : List Addr) from z) (by simp)
  refine ⟨⟨e0.mod, S.kind, rfl, rfl, Nat.le_refl _, fun y z c h1 h2 => ?_, fun y hy => ?_, fun y c _ h => ?_, fun _ => hd, Around.frames_deeper e0.frames, .inr ⟨rfl, rfl⟩, fun b z => absurd z (noA b), e0.bs, e0.bsz, fun b _ _ => noA b, fun b z => absurd z (noA b), e0.funs, e0.frf⟩,
    rfl, e0.bare, Un.kept hk, ⟨_, x.toInCall.ns, fun i y v h1 h2 h3 => ?_⟩, fun y c h => ⟨_, x.cell y c h⟩, e0.hok.fresh (Nat.le_refl _), fun y c h => ?_, fun p hp => absurd (show p ∈ ([] : List (Addr × Obj)) from hp) (by simp), e0.hok.kept hk, ?_⟩
  · exact name_of_addr x.apart (PySem.mem_of_lookup h1) (PySem.mem_of_lookup h2)
  · have hy : scope.names.lookup y = some .cell ∨ scope.names.lookup y = some .free := hy
    rcases hy with hy | hy
    · exact cell_has hy
    · exact absurd rfl (S.nofree _ (PySem.mem_of_lookup hy))
  · exact Nat.le_of_lt (x.above y c (PySem.mem_of_lookup h))
  · have hi : i < vs.length := by
      unfold start at h2
      by_cases hi : i < vs.length
      · exact hi
      · rw [List.getElem?_append_right (by simpa using hi)] at h2
        rw [List.getElem?_replicate] at h2
        split at h2 <;> cases h2
    have ha : vs[i]? = some v := by
      unfold start at h2
      rw [List.getElem?_append_left (by simpa using hi), List.getElem?_map] at h2
      cases e : vs[i]? with
      | none => rw [e] at h2; cases h2
      | some a => rw [e] at h2; cases h2; rfl
    obtain ⟨u, hu, rv⟩ := r.get ha
    have hp : ps[i]? = some y := by
      rw [← S.pre, List.getElem?_take_of_lt (by omega)]; exact h1
    have ndP : ps.Nodup := by rw [← S.pre]; exact S.nd.sublist (List.take_sublist _ _)
    refine ⟨u, rv, ?_⟩
    rcases S.par y (List.mem_of_getElem? hp) with k | k
    · exact .inl ⟨k, bindL_get ndP hp hu k⟩
    · obtain ⟨c, e⟩ := cell_has (n := s.heap.objs.size + 1) k
      refine .inr ⟨.inl k, c, e, ?_⟩
      have q := x.cell y c e
      rw [bindC_get ndP hp hu (by show scope.names.lookup y ≠ _; rw [k]; decide)] at q
      exact q
  · exact e0.hok.fresh (Nat.le_of_lt (x.above y c (PySem.mem_of_lookup h)))
  · unfold start
    show _ = N.length
    rw [List.length_append, List.length_map, List.length_replicate]
    omega

/-- THE RULE: a def (or a method) of the text, by its body. The body's reading t is chosen for each entry; it is run at the parameters' values -/
theorem fn_of {CX : CXT} {P : Program} {w : World} {K : PySem.W.Frag} {mg : Str → Option Value} {base : Heap} {k : Nat} {f : Addr} {name qual : Str} {params : Arguments} {body : List Stmt} {scope : Scope} {dV kV doc pm cdv ct oc : Value} {an od : Option Addr}
    {osl : Array (Option Value)} {N ps : List Str} {sp : Sp} (lk : K.lookup f = some ⟨oc, od, .func (PySem.W.fnOf name qual params body scope dV kV doc pm an cdv ct), osl⟩) (hcd : PySem.W.codeIn K cdv qual = true) (S : FnScope N ps scope)
    (len : ∀ vs H Q E, sp vs H Q E → vs.length = ps.length)
    (hbody : ∀ (A : Around) (outer : List Env) (s : Shared) (H : Hp) (vs : List V) (Q : VK) (E : XK), Room k (A.deeper (envOfC qual scope s.heap.objs.size f cdv)) → sp vs H Q E →
      ∃ t, PSs (cxOf CX P w K mg base N qual scope f cdv A outer s H E) body t ∧ t { nx := fun _ H' => Q .non H', rt := Q } (start N vs) H) :
    FnOk P w K mg base CX (k + 1) f (PySem.W.fnOf name qual params body scope dV kV doc pm an cdv ct) ps sp := by
  refine ⟨len, fun A outer s H args us vs Q E hr e0 hb r hsp => ?_⟩
  have hl := len _ _ _ _ hsp
  have KX : K.In s.heap := e0.mod.kin.keeps fun b o e => (e0.bs b o e).1
  have lim : s.heap.NoLimit := e0.mod.nolimit.keeps fun b o e => (e0.bs b o e).1
  have hkind : ∀ y ∈ ps.zip us, scope.names.lookup y.1 = some .local ∨ (scope.names.lookup y.1 = some .cell ∧ ((cellsFrom (s.heap.objs.size + 1) scope.names []).lookup y.1).isSome = true) := fun ⟨n, v⟩ hy => by
    rcases S.par n (List.of_mem_zip hy).1 with q | q
    · exact .inl q
    · exact .inr ⟨q, PySem.W.cellsFrom_some _ _ _ (.inl q)⟩
  refine codeAny_call_function hr.depth (KX _ _ lk) rfl S.co S.gen rfl (PySem.W.codeRec_of KX hcd) (hb _ _ _ _ ?_)
  refine wpAny_newFunctionEnv_cells S.kind hkind fun env he s1 x => ?_
  subst he
  refine ⟨lim.keeps x.toInCall.keep, codeAny_func ?_⟩
  obtain ⟨t, ht, hq⟩ := hbody A outer s H vs Q E (hr.deeper _) hsp
  have I : Inv (cxOf CX P w K mg base N qual scope f cdv A outer s H E) [] (start N vs) H s1 := inv_start S hr.hd e0 hl r x
  refine wpAny_mono (ht [] s1 (start N vs) H _ I hq) (fun fl s' hs => ?_) fun e s' hs => hs
  have fin : ∀ {σ' : St} {H' : Hp} {v : V} {u : Value}, Inv (cxOf CX P w K mg base N qual scope f cdv A outer s H E) [] σ' H' s' → RelV v u → Q v H' → CE outer P w H s Q u s' :=
    fun {σ' H' v u} J rv q => ⟨v, H', J.os, J.bare, J.base, J.hok, rv, q⟩
  cases fl with
  | ret u =>
    obtain ⟨v, σ', H', J, rv, q⟩ := hs
    exact fin J rv q
  | next =>
    obtain ⟨σ', H', J, q⟩ := hs
    exact fin (v := V.non) (u := Value.none) J rfl q
  | brk =>
    obtain ⟨_, _, _, q⟩ := hs
    exact False.elim q
  | cont =>
    obtain ⟨_, _, _, q⟩ := hs
    exact False.elim q
end L2

namespace L2
open PySem PySem.Spec PyProof.Rows
section
variable {X : Cx} {x : Str} {p pos : Pos} {e : Expr} {es : List Expr} {t : TA} {id T : String} {r : List V → Hp → VK → Prop}

def tCB (r : List V → Hp → VK → Prop) (t : TA) : TE := fun σ H Q => t σ H fun vs H1 => r vs H1 Q
/-- f(e, ..), f a built-in function -/
theorem pe_callB (hc : CallR X (.builtin id) r) (hg : Gl X x) (hm : X.mg x = none) (hv : bootBuiltins x = some (.builtin id)) (ha : PA X (e :: es) t) (hn : x ≠ "__name__" := by decide) (hdb : (x == ("__debug__" : Str)) = false := by decide)
    (he : starEach (e :: es) X.env = (false, eval e X.env) :: starEach es X.env := by rfl) (hpl : (backTo pos (starEach es X.env)).any (·.1) = false := by rfl) : PE X (.Call (.Name x p) (e :: es) [] pos) (tCB r t) := by
  intro pins s σ H Q I h
  refine wpAny_Call_Name_kw (ld_blt I hg hm hv ?_ hn hdb)
  exact PyProof.Rows.callWith_builtin1 (thn (ha pos pins s σ H _ I h) fun us s1 ⟨vs, H1, I1, r1, q1⟩ => hc pins s1 σ H1 vs us Q I1 r1 q1) he hpl
end
end L2

namespace HT
open PySem PyProof.Rows

section
open PySem.SeqAt
open PySem.AutoSeq1 (wpAny_loadPart')
open PySem.MeetsSeq PySem.MeetsSeq2 PySem.MeetsSeq3

end

section
variable {prog : Program} {w : World} {A : Around} {E : Value → Shared → Prop} {s : Shared}

/-! ### t[a:b], not the whole -/
/-- a slice's bound as a place among n (d where it is left out) -/
def sIx (n d : Nat) : Option Int → Nat
  | none => d
  | some v => if v < 0 then (v + (n : Int)).toNat else min v.toNat n
theorem sIx_nat (n d k : Nat) : sIx n d (some (k : Int)) = min k n := by
  show (if (k : Int) < 0 then ((k : Int) + (n : Int)).toNat else min (k : Int).toNat n) = min k n
  rw [if_neg (by omega), Int.toNat_natCast]
end
end HT

namespace L2
open PySem PySem.Spec PyProof.Rows

/-! ### the parts of a slice -/
abbrev TO := St → Hp → (Option Int → Hp → Prop) → Prop
/-- a slice's part (left out, or an int) -/
def PO (X : Cx) (e : Option Expr) (t : TO) : Prop :=
  ∀ (pins : List (Addr × Obj)) (s : Shared) (σ : St) (H : Hp) (Q : Option Int → Hp → Prop), Inv X pins σ H s → t σ H Q →
    wpAny (model X.prog X.w) X.A (evalPart e X.env) (fun u s' => ∃ o H', Inv X pins σ H' s' ∧ IsPart u o ∧ Q o H') X.xe s
def tNoPart : TO := fun _ H Q => Q none H
section
variable {X : Cx} {e : Expr} {te : TE} {lo hi : Option Expr} {tl th : TO} {pos p2 : Pos}

theorem po_none : PO X none tNoPart := by
  intro pins s σ H Q I h
  rw [evalPart_none]
  exact wpAny_pure ⟨none, H, I, .none, h⟩
/-- what a slice of a value is, by values: the slice object stands at sl -/
def SlR (X : Cx) (r : V → Option Int → Option Int → Hp → VK → Prop) : Prop :=
  ∀ (pins : List (Addr × Obj)) (s : Shared) (σ : St) (H : Hp) (x : V) (v vl vu : Value) (lo hi : Option Int) (sl : Addr) (Q : VK), Inv X pins σ H s → RelV x v → s.heap.IsSliceOf sl vl vu .none → IsPart vl lo → IsPart vu hi → r x lo hi H Q →
    ∃ T id, typeLookup (.type T) "__getitem__" = pure (some (.builtin id)) ∧ s.TypeIs v T ∧ wpAny (model X.prog X.w) X.A (getItem v (.ref sl)) (EP X pins σ Q) X.xe s
theorem SlR.or {r r' : V → Option Int → Option Int → Hp → VK → Prop} (h : SlR X r) (h' : SlR X r') : SlR X (fun x lo hi H Q => r x lo hi H Q ∨ r' x lo hi H Q) := by
  intro pins s σ H x v vl vu lo hi sl Q I rx hs pl pu q
  rcases q with q | q
  · exact h pins s σ H x v vl vu lo hi sl Q I rx hs pl pu q
  · exact h' pins s σ H x v vl vu lo hi sl Q I rx hs pl pu q
def tSl (r : V → Option Int → Option Int → Hp → VK → Prop) (te : TE) (tl th : TO) : TE := fun σ H Q => te σ H fun x H1 => tl σ H1 fun l H2 => th σ H2 fun u H3 => r x l u H3 Q
/-- a[lo:hi], any a -/
theorem pe_slice {r : V → Option Int → Option Int → Hp → VK → Prop} (hr : SlR X r) (he : PE X e te) (hl : PO X lo tl) (hu : PO X hi th) : PE X (.Subscript e (.Slice lo hi none p2) pos) (tSl r te tl th) := by
  intro pins s σ H Q I h
  refine Subscript_ (thn (he pins s σ H _ I h) fun v s1 ⟨x, H1, I1, r1, q1⟩ => ?_)
  refine wpAny_Slice (thn (hl pins s1 σ H1 _ I1 q1) fun vl s2 ⟨l, H2, I2, pl, q2⟩ => thn (hu pins s2 σ H2 _ I2 q2) fun vu s3 ⟨u, H3, I3, pu, q3⟩ => ?_)
  rw [evalPart_none]
  refine wpAny_pure ?_
  have I4 : Inv X pins σ H3 { s3 with heap := s3.heap.push { cls := .type "slice", data := .fields #[vl, vu, .none] } } := I3.kept (t' := s3.toks) fun b ob q => Heap.get?_push_of_some _ q
  obtain ⟨T, id, hT, ht, hg⟩ := hr pins { s3 with heap := s3.heap.push { cls := .type "slice", data := .fields #[vl, vu, .none] } } σ H3 x v vl vu l u s3.heap.objs.size Q I4 r1 (Heap.IsSliceOf.new ..) pl pu q3
  show wpAny (model X.prog X.w) X.A (subscriptTail e (.Slice lo hi none p2) v (.ref s3.heap.objs.size)) (EP X pins σ Q) X.xe { s3 with heap := s3.heap.push { cls := .type "slice", data := .fields #[vl, vu, .none] } }
  exact tail_any (ops := [.ref s3.heap.objs.size, v]) ht hT hg (by with_unfolding_all rfl)

/-- the items of xs[lo:hi] -/
def cutV (xs : List V) (lo hi : Option Int) : List V := (xs.drop (HT.sIx xs.length 0 lo)).take (HT.sIx xs.length xs.length hi - HT.sIx xs.length 0 lo)
theorem cutV_length (xs : List V) (lo hi : Option Int) : (cutV xs lo hi).length ≤ xs.length := by
  unfold cutV
  rw [List.length_take, List.length_drop]
  omega
/-! ### t < u, t + u -/
end
end L2

namespace L2
open PySem PySem.Spec PyProof.Rows

/-! ### places -/
/-- the place that an index of any sign means -/
def ixN (n : Nat) (i : Int) : Option Nat := if 0 ≤ i then (if i < n then some i.toNat else none) else if -(n : Int) ≤ i then some (i + n).toNat else none
def atI {α : Type} (xs : List α) (i : Int) : Option α := (ixN xs.length i).bind fun j => xs[j]?
theorem ixN_seq {n : Nat} {i : Int} {j : Nat} (h : ixN n i = some j) : seqIndex? i n = some j ∧ j < n ∧ -(n : Int) ≤ i ∧ i < n := by
  unfold ixN at h
  by_cases h0 : 0 ≤ i
  · rw [if_pos h0] at h
    by_cases h1 : i < n
    · rw [if_pos h1] at h
      have e : i.toNat = j := Option.some.inj h
      exact ⟨by rw [seqIndex_of h0 h1, e], by omega, by omega, h1⟩
    · rw [if_neg h1] at h; cases h
  · rw [if_neg h0] at h
    by_cases h1 : -(n : Int) ≤ i
    · rw [if_pos h1] at h
      have e : (i + n).toNat = j := Option.some.inj h
      exact ⟨by rw [seqIndex_neg (by omega) h1, e], by omega, h1, by omega⟩
    · rw [if_neg h1] at h; cases h
theorem atI_get {α : Type} {xs : List α} {i : Int} {v : α} (h : atI xs i = some v) : ∃ j, seqIndex? i xs.length = some j ∧ xs[j]? = some v ∧ j < xs.length ∧ -(xs.length : Int) ≤ i ∧ i < xs.length := by
  unfold atI at h
  cases e : ixN xs.length i with
  | none => rw [e] at h; cases h
  | some j =>
    rw [e] at h
    obtain ⟨h1, h2, h3, h4⟩ := ixN_seq e
    exact ⟨j, h1, h, h2, h3, h4⟩
/-! ### what may be subscripted -/
/-- what stands as an index of a plain subscript -/
def PlainIx (b : Expr) : Prop := ∀ o i, subscripted b false o i = operate [o, i] (getItem o i)
/-- a subscript by values -/
def IxR (X : Cx) (r : R2) : Prop :=
  ∀ (value slice : Expr) (pins : List (Addr × Obj)) (s : Shared) (σ : St) (H : Hp) (x y : V) (v u : Value) (Q : VK), Inv X pins σ H s → RelV x v → RelV y u → r x y H Q →
    subscripted slice false v u = operate [v, u] (getItem v u) → wpAny (model X.prog X.w) X.A (subscriptTail value slice v u) (EP X pins σ Q) X.xe s
/-- a call of a builtin's method by values: the receiver, the arguments -/
def MtR (X : Cx) (id : String) (r : V → List V → Hp → VK → Prop) : Prop :=
  ∀ (pins : List (Addr × Obj)) (s : Shared) (σ : St) (H : Hp) (x : V) (xs : List V) (v : Value) (us : List Value) (Q : VK), Inv X pins σ H s → RelV x v → Vals xs us → r x xs H Q →
    wpAny (model X.prog X.w) X.A (call (.builtin id) (v :: us)) (EP X pins σ Q) X.xe s
section
variable {X : Cx} {a b : Expr} {ta tb : TE} {pos : Pos}
theorem IxR.or {r r' : R2} (h : IxR X r) (h' : IxR X r') : IxR X (fun x y H Q => r x y H Q ∨ r' x y H Q) := by
  intro value slice pins s σ H x y v u Q I rx ry q hs
  rcases q with q | q
  · exact h value slice pins s σ H x y v u Q I rx ry q hs
  · exact h' value slice pins s σ H x y v u Q I rx ry q hs
theorem MtR.or {id : String} {r r' : V → List V → Hp → VK → Prop} (h : MtR X id r) (h' : MtR X id r') : MtR X id (fun x xs H Q => r x xs H Q ∨ r' x xs H Q) := by
  intro pins s σ H x xs v us Q I rx rs q
  rcases q with q | q
  · exact h pins s σ H x xs v us Q I rx rs q
  · exact h' pins s σ H x xs v us Q I rx rs q
/-- a[b] -/
theorem pe_ix {r : R2} (hr : IxR X r) (ha : PE X a ta) (hb : PE X b tb) (hs : PlainIx b) : PE X (.Subscript a b pos) (tOp r ta tb) := by
  intro pins s σ H Q I h
  exact Subscript_ (binT ha hb I h fun v u s2 x y H2 I2 rx ry q => hr a b pins s2 σ H2 x y v u Q I2 rx ry q (hs _ _))

def rIxL (K : PySem.W.Frag) : R2 := fun x y H Q => ∃ p xs i v, x = .ref p ∧ y = .int i ∧ SqL K H p xs ∧ atI xs i = some v ∧ Q v H
def rIxS : R2 := fun x y H Q => ∃ z i c, x = .str z ∧ y = .int i ∧ z.length ≤ sizeLine ∧ atI z.cps.toList i = some c ∧ Q (.str ⟨#[c]⟩) H
theorem ix_list : IxR X (rIxL X.K) := by
  intro value slice pins s σ H x y v u Q I rx ry h hs
  obtain ⟨p, xs, i, z, rfl, rfl, hq, he, q⟩ := h
  cases rx
  obtain ⟨t, rfl⟩ := ry
  obtain ⟨its, r, pl, hz⟩ := I.list hq
  obtain ⟨j, h1, h2, h3, h4, h5⟩ := atI_get he
  obtain ⟨w, ew, rw'⟩ := r.get h2
  have hl := r.length
  have hn := line63
  have fin : EP X pins σ Q w s := ⟨z, H, I, rw', q⟩
  by_cases h0 : 0 ≤ i
  · have hj : i.toNat = j := by
      rw [seqIndex_of h0 h5] at h1
      exact Option.some.inj h1
    exact item_listR pl.isList h0 (by omega) (by rw [hj]; simpa using ew) fin hs
  · have hj : (i + (its.toArray.size : Int)).toNat = j := by
      rw [seqIndex_neg (by omega) h4] at h1
      rw [List.size_toArray, ← hl]
      exact Option.some.inj h1
    exact subscriptTail_builtinR (x := w) pl.isList.typeIs slot_list_getitem.lookup
      (wpAny_getItem_list_neg (Q := fun r s' => r = w ∧ EP X pins σ Q r s') pl.isList (by omega) (by rw [List.size_toArray] <;> omega) (by omega) (by rw [hj]; simpa using ew) ⟨rfl, fin⟩) hs
theorem ix_str : IxR X rIxS := by
  intro value slice pins s σ H x y v u Q I rx ry h hs
  obtain ⟨z, i, c, rfl, rfl, hz, he, q⟩ := h
  obtain ⟨t, rfl⟩ := rx
  obtain ⟨t', rfl⟩ := ry
  obtain ⟨j, h1, h2, h3, h4, h5⟩ := atI_get he
  have hl : z.cps.toList.length = z.length := by simp [Str.length]
  rw [hl] at h1 h4 h5
  have hn := line63
  exact tail_any (typeIs_str s z t) slot_str_getitem.lookup (getItem_str (c := c) (by
    have e1 : decide (i < -(2 ^ 63 : Int)) = false := decide_eq_false (by omega)
    have e2 : decide (i ≥ 2 ^ 63) = false := decide_eq_false (by omega)
    rw [e1, e2, Bool.or_false]) (by rw [h1]; simpa using h2) ⟨.str ⟨#[c]⟩, H, I.tok _, ⟨_, rfl⟩, q⟩) hs
/-! ### xs[i] = v, any sign -/
/-- the list's object behind a store -/
theorem mapSeq_set (its : List Value) (n j : Nat) (u : Value) : Obj.mapSeq (·.setIfInBounds j u) { cls := .type "list", data := .seq its.toArray n } = { cls := .type "list", data := .seq (its.set j u).toArray n } := by
  simp [Obj.mapSeq]
theorem Inv.lst {pins : List (Addr × Obj)} {σ : St} {H : Hp} {s : Shared} {p : Addr} {xs : List V} (I : Inv X pins σ H s) (h : H p = some (.lst xs)) :
    ∃ (its : List Value) (n : Nat), Vals xs its ∧ s.heap.get? p = some { cls := .type "list", data := .seq its.toArray n } ∧ xs.length ≤ sizeLine := by
  obtain ⟨z, its, n, r, e⟩ := I.hok p _ h
  exact ⟨its, n, r, e, z⟩
/-- the list at p is written by an update of its object -/
theorem Inv.lstUpd {pins : List (Addr × Obj)} {σ : St} {H : Hp} {s : Shared} {p : Addr} {xs ys : List V} {its its' : List Value} {n n' : Nat} {f : Obj → Obj} (I : Inv X pins σ H s) (h : H p = some (.lst xs))
    (ho : s.heap.get? p = some { cls := .type "list", data := .seq its.toArray n }) (hf : f { cls := .type "list", data := .seq its.toArray n } = { cls := .type "list", data := .seq its'.toArray n' }) (r : Vals ys its') (hz : ys.length ≤ sizeLine) (t : Nat) :
    Inv X pins σ (upd H p (.lst ys)) { s with heap := s.heap.update p f, toks := t } := by
  have e : (s.heap.update p f).get? p = some { cls := .type "list", data := .seq its'.toArray n' } := by
    rw [Heap.get?_update_self f ho (by rw [hf] <;> rfl), hf]
  refine I.write (x := p) (e := p) (by rw [h]; trivial) (.inl rfl) (fun b u hb q => (Heap.get?_update_other _ _ (Ne.symm hb)).trans q) ⟨_, e⟩ ?_
  exact ⟨hz, its', n', r, e⟩
def rSetL : V → V → V → Hp → (Hp → Prop) → Prop := fun o i v H Q => ∃ p xs k j, o = .ref p ∧ i = .int k ∧ H p = some (.lst xs) ∧ ixN xs.length k = some j ∧ Q (upd H p (.lst (xs.set j v)))
theorem set_list : PSet X rSetL := by
  intro pins s σ H o i v ov iv u Q I ro ri rv h
  obtain ⟨p, xs, k, j, rfl, rfl, hp, hj, q⟩ := h
  cases ro
  obtain ⟨t, rfl⟩ := ri
  obtain ⟨its, n, r, ho, hz⟩ := I.lst hp
  obtain ⟨h1, h2, h3, h4⟩ := ixN_seq hj
  have hl := r.length
  have hn := line63
  have I' : Inv X pins σ (upd H p (.lst (xs.set j v))) { s with heap := s.heap.update p (Obj.mapSeq (·.setIfInBounds j u)) } :=
    I.lstUpd hp ho (mapSeq_set its n j u) (r.set rv j) (by rw [List.length_set]; exact hz) s.toks
  by_cases h0 : 0 ≤ k
  · have hk : k.toNat = j := by
      rw [seqIndex_of h0 h4] at h1
      exact Option.some.inj h1
    exact PySem.W.ki_setAt ho h0 (by omega) (by rw [List.size_toArray, ← hl]; exact h4) (by rw [hk]; exact ⟨_, I', q⟩)
  · have hk : (k + (its.toArray.size : Int)).toNat = j := by
      rw [seqIndex_neg (by omega) h3] at h1
      rw [List.size_toArray, ← hl]
      exact Option.some.inj h1
    exact PySem.W.ki_setBack ho (by omega) (by rw [List.size_toArray, ← hl]; exact h3) (by omega) (by rw [hk]; exact ⟨_, I', q⟩)

/-! ### slices -/
theorem slice_bounds (lo hi : Option Int) (n : Nat) : (sliceBounds lo hi none n).1 = ((HT.sIx n 0 lo : Nat) : Int) ∧ (sliceBounds lo hi none n).2.1 = ((HT.sIx n n hi : Nat) : Int) ∧ (sliceBounds lo hi none n).2.2 = 1 := by
  refine ⟨?_, ?_, rfl⟩
  · cases lo with
    | none => simp [sliceBounds, HT.sIx]
    | some i =>
      simp only [sliceBounds, HT.sIx, Option.getD_none, show (1 : Int) > 0 by decide, if_true]
      by_cases h : i < 0
      · simp only [h, if_true] <;> omega
      · simp only [h, if_false] <;> omega
  · cases hi with
    | none => simp [sliceBounds, HT.sIx]
    | some i =>
      simp only [sliceBounds, HT.sIx, Option.getD_none, show (1 : Int) > 0 by decide, if_true]
      by_cases h : i < 0
      · simp only [h, if_true] <;> omega
      · simp only [h, if_false] <;> omega
theorem slicePick_cut (its : List Value) (lo hi : Option Int) : slicePick its.toArray lo hi none = ((its.drop (HT.sIx its.length 0 lo)).take (HT.sIx its.length its.length hi - HT.sIx its.length 0 lo)).toArray := by
  obtain ⟨h1, h2, h3⟩ := slice_bounds lo hi its.toArray.size
  unfold slicePick
  rw [h1, h2, h3]
  simp only [sliceRange_one, pick_run, List.size_toArray] <;> rfl
/-- xs[lo:hi] of a list: a new list -/
def rSlL (K : PySem.W.Frag) : V → Option Int → Option Int → Hp → VK → Prop := fun x lo hi H Q => ∃ a xs, x = .ref a ∧ SqL K H a xs ∧ ∀ p, H p = none → Q (.ref p) (upd H p (.lst (cutV xs lo hi)))
theorem sl_list : SlR X (rSlL X.K) := by
  intro pins s σ H x v vl vu lo hi sl Q I rx hs pl pu h
  obtain ⟨a, xs, rfl, hx, q⟩ := h
  cases rx
  obtain ⟨its, r, ht, hz⟩ := I.list hx
  have hlen := r.length
  refine ⟨"list", _, slot_list_getitem.lookup, ht.isList.typeIs, ?_⟩
  refine wpAny_getItem_list_slice ht.isList hs pl pu .none (by simp) ?_ (by rw [List.size_toArray] <;> omega)
  rw [slicePick_cut, ← hlen]
  refine ⟨.ref s.heap.objs.size, _, I.laid (t' := s.toks) (o := .lst (cutV xs lo hi)) (fun b ob q => Heap.get?_push_of_some _ q) (Nat.le_refl _) ?_, rfl, q _ (I.hok.fresh (Nat.le_refl _))⟩
  exact ⟨Nat.le_trans (cutV_length xs lo hi) hz, _, 0, (r.drop (HT.sIx xs.length 0 lo)).take (HT.sIx xs.length xs.length hi - HT.sIx xs.length 0 lo), Heap.get?_push_size _ rfl⟩

/-! ### in, not in: flat items -/
def flatV : V → Bool
  | .non => true
  | .bl _ => true
  | .int _ => true
  | .str _ => true
  | _ => false
/-- == of flat values -/
def eqV : V → V → Bool
  | .non, .non => true
  | .bl a, .bl b => a == b
  | .bl a, .int b => (if a then 1 else 0) == b
  | .int a, .bl b => a == (if b then 1 else 0)
  | .int a, .int b => a == b
  | .str a, .str b => a == b
  | _, _ => false
theorem eqAt_V {A : Around} {s : Shared} {y x : V} {u v : Value} (ry : RelV y u) (rx : RelV x v) (fy : flatV y = true) (fx : flatV x = true) : SeqAt.EqAt A s u v (eqV y x) := by
  cases y with
  | non =>
    cases ry
    cases x with
    | non => cases rx; exact SeqAt.EqAt.same _
    | bl b => cases rx; exact SeqAt.EqAt.none_bool b
    | int b => obtain ⟨t, rfl⟩ := rx; exact SeqAt.EqAt.none_int b t
    | str b => obtain ⟨t, rfl⟩ := rx; exact SeqAt.EqAt.none_str b t
    | _ => exact absurd (show false = true from fx) Bool.false_ne_true
  | bl a =>
    cases ry
    cases x with
    | non => cases rx; exact SeqAt.EqAt.bool_none a
    | bl b => cases rx; exact SeqAt.EqAt.bool_bool a b
    | int b => obtain ⟨t, rfl⟩ := rx; exact SeqAt.EqAt.bool_int a b t
    | str b => obtain ⟨t, rfl⟩ := rx; exact SeqAt.EqAt.bool_str a b t
    | _ => exact absurd (show false = true from fx) Bool.false_ne_true
  | int a =>
    obtain ⟨t', rfl⟩ := ry
    cases x with
    | non => cases rx; exact SeqAt.EqAt.int_none a t'
    | bl b => cases rx; exact SeqAt.EqAt.int_bool a t' b
    | int b => obtain ⟨t, rfl⟩ := rx; exact SeqAt.EqAt.int_int a t' b t
    | str b => obtain ⟨t, rfl⟩ := rx; exact SeqAt.EqAt.int_str a t' b t
    | _ => exact absurd (show false = true from fx) Bool.false_ne_true
  | str a =>
    obtain ⟨t', rfl⟩ := ry
    cases x with
    | non => cases rx; exact SeqAt.EqAt.str_none a t'
    | bl b => cases rx; exact SeqAt.EqAt.str_bool a t' b
    | int b => obtain ⟨t, rfl⟩ := rx; exact SeqAt.EqAt.str_int a t' b t
    | str b => obtain ⟨t, rfl⟩ := rx; exact SeqAt.EqAt.str_str a t' b t
    | _ => exact absurd (show false = true from fx) Bool.false_ne_true
  | _ => exact absurd (show false = true from fy) Bool.false_ne_true
/-- the items' answers, read off the values (a value's own answer does not lean on its token) -/
def eqU (x : V) (u : Value) : Bool := match u with
  | .none => eqV .non x
  | .bool b => eqV (.bl b) x
  | .int i _ => eqV (.int i) x
  | .str z _ => eqV (.str z) x
  | _ => false
theorem eqU_of {x y : V} {u : Value} (r : RelV y u) (f : flatV y = true) : eqU x u = eqV y x := by
  cases y with
  | non => cases r; rfl
  | bl b => cases r; rfl
  | int i => obtain ⟨t, rfl⟩ := r; rfl
  | str z => obtain ⟨t, rfl⟩ := r; rfl
  | _ => exact absurd (show false = true from f) Bool.false_ne_true
theorem any_eqU {x : V} : ∀ {xs : List V} {us : List Value}, Vals xs us → xs.all flatV = true → us.any (eqU x) = xs.any fun y => eqV y x
  | _, _, .nil, _ => rfl
  | y :: xs, u :: us, .cons r t, f => by
    rw [List.all_cons, Bool.and_eq_true] at f
    rw [List.any_cons, List.any_cons, eqU_of r f.1, any_eqU t f.2]
theorem mem_eqAt {A : Around} {s : Shared} {x : V} {v : Value} (rx : RelV x v) (fx : flatV x = true) : ∀ {xs : List V} {us : List Value}, Vals xs us → xs.all flatV = true → ∀ u ∈ us, SeqAt.EqAt A s u v (eqU x u)
  | _, _, .nil, _ => fun u hu => by cases hu
  | y :: xs, u :: us, .cons r t, f => fun u' hu => by
    rw [List.all_cons, Bool.and_eq_true] at f
    rcases List.mem_cons.mp hu with rfl | hu
    · rw [eqU_of r f.1]; exact eqAt_V r rx f.1 fx
    · exact mem_eqAt rx fx t f.2 u' hu
def inV (x : V) (xs : List V) : Bool := xs.any fun y => eqV y x
/-- x in a list or tuple of flat items -/
def rIn (K : PySem.W.Frag) (neg : Bool) : R2 := fun x y H Q => ∃ p xs, y = .ref p ∧ (SqL K H p xs ∨ SqT K H p xs) ∧ flatV x = true ∧ xs.all flatV = true ∧ Q (.bl (if neg then !inV x xs else inV x xs)) H
theorem op_in_seq : OpR X (compareOp .In) (rIn X.K false) := by
  intro pins s σ H x y v u Q I rx ry h
  obtain ⟨p, xs, rfl, hq, fx, fs, q⟩ := h
  cases ry
  rcases hq with hq | hq
  · obtain ⟨its, r, pl, hz⟩ := I.list hq
    refine SeqAt.in_listAt (eqU x) pl.isList (fun w hw => mem_eqAt rx fx r fs w (by simpa using hw)) ⟨.bl _, H, I, rfl, ?_⟩
    rw [show its.toArray.any (eqU x) = its.any (eqU x) by simp, any_eqU r fs]
    exact q
  · obtain ⟨its, r, pl, hz⟩ := I.tuple hq
    refine SeqAt.in_tupleAt (eqU x) pl (fun w hw => mem_eqAt rx fx r fs w (by simpa using hw)) ⟨.bl _, H, I, rfl, ?_⟩
    rw [show its.toArray.any (eqU x) = its.any (eqU x) by simp, any_eqU r fs]
    exact q
/-! ### len, list(x), tuple(x) of any list or tuple that is read -/
theorem call_len_seq : CallR X (.builtin "len") (fun xs H Q => ∃ p ys, xs = [.ref p] ∧ (SqL X.K H p ys ∨ SqT X.K H p ys) ∧ Q (.int ys.length) H) := by
  intro pins s σ H xs us Q I r h
  obtain ⟨p, ys, rfl, hq, q⟩ := h
  obtain ⟨u, rfl, rx⟩ := vals1 r
  cases rx
  have hn := line63
  rcases hq with hq | hq
  · obtain ⟨its, r', pl, hz⟩ := I.list hq
    have hlen := r'.length
    exact Calls.call_len_list pl.isList (by simp only [List.size_toArray] <;> omega) ⟨.int ys.length, H, I.tok _, ⟨s.toks + 1, by rw [List.size_toArray, hlen]⟩, q⟩
  · obtain ⟨its, r', pl, hz⟩ := I.tuple hq
    have hlen := r'.length
    exact len_tuple pl (by simp only [List.size_toArray] <;> omega) ⟨.int ys.length, H, I.tok _, ⟨s.toks + 1, by rw [List.size_toArray, hlen]⟩, q⟩
theorem CallR.or {f : Value} {r r' : List V → Hp → VK → Prop} (h : CallR X f r) (h' : CallR X f r') : CallR X f (fun xs H Q => r xs H Q ∨ r' xs H Q) := by
  intro pins s σ H xs us Q I rs q
  rcases q with q | q
  · exact h pins s σ H xs us Q I rs q
  · exact h' pins s σ H xs us Q I rs q
/-! ### the call of a builtin's method: o.m(..) -/
/-- the value is of that builtin type -/
def tyV (K : PySem.W.Frag) (T : String) (x : V) (H : Hp) : Prop := match x with
  | .str _ => T = "str"
  | .int _ => T = "int"
  | .ref p => (T = "list" ∧ ∃ xs, SqL K H p xs) ∨ (T = "tuple" ∧ ∃ o, K.lookup p = some o ∧ o.cls = .type "tuple" ∧ o.dict = none) ∨
      (T = "dict" ∧ ((∃ kvs, H p = some (.dK kvs)) ∨ ∃ kvs, H p = some (.dT kvs))) ∨ (T = "set" ∧ ∃ S n, H p = some (.set S n))
  | _ => False
theorem tyV_is {pins : List (Addr × Obj)} {σ : St} {H : Hp} {s : Shared} {T : String} {x : V} {v : Value} (I : Inv X pins σ H s) (r : RelV x v) (ty : tyV X.K T x H) :
    s.TypeIs v T ∧ ∀ a, v = .ref a → ∃ ob, s.heap.get? a = some ob ∧ ob.dict = none := by
  cases x with
  | str z =>
    obtain ⟨t, rfl⟩ := r
    cases (show T = "str" from ty)
    exact ⟨typeIs_str s z t, fun _ e => nomatch e⟩
  | int i =>
    obtain ⟨t, rfl⟩ := r
    cases (show T = "int" from ty)
    exact ⟨typeIs_int s i t, fun _ e => nomatch e⟩
  | ref p =>
    cases r
    rcases ty with ⟨rfl, xs, hq⟩ | ⟨rfl, o, hk, hc, hd⟩ | ⟨rfl, hk⟩ | ⟨rfl, S, n, hk⟩
    · obtain ⟨its, _, pl, _⟩ := I.list hq
      refine ⟨pl.isList.typeIs, fun a e => ?_⟩
      cases e
      obtain ⟨o, n, e, c, hd, _⟩ := pl
      exact ⟨o, e, hd⟩
    · refine ⟨⟨o, I.kIn p o hk, hc⟩, fun a e => ?_⟩
      cases e
      exact ⟨o, I.kIn _ o hk, hd⟩
    · have z : ∃ o, s.heap.get? p = some o ∧ o.ExactDict := by
        rcases hk with ⟨kvs, hk⟩ | ⟨kvs, hk⟩
        · obtain ⟨_, _, _, _, o, _, _, e, ex, _⟩ := I.hok p _ hk
          exact ⟨o, e, ex⟩
        · obtain ⟨_, _, _, _, o, _, _, e, ex, _⟩ := I.hok p _ hk
          exact ⟨o, e, ex⟩
      obtain ⟨o, e, ex⟩ := z
      refine ⟨⟨o, e, ex.1⟩, fun a e2 => ?_⟩
      cases e2
      exact ⟨o, e, ex.2.1⟩
    · obtain ⟨o, _, _, _, e, ex, _⟩ := I.hok p _ hk
      refine ⟨⟨o, e, ex.1⟩, fun a e2 => ?_⟩
      cases e2
      exact ⟨o, e, ex.2.1⟩
  | _ => exact False.elim ty
def tBM (K : PySem.W.Frag) (T : String) (r : V → List V → Hp → VK → Prop) (to : TE) (t : TA) : TE := fun σ H Q => to σ H fun x H1 => tyV K T x H1 ∧ t σ H1 fun xs H2 => r x xs H2 Q
variable {o e : Expr} {es : List Expr} {to : TE} {t : TA} {name : Str} {apos cpos : Pos} {T id : String} {r : V → List V → Hp → VK → Prop}
theorem pe_bm (pa : PlainAttrs T) (slot : Slot T name id) (hty : typeOf (.builtin id) = pure (.type "method_descriptor")) (hm : MtR X id r) (ho : PE X o to) (ha : PA X (e :: es) t)
    (hbase : attributeBase o name X.env (eval o X.env) = eval o X.env := by rfl)
    (hfew : ((backTo cpos (starEach (e :: es) X.env)).all (fun x => !x.1) && (backToKw cpos (keywordEach [] X.env)).all (fun x => x.1.isSome)
      && decide ((e :: es).length + ([] : List Keyword).length + (if ([] : List Keyword).isEmpty then 0 else 1) < 30)) = true := by rfl)
    (hline : (apos.endLine == cpos.line) = true := by rfl) (hs : starEach (e :: es) X.env = (false, eval e X.env) :: starEach es X.env := by rfl) (hplain : (backTo cpos (starEach es X.env)).any (·.1) = false := by rfl) :
    PE X (.Call (.Attribute o name apos) (e :: es) [] cpos) (tBM X.K T r to t) := by
  intro pins s σ H Q I h
  refine wpAny_Call_method_late hbase hfew hline rfl (thn (ho pins s σ H _ I h) fun v s1 ⟨x, H1, I1, r1, ty, q1⟩ => ?_)
  obtain ⟨h1, h2⟩ := tyV_is I1 r1 ty
  refine ⟨T, id, pa, slot, hty, h1, h2, ?_⟩
  have hA := ha cpos pins s1 σ H1 _ I1 q1
  rw [hs] at hA ⊢
  refine Calls.callWith_builtin (by show (false || (backTo cpos (starEach es X.env)).any (·.1)) = false; rw [hplain] <;> rfl) (Calls.evalArgs_plain ?_)
  exact thn hA fun us s2 ⟨vs, H2, I2, r2, q2⟩ => hm pins s2 σ H2 x vs v us Q I2 r1 r2 q2
/- xs.append(e), list.index on a module's tuple .. are MtR facts of 06m -/
end
end L2

namespace L2
open PySem PySem.Spec PyProof.Rows

def MtM (X : Cx) (id : String) (r : V → List V → Hp → VK → Prop) : Prop :=
  ∀ (pins : List (Addr × Obj)) (s : Shared) (σ : St) (H : Hp) (x : V) (xs : List V) (v : Value) (us : List Value) (Q : VK), Inv X pins σ H s → RelV x v → Vals xs us → r x xs H Q →
    wpAny (model X.prog X.w) X.A (call (.builtin id) (v :: us)) (EP X pins σ Q) X.xe s

/-! ### lists of values -/
theorem Vals.one : ∀ {x : V} {us : List Value}, Vals [x] us → ∃ u, us = [u] ∧ RelV x u
  | _, _, .cons r .nil => ⟨_, rfl, r⟩
theorem Vals.two : ∀ {x y : V} {us : List Value}, Vals [x, y] us → ∃ u v, us = [u, v] ∧ RelV x u ∧ RelV y v
  | _, _, _, .cons r (.cons q .nil) => ⟨_, _, rfl, r, q⟩
theorem Vals.zero : ∀ {us : List Value}, Vals [] us → us = []
  | _, .nil => rfl
theorem Vals.reverse {xs : List V} {us : List Value} (h : Vals xs us) : Vals xs.reverse us.reverse := by
  induction h with
  | nil => exact .nil
  | cons r t ih => rw [List.reverse_cons, List.reverse_cons]; exact Vals.append ih (.cons r .nil)
theorem Vals.rep {xs : List V} {us : List Value} (h : Vals xs us) : ∀ k : Nat, Vals (List.replicate k xs).flatten (List.replicate k us).flatten
  | 0 => .nil
  | k + 1 => by
    rw [List.replicate_succ, List.replicate_succ, List.flatten_cons, List.flatten_cons]
    exact Vals.append h (Vals.rep h k)
theorem foldl_rep (its : List Value) : ∀ (k : Nat) (acc : List Value),
    List.foldl (fun x1 x2 => x1 ++ x2) acc.toArray (List.replicate k its.toArray) = (acc ++ (List.replicate k its).flatten).toArray
  | 0, acc => by simp
  | k + 1, acc => by
    have e : acc.toArray ++ its.toArray = (acc ++ its).toArray := by simp
    have e2 : (acc ++ its) ++ (List.replicate k its).flatten = acc ++ (List.replicate (k + 1) its).flatten := by
      rw [List.replicate_succ, List.flatten_cons, List.append_assoc]
    rw [← e2, ← foldl_rep its k (acc ++ its), ← e, List.replicate_succ, List.foldl_cons]

section
variable {X : Cx} {pins : List (Addr × Obj)} {σ : St} {H : Hp} {s : Shared} {l b : Addr} {xs ys zs : List V}

/-! ### the two steps: a tracked list is rewritten, a new list is laid -/
theorem Inv.lset {its its' : List Value} {n : Nat} {f : Array Value → Array Value} {t' : Nat} (I : Inv X pins σ H s) (hH : H l = some (.lst xs))
    (e : s.heap.get? l = some { cls := .type "list", data := .seq its.toArray n }) (hf : f its.toArray = its'.toArray) (hv : Vals ys its') (hz : ys.length ≤ sizeLine) :
    Inv X pins σ (upd H l (.lst ys)) { s with heap := s.heap.update l (Obj.mapSeq f), toks := t' } := by
  have q := PySem.IsL.update e f
  rw [hf] at q
  refine I.write (x := l) (e := l) (by rw [hH]; exact trivial) (.inl rfl) (fun b' u hb hu => (Heap.get?_update_other s.heap (Obj.mapSeq f) (Ne.symm hb)).trans hu) ⟨_, q⟩ ?_
  exact ⟨hz, its', _, hv, q⟩
theorem Inv.lnew {its : List Value} {t' : Nat} (I : Inv X pins σ H s) (hv : Vals ys its) (hz : ys.length ≤ sizeLine) :
    Inv X pins σ (upd H s.heap.objs.size (.lst ys)) { s with heap := s.heap.push { cls := .type "list", data := .seq its.toArray }, toks := t' } :=
  I.laid (fun _ _ q => Heap.get?_push_of_some _ q) (Nat.le_refl _) ⟨hz, its, 0, hv, Heap.get?_push_size _ rfl⟩
theorem Inv.fresh (I : Inv X pins σ H s) : H s.heap.objs.size = none := I.hok.fresh (Nat.le_refl _)
theorem Inv.lstM (I : Inv X pins σ H s) (hH : H l = some (.lst xs)) : xs.length ≤ sizeLine ∧ ∃ (its : List Value) (n : Nat), Vals xs its ∧ xs.length = its.length ∧ s.heap.get? l = some { cls := .type "list", data := .seq its.toArray n } := by
  obtain ⟨z, its, n, r, e⟩ := I.hok l _ hH
  exact ⟨z, its, n, r, r.length, e⟩

theorem notLongL {n : Nat} (h : n ≤ sizeLine) : Builtin.List.listTooLong n = false := by
  unfold Builtin.List.listTooLong
  exact decide_eq_false (by omega)
end

section
variable {X : Cx}

/-! ### methods -/
def rAppend : V → List V → Hp → VK → Prop := fun x vs H Q => ∃ l xs y, x = .ref l ∧ vs = [y] ∧ H l = some (.lst xs) ∧ xs.length < sizeLine ∧ Q .non (upd H l (.lst (xs ++ [y])))
theorem mt_append : MtM X "list.append" rAppend := by
  intro pins s σ H x vs v us Q I rx rv h
  obtain ⟨l, xs, y, rfl, rfl, hH, hz, q⟩ := h
  cases rx
  obtain ⟨u, rfl, ru⟩ := rv.one
  obtain ⟨z, its, n, r, hl, e⟩ := I.lstM hH
  refine call_meets F.slot_list_append ⟨_, e, rfl⟩ F.entry_list_append (F.args_list_append_2 _ _) (PySem.list_append l its.toArray n u (by rw [List.size_toArray]; omega)) ⟨e, ?_⟩
  refine ⟨.non, _, I.lset (its' := its ++ [u]) hH e (by simp) (r.append (.cons ru .nil)) ?_, rfl, q⟩
  rw [List.length_append, List.length_singleton]
  omega

/-! ### list + list, list += list, list * int -/
def rCat : R2 := fun x y H Q => ∃ l b xs zs, x = .ref l ∧ y = .ref b ∧ H l = some (.lst xs) ∧ H b = some (.lst zs) ∧ xs.length + zs.length ≤ sizeLine ∧ ∀ p, H p = none → Q (.ref p) (upd H p (.lst (xs ++ zs)))
theorem op_cat : OpR X (binaryOp .Add) rCat := by
  intro pins s σ H x y v u Q I rx ry h
  obtain ⟨l, b, xs, zs, rfl, rfl, hH, hB, hz, q⟩ := h
  cases rx
  cases ry
  obtain ⟨z, its, n, r, hl, e⟩ := I.lstM hH
  obtain ⟨z2, its2, n2, r2, hl2, e2⟩ := I.lstM hB
  refine PySem.P.add_list e e2 ?_ (by rw [List.size_toArray, List.size_toArray]; omega)
  have ea : its.toArray ++ its2.toArray = (its ++ its2).toArray := by simp
  rw [ea]
  exact ⟨.ref _, _, I.lnew (t' := s.toks) (r.append r2) (by rw [List.length_append]; omega), rfl, q _ I.fresh⟩
/-- a list times an int (a negative one is nothing) -/
def rRep : R2 := fun x y H Q => ∃ l k xs, x = .ref l ∧ y = .int k ∧ H l = some (.lst xs) ∧ -(2 ^ 63) ≤ k ∧ k < 2 ^ 63 ∧ xs.length * k.toNat ≤ sizeLine ∧
  ∀ p, H p = none → Q (.ref p) (upd H p (.lst (List.replicate k.toNat xs).flatten))
theorem len_rep {α : Type} (xs : List α) (k : Nat) : (List.replicate k xs).flatten.length = k * xs.length := by
  induction k with
  | zero => simp
  | succ k ih => rw [List.replicate_succ, List.flatten_cons, List.length_append, ih, Nat.succ_mul, Nat.add_comm]
theorem op_rep : OpR X (binaryOp .Mult) rRep := by
  intro pins s σ H x y v u Q I rx ry h
  obtain ⟨l, k, xs, rfl, rfl, hH, h1, h2, hz, q⟩ := h
  cases rx
  obtain ⟨t, rfl⟩ := ry
  obtain ⟨z, its, n, r, hl, e⟩ := I.lstM hH
  have hlen : its.toArray.size * k.toNat ≤ sizeLine := by rw [List.size_toArray, ← hl]; exact hz
  have hcap : ¬ its.toArray.size * k.toNat > (2 ^ 63 - 1) / 8 := by
    have : (sizeLine : Nat) ≤ (2 ^ 63 - 1) / 8 := by decide
    omega
  have hfit : ¬ (!Builtin.List.listFitsIndex k) = true := by
    rw [fitsIndex_both h1 h2]
    exact Bool.false_ne_true
  have hlong : ¬ Builtin.List.listTooLong (its.toArray.size * k.toNat) = true := by
    rw [notLongL hlen]
    exact Bool.false_ne_true
  have hnew : List.foldl (fun x1 x2 => x1 ++ x2) #[] (List.replicate (if its.toArray.isEmpty = true then 0 else k.toNat) its.toArray) = (List.replicate k.toNat its).flatten.toArray := by
    have f0 : ∀ m : Nat, List.foldl (fun x1 x2 => x1 ++ x2) #[] (List.replicate m its.toArray) = (List.replicate m its).flatten.toArray := fun m => by
      have := foldl_rep its m []
      rw [List.nil_append] at this
      exact this
    rw [f0]
    cases its with
    | nil => simp
    | cons a r' => rw [if_neg (by simp)]
  refine wpAny_binaryOp_repeat_ref (T := "list") (U := "int") (by decide) ⟨_, e, rfl⟩ (fun s' => typeIs_int s' k t) noFill_list_mul F.fills_int_mul F.slot_int_rmul repeat_list F.slot_int_index.lookup
    (call_meets F.slot_int_rmul (typeIs_int s k t) F.entry_int_rmul (F.args_int_rmul_2 _ _) (int___rmul___int_list k t l its.toArray n)
      ⟨e, rfl, ⟨_, e, rfl⟩, call_meets F.slot_list_mul ⟨_, e, rfl⟩ F.entry_list_mul (F.args_list_mul_2 _ _) (AutoListH.list___mul___list_int_3 l its.toArray n k t hfit hcap hlong) ⟨e, ?_⟩⟩)
  rw [hnew]
  exact ⟨.ref _, _, I.lnew (t' := s.toks) (r.rep k.toNat) (by rw [len_rep, Nat.mul_comm]; exact hz), rfl, q _ I.fresh⟩

/-! ### del xs[i] -/
end

/-! ### xs[a:b] = ys -/
section
variable {prog : Program} {w : World} {A : Around} {E : Value → Shared → Prop} {s : Shared}
end

section
variable {X : Cx}
end
end L2

namespace L2
open PySem PySem.Spec PyProof.Rows

/-! ### lists of pairs as tables -/
section
variable {κ : Type} [DecidableEq κ]
def dropK (kvs : List (κ × V)) (k : κ) : List (κ × V) := kvs.filter fun kv => decide (kv.1 ≠ k)

theorem RelO.getD {o : Option V} {u : Option Value} {d : V} {d' : Value} (r : RelO o u) (rd : RelV d d') : RelV (o.getD d) (u.getD d') := by
  cases o with
  | none => cases u with
    | none => exact rd
    | some _ => exact (show False from r).elim
  | some _ => cases u with
    | none => exact (show False from r).elim
    | some _ => exact r

theorem KV.any {kvs : List (κ × V)} {vs : List (κ × Value)} (r : KV kvs vs) (k : κ) : (kvs.any fun kv => decide (kv.1 = k)) = vs.any fun kv => decide (kv.1 = k) := by
  unfold KV at r
  induction r with
  | nil => rfl
  | cons h t ih => rw [List.any_cons, List.any_cons, ih, h.1]
theorem KV.drop {kvs : List (κ × V)} {vs : List (κ × Value)} (r : KV kvs vs) (k : κ) : KV (dropK kvs k) (without vs k) := by
  unfold KV at r ⊢
  unfold dropK without
  induction r with
  | nil => exact .nil
  | @cons p q ps qs h t ih =>
    obtain ⟨h1, h2⟩ := h
    rw [List.filter_cons, List.filter_cons]
    by_cases e : p.1 = k
    · have a : ¬ decide (p.1 ≠ k) = true := by simp [e]
      have b : ¬ decide (q.1 ≠ k) = true := by simp [h1.symm.trans e]
      rw [if_neg a, if_neg b]; exact ih
    · have e' : ¬ q.1 = k := fun z => e (h1.trans z)
      have a : decide (p.1 ≠ k) = true := by simp [e]
      have b : decide (q.1 ≠ k) = true := by simp [e']
      rw [if_pos a, if_pos b]; exact .cons ⟨h1, h2⟩ ih
theorem KV.keys {kvs : List (κ × V)} {vs : List (κ × Value)} (r : KV kvs vs) : kvs.map (·.1) = vs.map (·.1) := by
  unfold KV at r
  induction r with
  | nil => rfl
  | cons h t ih => rw [List.map_cons, List.map_cons, ih, h.1]
theorem KV.length {kvs : List (κ × V)} {vs : List (κ × Value)} (r : KV kvs vs) : kvs.length = vs.length := Paired.length r
end


/-! ### a tracked dict, its keys ints and texts or tuples of these -/
section
variable {P : Program} {w : World} {H : Hp} {h : Heap} {a : Addr}
end

section
variable {X : Cx} {pins : List (Addr × Obj)} {σ : St} {H : Hp} {s : Shared} {a : Addr} {y v : V} {u r : Value} {o : Option V} {A : Around} {E : Value → Shared → Prop}

end

section
variable {X : Cx} {pins : List (Addr × Obj)} {σ : St} {H : Hp} {s : Shared} {a : Addr} {kvs : List (Key × V)} {k : Key} {u : Value} {A : Around} {E : Value → Shared → Prop}
end


/-! ### readings and rules -/
section
variable {X : Cx} {o i e value : Expr} {pos pos' tpos : Pos} {td ty tv : TE}
end


/-! ### displays -/
section
variable {X : Cx} {pos : Pos}
end

/-! ### methods -/
section
variable {X : Cx} {pins : List (Addr × Obj)} {σ : St} {H : Hp} {s : Shared} {a : Addr} {y d : V} {u r : Value} {o : Option V} {A : Around} {E : Value → Shared → Prop}
end

section
variable {X : Cx} {o e f : Expr} {apos cpos : Pos} {td ty tx : TE}
end

/-! ### dict(d): a copy -/
section
variable {X : Cx} {pins : List (Addr × Obj)} {σ : St} {H : Hp} {s : Shared} {a : Addr} {kvs : List (Key × V)} {A : Around} {E : Value → Shared → Prop}
end


section
variable {X : Cx} {pins : List (Addr × Obj)} {σ : St} {H : Hp} {s : Shared} {a : Addr} {y : V} {u : Value} {A : Around} {E : Value → Shared → Prop}
end
end L2

namespace Att
open PySem PySem.W PySem.Calls PyProof.Rows

/-! ### the script -/
theorem ints_of_wellAll {P : Params} {h : Heap} : ∀ (ns : List Int) (vs : List Value), WellAll P h vs (ns.map WData.int) → IntsAre vs ns := by
  intro ns
  induction ns with
  | nil =>
    intro vs w
    rw [List.map_nil] at w
    cases w
    exact .nil
  | cons n ns ih =>
    intro vs w
    rw [List.map_cons] at w
    cases w with
    | cons a b =>
      cases a
      exact .cons _ _ (ih _ b)

theorem script_of {l : OpenLaw} {n : Nat} (hn : l.most = some n) {P : Params} {h : Heap} {args : List WData} {vals : List Value}
    (hpre : l.row.toRowW.claim.pre args = true) (hwl : WellAll P h vals args) :
    ∃ a vs ns, vals = [Value.ref a] ∧ args = [WData.list (ns.map WData.int)] ∧ h.get? a = some { cls := .type "list", data := .seq vs.toArray } ∧ IntsAre vs ns ∧ ns.length ≤ n := by
  have hsh : WShape.hasAll [] args [.list .int] = true := (pre_splitW hpre).1
  have hc : l.pre.holds [] { args := args } = true := (pre_splitW hpre).2
  obtain ⟨d, r, rfl, h1, h2⟩ := hasAllW_cons hsh
  obtain rfl := hasAllW_nil h2
  obtain ⟨xs, rfl, h3⟩ := hasW_list h1
  obtain ⟨ns, rfl⟩ := items_int h3
  have hlen : ns.length ≤ n := by
    unfold OpenLaw.pre at hc
    have h4 : (WTm.not (.lt (.lit (.int (n : Int))) (.len (.arg 0)))).holds [] { args := [.list (ns.map .int)] } = true := by
      have h4 := (holds_andW hc).1
      rw [hn] at h4
      exact h4
    have h5 := condW_of h4 (w_not (w_lt w_lit (w_len_list (w_arg rfl))))
    rw [List.length_map] at h5
    refine Nat.le_of_not_lt fun q => ?_
    have q' : (n : Int) < ((ns.length : Nat) : Int) := by omega
    first
      | (rw [decide_eq_true q'] at h5; exact absurd h5 (by decide))
      | (simp at h5; omega)
  cases hwl with
  | cons w1 w2 =>
    cases w2
    cases w1 with
    | list ho hall => exact ⟨_, _, ns, rfl, rfl, ho, ints_of_wellAll ns _ hall, hlen⟩

theorem post_true (l : OpenLaw) (args : List WData) : l.row.toRowW.claim.post args (.bool true) args = true :=
  postW_of (r := l.row.toRowW) (X := (true == true))
    (show WShape.has [] (.bool true) .bool = true by first | rfl | decide | simp [WShape.has, WShape.arms, WShape.armsAll])
    (show (WTm.eq .res (.lit (.bool true))).value [] { args := args, res := some (.bool true), after := args } = some (.bool (true == true)) from w_eq_bool (w_res rfl) w_lit) rfl

/-! ### the attachment: holds_open's last premise (the goal 'hc' behind k_head) from a wpAny of the law's body -/
/-- the same from a codeAny of the CALL (for a layer whose function contracts speak of calls) -/
theorem attach_call {l : OpenLaw} {n : Nat} {q : Program} {loose : List Str} {XP : (Str → Option Value) → Heap → Prop} {YP : World → Heap → Prop} {d : DefRec}
    (hn : l.most = some n) (hdf : d.params.defaults = [])
    (call : ∀ (w : World) (s₀ s₁ : Shared) (mg mb : Str → Option Value) (fa : Addr) (o : Obj) (pm cd doc : Value) (a : Addr) (vs : List Value) (ns : List Int),
      Ground q loose [] XP w s₀ mg mb s₁.heap → YP w s₁.heap →
      s₁.heap.get? fa = some o → o.data = .func (docDef d.name d.params d.body d.scope pm cd doc) → s₁.heap.CodeRec cd d.name → mg d.name = some (.ref fa) →
      s₁.heap.get? a = some { cls := .type "list", data := .seq vs.toArray } → IntsAre vs ns → ns.length ≤ n → s₁.gens = #[] →
      codeAny (model l.prog w) callerA (.call (.ref fa) ⟨[.ref a], []⟩) (fun r s' => r = .ok (.ret (.bool true)) ∧ OldK s₁.heap s'.heap ∧ s'.os = s₁.os ∧ AllBare s'.gens) s₁) :
    WalkO q loose XP YP l.row.toRowW d [] (fun f vs => PySem.call f vs) := by
  intro w s₀ s₁ mg mb G Y fa o pm cd doc dV kV ho hd hcd hD hmg hg args vals as hpre hlay hrd hwl hlo
  obtain rfl : dV = .none := Dflts.none hD hdf
  obtain rfl : kV = .none := Dflts.noKw hD
  obtain ⟨a, vs, ns, rfl, rfl, hobj, hints, hlen⟩ := script_of hn hpre hwl
  refine enter_call (codeAny_mono (call w s₀ s₁ mg mb fa o pm cd doc a vs ns G Y ho (fd_plain hd) hcd hmg hobj hints hlen hg) fun r s' hq => ?_)
  obtain ⟨rfl, h2, h3, h4⟩ := hq
  exact ⟨.inl ⟨.bool true, .bool true, [], rfl, fun _ => rfl, .bool true, post_true l _, fun _ => ⟨List.Pairwise.nil, fun _ hm => (nomatch hm)⟩⟩, h2, h3, h4⟩

/-! ### rules over ANY heap (no ledger) from facts about the written part K: the library's own take a ledger (News) for what they write -/
section
variable {prog : Program} {w : World} {A : Around} {E : Value → Shared → Prop} {s : Shared} {K : Frag}

/-! the whole heap as the ledger: makes every rule that writes through a ledger a rule over any heap -/
def ledger (h : Heap) (L d : Addr) : List (Addr × Obj) := (List.range h.objs.size).filterMap fun a => if a = L ∨ a = d then none else (h.get? a).map fun o => (a, o)
end
end Att

namespace L2
open PySem PySem.Spec PyProof.Rows

theorem vals_ints : ∀ {vs : List Value} {ns : List Int}, IntsAre vs ns → Vals (ns.map V.int) vs
  | _, _, .nil => .nil
  | _, _, .cons n t h => .cons ⟨t, rfl⟩ (vals_ints h)

/-- nothing is tracked but the script, known to the object (or it is an object of the module) -/
def Only (H : Hp) : Prop := ∀ b, H b = none ∨ ∃ o xs, H b = some (.frz o (.lst xs))

/-- THE HEAD: the law's promise, at the heap behind the top. F, the promise of the law's def, may use that base is part of the heap (so K.In base, base.Ns mainGlobals mg stand in Mod) -/
theorem law_call {P : Program} {w : World} {K : PySem.W.Frag} {mg mb : Str → Option Value} {CX : CXT} {k : Nat} {fa a : Addr} {fd : FuncData} {x : Str} {sp : Sp} {s₁ : Shared} {vs : List Value} {ns : List Int}
    (KX : K.In s₁.heap) (hns : s₁.heap.Ns mainGlobals mg) (hb : s₁.heap.Ns builtinsNs mb) (hbb : ∀ x : Str, x ≠ "__name__" → mb x = bootBuiltins x) (hlim : s₁.heap.NoLimit) (hg : s₁.gens = #[])
    (ha : s₁.heap.get? a = some { cls := .type "list", data := .seq vs.toArray }) (hi : IntsAre vs ns) (hl : ns.length ≤ sizeLine) (hr : Room k callerA)
    (F : ∀ base : Heap, K.In base → base.Ns mainGlobals mg → FnOk P w K mg base CX k fa fd [x] sp) (hbind : ∀ (s : Shared) (u : Value), BindsTo s fd ⟨[u], []⟩ [(x, u)])
    (hsp : ∀ H : Hp, Only H → SqL K H a (ns.map V.int) → sp [.ref a] H (fun v _ => v = .bl true) fun _ _ _ => False)
    (hCX : ∀ H e s', CX [] H s₁ (fun _ _ _ => False) e s' → False) :
    codeAny (model P w) callerA (.call (.ref fa) ⟨[.ref a], []⟩) (fun r s' => r = .ok (.ret (.bool true)) ∧ OldK s₁.heap s'.heap ∧ s'.os = s₁.os ∧ AllBare s'.gens) s₁ := by
  have rv := vals_ints hi
  have lenV := hi.length
  -- from an abstract heap in which nothing but the script may be tracked
  have core : ∀ H : Hp, Only H → SqL K H a (ns.map V.int) → HOk P w H s₁.heap → (∀ b, H b ≠ none → b = a) → (H a ≠ none → K.lookup a = none) →
      codeAny (model P w) callerA (.call (.ref fa) ⟨[.ref a], []⟩) (fun r s' => r = .ok (.ret (.bool true)) ∧ OldK s₁.heap s'.heap ∧ s'.os = s₁.os ∧ AllBare s'.gens) s₁ := by
    intro H hO hS hok hA hK
    have base_of : ∀ {b : Addr} {o : Obj}, s₁.heap.get? b = some o → H b = none → (hidT s₁.heap H).get? b = some o := fun e n => hidT_get e n
    have noA : ∀ {b : Addr} {o : Obj} {es : Array DictEntry} {ep : Nat}, s₁.heap.get? b = some o → o.data = .dict es ep → H b = none := fun {b o es ep} e d => by
      cases q : H b with
      | none => rfl
      | some u =>
        have e' : b = a := hA b (by rw [q]; simp)
        subst e'
        rw [ha] at e; cases e
        have d' : Data.seq vs.toArray _ = Data.dict es ep := d
        cases d'
    have nsK : ∀ {b : Addr} {m : Str → Option Value}, s₁.heap.Ns b m → (hidT s₁.heap H).Ns b m := fun {b m} ⟨o, es, ep, e, d, r⟩ => ⟨o, es, ep, base_of e (noA e d), d, r⟩
    have hKb : K.In (hidT s₁.heap H) := fun b o e => base_of (KX b o e) (by
      cases q : H b with
      | none => rfl
      | some u =>
        have e' : b = a := hA b (by rw [q]; simp)
        subst e'
        rw [hK (by rw [q]; simp)] at e; cases e)
    have hM : Mod K mg (hidT s₁.heap H) := ⟨hKb, nsK hns, ⟨mb, nsK hb, hbb⟩, let ⟨mc, h1, h2⟩ := hlim; ⟨mc, nsK h1, h2⟩⟩
    have e0 : Env0 P w K mg (hidT s₁.heap H) callerA [] s₁ H := ⟨rfl, hM, fun b o e => of_hidT e, Nat.le_of_eq (hidT_size _ _), trivial, fun b hb => absurd (show b ∈ ([] : List Addr) from hb) (by simp), hok, .of_eq hg⟩
    refine codeAny_mono ((F _ hKb (nsK hns)).run callerA [] s₁ H ⟨[.ref a], []⟩ [.ref a] [.ref a] _ _ hr e0 (hbind s₁ (.ref a)) (.cons rfl .nil) (hsp H hO hS)) fun r s' h => ?_
    cases r with
    | error e => exact (hCX H e s' h).elim
    | ok fl =>
      cases fl with
      | next => exact False.elim h
      | brk => exact False.elim h
      | cont => exact False.elim h
      | ret u =>
        obtain ⟨v, H', os, bare, un, hok', r', q⟩ := h
        have q' : v = .bl true := q
        subst q'
        obtain rfl : u = Value.bool true := r'
        refine ⟨rfl, OldK.of_keep fun b o e => ?_, os, bare⟩
        cases q : H b with
        | none => exact un.keep b o e q (by intro z; exact absurd (show b ∈ ([] : List Addr) from z) (by simp)) (by simp)
        | some u =>
          rcases hO b with z | ⟨ob, xs, z⟩
          · rw [q] at z; cases z
          · have z2 := un.frzs b ob _ z
            obtain ⟨e1, _⟩ := hok b _ z
            obtain ⟨e2, _⟩ := hok' b _ z2
            rw [e] at e1; cases e1
            exact e2
  cases hk : K.lookup a with
  | some o =>
    -- the script is one of the module's own objects
    have e := KX a o hk
    rw [ha] at e
    cases e
    refine core (fun _ => none) (fun _ => .inl rfl) (.inr ⟨_, vs.toArray, _, hk, rfl, rfl, rfl, by rw [List.size_toArray, lenV]; exact hl, by simpa using rv⟩) (fun b u z => by have z' : (none : Option HO) = some u := z; cases z') (fun b z => absurd rfl z) fun z => absurd rfl z
  | none =>
    refine core (fun b => if b = a then some (.frz { cls := .type "list", data := .seq vs.toArray } (.lst (ns.map V.int))) else none) (fun b => ?_) (.inl (.inr ⟨{ cls := .type "list", data := .seq vs.toArray }, if_pos rfl⟩)) (fun b u z => ?_) (fun b z => ?_) fun _ => hk
    · by_cases hb : b = a
      · exact .inr ⟨_, _, if_pos hb⟩
      · exact .inl (if_neg hb)
    · by_cases hb : b = a
      · have z' := (if_pos hb).symm.trans z
        cases z'
        subst hb
        exact ⟨ha, by rw [List.length_map]; exact hl, vs, _, rv, ha⟩
      · have z' := (if_neg hb).symm.trans z
        cases z'
    · by_cases hb : b = a
      · exact hb
      · exact absurd (if_neg hb) z
end L2

namespace L2
open PySem PySem.Spec PyProof.Rows

abbrev KOf {K : PySem.W.Frag} {h : Heap} (_ : K.In h) : PySem.W.Frag := K

/-- the goal that k_head leaves (case hc), from the law's promise. F gives the function object fd (K's own) once, then the promise over every base -/
theorem walk_of {l : PySem.W.OpenLaw} {n k : Nat} {q : Program} {loose : List Str} {XP : (Str → Option Value) → Heap → Prop} {YP : World → Heap → Prop} {d : DefRec} {K : Params → PySem.W.Frag} {CX : World → CXT} {sp : World → Sp} {x : Str}
    (hn : l.most = some n) (hn2 : n ≤ sizeLine) (hdf : d.params.defaults = []) (hr : Room k callerA)
    (hY : ∀ (w : World) (h : Heap), YP w h → (K w.params).In h)
    (F : ∀ (w : World) (mg : Str → Option Value) (fa : Addr) (h : Heap), (K w.params).In h → h.Ns mainGlobals mg → mg d.name = some (.ref fa) →
      ∃ fd : FuncData, (∀ (s : Shared) (u : Value), BindsTo s fd ⟨[u], []⟩ [(x, u)]) ∧
        ∀ base : Heap, (K w.params).In base → base.Ns mainGlobals mg → FnOk l.prog w (K w.params) mg base (CX w) k fa fd [x] (sp w))
    (hsp : ∀ (w : World) (H : Hp) (a : Addr) (ns : List Int), ns.length ≤ n → Only H → SqL (K w.params) H a (ns.map V.int) → sp w [.ref a] H (fun v _ => v = .bl true) fun _ _ _ => False)
    (hCX : ∀ (w : World) (H : Hp) (s : Shared) (e : Value) (s' : Shared), CX w [] H s (fun _ _ _ => False) e s' → False) :
    PySem.W.WalkO q loose XP YP l.row.toRowW d [] (fun f vs => PySem.call f vs) := by
  refine Att.attach_call hn hdf fun w s₀ s₁ mg mb fa o pm cd doc a vs ns G Y ho hd hcd hmg hobj hints hlen hg => ?_
  have KX := hY w _ Y
  obtain ⟨fd, hb, hF⟩ := F w mg fa _ KX G.T.g hmg
  exact law_call KX G.T.g G.T.b G.T.builtins G.T.nolimit hg hobj hints (Nat.le_trans hlen hn2) hr hF hb (fun H hO hS => hsp w H a ns hlen hO hS) fun H e s' => hCX w H s₁ e s'
end L2

/- THE LAST THEOREM (shape; LID, My.* are yours):
   My.Adr: a structure of the addresses that your layer names (classes, functions); My.Txt K t: a structure (Prop) of the equations over K;
   My.txt_mk : {K} {implicit addresses ..} (e1 : nsIn K mainGlobals "law" = some (some (.ref f))) (e2 : K.lookup f = some ⟨oc, od, .func (fnOf "law" "law" params body scope dV kV doc pm an cdv ct), sl⟩) (e3 : codeIn K cdv "law" = true) .. : ∃ t, My.Txt K t

set_option maxRecDepth 100000 in
set_option maxHeartbeats 0 in
theorem PySem.Challenge.cw_LID_holds : PySem.Challenge.rw_LID.Holds := by
  w_on; o_law; k_head; (case hw => w_witness2)
  k_fill
  refine L2.walk_of (l := PySem.Challenge.rw_LID) (n := 63) (k := 40) (x := "script") (CX := fun w => ..) (sp := fun _ => My.sp_law) rfl (by decide) rfl ⟨rfl, by decide, by decide⟩ (fun w h Y => PySem.W.kIn_of Y) ?F ?S ?C
  case F =>
    intro w mg fa h KX G hmg
    have T : ∃ t, My.Txt (L2.KOf KX) t := by
      dsimp only [L2.KOf]                          -- K must stand as «<heap const> w.params» for k_is
      refine' My.txt_mk ?e1 ?e2 ?e3 ..
      (case e1 => PySem.W.k_is)                    -- in the order: a name -> its address -> its object -> its parts
      (case e2 => PySem.W.k_is)
      ..
    obtain ⟨t, T⟩ := T
    have e0 := hmg.symm.trans (PySem.W.mg_of KX G T.law)
    cases e0                                       -- fa is the law's own address
    exact ⟨_, fun s u => .of_eq rfl, fun base kb nb => My.law_fn T kb nb⟩     -- if «.of_eq rfl» comes too early: refine' ⟨_, ?b, fun base kb nb => My.law_fn T kb nb⟩; exact fun s u => .of_eq rfl
  case S => exact fun w H a ns hl hO hS => ..
  case C => exact ..
(the tactic k_is has no namespace: write k_is) -/

/-! SHORT WORDS over the layer: a def of the text, its body, what a loop and a test want. -/
namespace L2
open PySem PySem.Spec PyProof.Rows

/-! ### the text by places -/
def defArgs (s : Stmt) : Arguments := match s with
  | .FunctionDef _ a _ _ _ _ _ _ _ _ => a
  | _ => { posonlyargs := [], args := [], vararg := none, kwonlyargs := [], kw_defaults := [], kwarg := none, defaults := [] }
def defBody (s : Stmt) : List Stmt := match s with
  | .FunctionDef _ _ b _ _ _ _ _ _ _ => b
  | _ => []
def defScope (s : Stmt) : Scope := match s with
  | .FunctionDef _ _ _ _ _ _ sc _ _ _ => sc
  | _ => { kind := .function, names := [], isGenerator := false, isCoroutine := false }

/-! ### no exception leaves a def -/
abbrev CX0 : CXT := fun _ _ _ _ _ _ => False
abbrev E0 : XK := fun _ _ _ => False
theorem pass0 {X : Cx} : Passes CX0 X E0 := fun _ _ _ _ _ _ _ h => h.elim

/-! ### a def (or method) of the text as it stands behind the top -/
structure Fun (K : PySem.W.Frag) (x qual : Str) (st : Stmt) (f : Addr) (fd : FuncData) : Prop where
  ex : ∃ (oc : Value) (od : Option Addr) (kV doc pm : Value) (an : Option Addr) (cdv ct : Value) (osl : Array (Option Value)),
    fd = PySem.W.fnOf x qual (defArgs st) (defBody st) (defScope st) .none kV doc pm an cdv ct ∧ K.lookup f = some ⟨oc, od, .func fd, osl⟩ ∧ PySem.W.codeIn K cdv qual = true
  kp : PySem.W.keepIn K (.ref f) = true
section
variable {P : Program} {w : World} {K : PySem.W.Frag} {mg : Str → Option Value} {base : Heap}
/-- THE RULE for a def: its body as a term of rules, and the reading of that term -/
theorem Fun.ok {x qual : Str} {st : Stmt} {f : Addr} {fd : FuncData} {N ps : List Str} {k : Nat} {sp : Sp} (F : Fun K x qual st f fd) (S : FnScope N ps (defScope st)) (len : ∀ vs H Q E, sp vs H Q E → vs.length = ps.length)
    (hbody : ∀ (cdv : Value) (A : Around) (outer : List Env) (s : Shared) (H : Hp) (vs : List V) (Q : VK) (E : XK), Room k (A.deeper (envOfC qual (defScope st) s.heap.objs.size f cdv)) → sp vs H Q E →
      ∃ t, PSs (cxOf CX0 P w K mg base N qual (defScope st) f cdv A outer s H E).nox (defBody st) t ∧ t { nx := fun _ H' => Q .non H', rt := Q } (start N vs) H) : FnOk P w K mg base CX0 (k + 1) f fd ps sp := by
  obtain ⟨oc, od, kV, doc, pm, an, cdv, ct, osl, rfl, lk, hcd⟩ := F.ex
  refine fn_of lk hcd S len fun A outer s H vs Q E hr hsp => ?_
  obtain ⟨t, h, q⟩ := hbody cdv A outer s H vs Q E hr hsp
  exact ⟨t, h.nox, q⟩
/-- how its arguments bind (no defaults): h is «fun _ _ _ _ _ _ us hl => match us, hl with | [_, _], _ => rfl», one _ a parameter -/
theorem Fun.binds {x qual : Str} {st : Stmt} {f : Addr} {fd : FuncData} {ps : List Str} (F : Fun K x qual st f fd)
    (h : ∀ (kV doc pm : Value) (an : Option Addr) (cdv ct : Value) (us : List Value), us.length = ps.length → bindArgs (PySem.W.fnOf x qual (defArgs st) (defBody st) (defScope st) .none kV doc pm an cdv ct) ⟨us, []⟩ = pure (ps.zip us)) : Binds K fd ps [] := by
  obtain ⟨oc, od, kV, doc, pm, an, cdv, ct, osl, rfl, lk, hcd⟩ := F.ex
  exact .all (h kV doc pm an cdv ct)
theorem fun_mk {x qual : Str} {st : Stmt} {f : Addr} {oc : Value} {od an : Option Addr} {osl : Array (Option Value)} {kV doc pm cdv ct : Value} (l : K.lookup f = some ⟨oc, od, .func (PySem.W.fnOf x qual (defArgs st) (defBody st) (defScope st) .none kV doc pm an cdv ct), osl⟩)
    (c : PySem.W.codeIn K cdv qual = true) (k : PySem.W.keepIn K (.ref f) = true) : Fun K x qual st f (PySem.W.fnOf x qual (defArgs st) (defBody st) (defScope st) .none kV doc pm an cdv ct) := ⟨⟨oc, od, kV, doc, pm, an, cdv, ct, osl, rfl, l, c⟩, k⟩
end
theorem hu_of {A : Around} {k : Nat} (hr : Room k A) : A.units + 1 < cLine := Nat.lt_of_le_of_lt (Nat.add_le_add_left (by decide : 1 ≤ 64) _) hr.units
/-! ### expressions in short: the name that stands in the i-th slot -/
section
variable {X : Cx}
theorem pv (i : Nat) {x : Str} {pos : Pos} (hN : X.N[i]? = some x := by rfl) (hv : Vis X.env.scope x := by first | exact Or.inl rfl | exact Or.inr (Or.inl rfl) | exact Or.inr (Or.inr rfl)) (hd : (x == ("__debug__" : Str)) = false := by decide)
    (hcd : (x == ("__classdict__" : Str)) = false := by decide) : PE X (.Name x pos) (tVar i) := pe_var hN hv hd hcd
end

/-! ### tests -/
/-! ### heaps -/
/-! ### a dict's pairs: keys that differ -/
section
variable {κ : Type} [DecidableEq κ]
end
end L2

end
section
set_option Elab.async false
set_option linter.all false
set_option maxRecDepth 100000
set_option maxHeartbeats 4000000
namespace L2
open PySem PySem.Spec PyProof.Rows

/-! ### comprehensions -/
def freeNames (sc : Scope) : List Str := (sc.names.filter fun x => x.2 == .free).map (·.1)
def closOf (sc : Scope) (env : Env) : List (Str × Addr) := ((freeNames sc).reverse).map fun n => (n, (env.cells.lookup n).getD 0)

theorem closureFor_of {sc : Scope} {env : Env} (h : ∀ n ∈ freeNames sc, ∃ c, env.cells.lookup n = some c) : closureFor sc env = pure (closOf sc env) := by
  have key : ∀ (l : List (Str × NameKind)) (cs : List (Str × Addr)), (∀ x ∈ l, x.2 = .free → ∃ c, env.cells.lookup x.1 = some c) →
      (forIn l cs fun (x : Str × NameKind) (r : List (Str × Addr)) => (if (x.2 == NameKind.free) = true then (do let a ← cellOf env x.1; pure (ForInStep.yield ((x.1, a) :: r))) else pure (ForInStep.yield r) : Sem (ForInStep (List (Str × Addr)))))
        = pure ((((l.filter fun x => x.2 == .free).map (·.1)).reverse).map (fun n => (n, (env.cells.lookup n).getD 0)) ++ cs) := by
    intro l
    induction l with
    | nil => intro cs _; rfl
    | cons x r ih =>
      intro cs hx
      rw [List.forIn_cons]
      by_cases hk : x.2 = .free
      · obtain ⟨c, hc⟩ := hx x List.mem_cons_self hk
        have e1 : (x.2 == NameKind.free) = true := by rw [hk]; rfl
        have e2 : cellOf env x.1 = pure c := by unfold cellOf; rw [hc]
        rw [if_pos e1, e2]
        show (forIn r ((x.1, c) :: cs) _ : Sem _) = _
        rw [ih _ fun y hy => hx y (List.mem_cons_of_mem _ hy)]
        rw [List.filter_cons, if_pos e1, List.map_cons, List.reverse_cons, List.map_append, List.append_assoc]
        simp [hc]
      · have e1 : (x.2 == NameKind.free) = false := by simpa using hk
        rw [if_neg (by rw [e1]; decide)]
        show (forIn r cs _ : Sem _) = _
        rw [ih _ fun y hy => hx y (List.mem_cons_of_mem _ hy)]
        rw [List.filter_cons, if_neg (by rw [e1]; decide)]
  unfold closureFor closOf freeNames
  have := key sc.names [] fun x hx hf => h x.1 (by
    unfold freeNames
    exact List.mem_map.mpr ⟨x, List.mem_filter.mpr ⟨hx, by rw [hf]; rfl⟩, rfl⟩)
  rw [List.append_nil] at this
  show (forIn sc.names [] _ >>= pure : Sem _) = _
  refine Eq.trans (congrArg (· >>= pure) (Eq.trans (congrArg (fun f => (forIn sc.names [] f : Sem (List (Str × Addr)))) (funext fun x => funext fun r => ?_)) this)) rfl
  obtain ⟨n, k⟩ := x
  rfl
theorem lookup_tab {f : Str → Addr} {x : Str} : ∀ {l : List Str} {c : Addr}, (l.map fun n => (n, f n)).lookup x = some c → x ∈ l ∧ c = f x
  | [], _, h => by simp at h
  | n :: r, c, h => by
    simp only [List.map_cons, List.lookup_cons] at h
    cases hx : x == n with
    | true =>
      rw [hx] at h
      have e : x = n := by simpa using hx
      subst e
      exact ⟨List.mem_cons_self, (Option.some.inj h).symm⟩
    | false =>
      rw [hx] at h
      obtain ⟨a, b⟩ := lookup_tab h
      exact ⟨List.mem_cons_of_mem _ a, b⟩
theorem tab_lookup {f : Str → Addr} {x : Str} : ∀ {l : List Str}, x ∈ l → (l.map fun n => (n, f n)).lookup x = some (f x)
  | n :: r, h => by
    simp only [List.map_cons, List.lookup_cons]
    cases hx : x == n with
    | true =>
      have e : x = n := by simpa using hx
      subst e
      rfl
    | false =>
      rcases List.mem_cons.mp h with e | e
      · subst e; simp at hx
      · exact tab_lookup e
theorem lookup_relabel_free {env : Env} : ∀ {names : List (Str × NameKind)} {x : Str}, names.lookup x = some .free →
    (names.map fun (n, k) => if (k == NameKind.free && env.scope.kind == .function && env.kindOf n == some .cell) then (n, NameKind.cell) else (n, k)).lookup x = some .cell ∨
    (names.map fun (n, k) => if (k == NameKind.free && env.scope.kind == .function && env.kindOf n == some .cell) then (n, NameKind.cell) else (n, k)).lookup x = some .free
  | [], _, h => by simp at h
  | (n, k) :: r, x, h => by
    have ih := @lookup_relabel_free env r x
    show List.lookup x ((if (k == NameKind.free && env.scope.kind == .function && env.kindOf n == some .cell) = true then (n, NameKind.cell) else (n, k)) :: _) = _ ∨
      List.lookup x ((if (k == NameKind.free && env.scope.kind == .function && env.kindOf n == some .cell) = true then (n, NameKind.cell) else (n, k)) :: _) = _
    cases hx : x == n with
    | true =>
      simp only [List.lookup_cons, hx] at h
      by_cases hc : (k == NameKind.free && env.scope.kind == .function && env.kindOf n == some .cell) = true
      · rw [if_pos hc]; simp only [List.lookup_cons, hx]; exact .inl trivial
      · rw [if_neg hc]; simp only [List.lookup_cons, hx]; exact .inr h
    | false =>
      simp only [List.lookup_cons, hx] at h
      by_cases hc : (k == NameKind.free && env.scope.kind == .function && env.kindOf n == some .cell) = true
      · rw [if_pos hc]; simp only [List.lookup_cons, hx]; exact ih h
      · rw [if_neg hc]; simp only [List.lookup_cons, hx]; exact ih h
/-- what the relabelled table says a cell or a free name is -/
theorem relabel_back {env : Env} : ∀ {names : List (Str × NameKind)} {x : Str}, (∀ y ∈ names, y.2 ≠ .cell) →
    ((names.map fun (n, k) => if (k == NameKind.free && env.scope.kind == .function && env.kindOf n == some .cell) then (n, NameKind.cell) else (n, k)).lookup x = some .cell ∨
    (names.map fun (n, k) => if (k == NameKind.free && env.scope.kind == .function && env.kindOf n == some .cell) then (n, NameKind.cell) else (n, k)).lookup x = some .free) → (x, NameKind.free) ∈ names
  | [], _, _, h => by simp at h
  | (n, k) :: r, x, nc, h => by
    have ih := @relabel_back env r x fun y hy => nc y (List.mem_cons_of_mem _ hy)
    change (List.lookup x ((if (k == NameKind.free && env.scope.kind == .function && env.kindOf n == some .cell) = true then (n, NameKind.cell) else (n, k)) :: _) = _ ∨
      List.lookup x ((if (k == NameKind.free && env.scope.kind == .function && env.kindOf n == some .cell) = true then (n, NameKind.cell) else (n, k)) :: _) = _) at h
    cases hx : x == n with
    | true =>
      have e : x = n := by simpa using hx
      subst e
      by_cases hc : (k == NameKind.free && env.scope.kind == .function && env.kindOf x == some .cell) = true
      · have : k = .free := by
          have := (Bool.and_eq_true_iff.mp (Bool.and_eq_true_iff.mp hc).1).1
          simpa using this
        rw [this]; exact List.mem_cons_self
      · rw [if_neg hc] at h
        simp only [List.lookup_cons, hx] at h
        rcases h with h | h
        · exact absurd (Option.some.inj h) (nc (x, k) List.mem_cons_self)
        · rw [Option.some.inj h]; exact List.mem_cons_self
    | false =>
      refine List.mem_cons_of_mem _ (ih ?_)
      by_cases hc : (k == NameKind.free && env.scope.kind == .function && env.kindOf n == some .cell) = true
      · rw [if_pos hc] at h; simpa only [List.lookup_cons, hx] using h
      · rw [if_neg hc] at h; simpa only [List.lookup_cons, hx] using h

/-- a comprehension's block: N its names (own first), fr the places of the outer names that it sees -/
def compN (X : Cx) (own : List Str) (fr : List Nat) : List Str := own ++ fr.map fun k => X.N.getD k Str.empty
def compSt (n : Nat) (fr : List Nat) (σ : St) : St := List.replicate n none ++ fr.map fun k => (σ[k]?).join
def compCx (X : Cx) (sc : Scope) (own : List Str) (fr : List Nat) (C : Addr) (s₀ : Shared) (H₀ : Hp) (ex : List Addr) : Cx where
  prog := X.prog
  w := X.w
  K := X.K
  mg := X.mg
  base := X.base
  A := X.A
  N := compN X own fr
  s₀ := s₀
  H₀ := H₀
  env := compEnvC sc (closOf sc X.env) C X.env
  outer := X.stack
  stack := X.stack
  ex := ex
  fn := fun _ => false
  calm := X.calm
  pn := []
  xe := fun _ _ => False

def FrOk (X : Cx) (sc : Scope) : List Nat → Prop
  | [] => True
  | k :: r => (sc.names.lookup (X.N.getD k Str.empty) = some .free ∧ (X.env.scope.names.lookup (X.N.getD k Str.empty) = some .cell ∨ X.env.scope.names.lookup (X.N.getD k Str.empty) = some .free)) ∧ FrOk X sc r
theorem FrOk.mem {X : Cx} {sc : Scope} : ∀ {fr : List Nat}, FrOk X sc fr → ∀ k ∈ fr, sc.names.lookup (X.N.getD k Str.empty) = some .free ∧ (X.env.scope.names.lookup (X.N.getD k Str.empty) = some .cell ∨ X.env.scope.names.lookup (X.N.getD k Str.empty) = some .free)
  | _ :: _, h, k, hk => by
    rcases List.mem_cons.mp hk with e | e
    · subst e; exact h.1
    · exact FrOk.mem h.2 k e

def FreesOk (X : Cx) : List Str → Prop
  | [] => True
  | n :: r => (X.env.scope.names.lookup n = some .cell ∨ X.env.scope.names.lookup n = some .free) ∧ FreesOk X r
theorem FreesOk.mem {X : Cx} : ∀ {l : List Str}, FreesOk X l → ∀ n ∈ l, X.env.scope.names.lookup n = some .cell ∨ X.env.scope.names.lookup n = some .free
  | _ :: _, h, n, hn => by
    rcases List.mem_cons.mp hn with e | e
    · subst e; exact h.1
    · exact FreesOk.mem h.2 n e
structure CompScope (X : Cx) (sc : Scope) (fr : List Nat) : Prop where
  kind : sc.kind = .function
  nocell : ∀ y ∈ sc.names, y.2 ≠ .cell
  names : ∀ y ∈ sc.names, y.2 = .local → sc.names.lookup y.1 = some .local
  frees : FreesOk X (freeNames sc)
  fr : FrOk X sc fr

section
variable {X : Cx} {sc : Scope} {own : List Str} {fr : List Nat} {pins : List (Addr × Obj)} {σ : St} {H : Hp} {s : Shared}
theorem CompScope.cells (S : CompScope X sc fr) (I : Inv X pins σ H s) : ∀ n ∈ freeNames sc, ∃ c, X.env.cells.lookup n = some c := fun n hn => I.ok.has n (S.frees.mem n hn)
theorem CompScope.look (S : CompScope X sc fr) (I : Inv X pins σ H s) {x : Str} {c : Addr} (h : (closOf sc X.env).lookup x = some c) : X.env.cells.lookup x = some c := by
  obtain ⟨a, b⟩ := lookup_tab h
  obtain ⟨d, e⟩ := S.cells I x (List.mem_reverse.mp a)
  rw [e] at b
  rw [e, b]
  rfl
theorem mem_freeNames {x : Str} (h : (x, NameKind.free) ∈ sc.names) : x ∈ freeNames sc := List.mem_map.mpr ⟨_, List.mem_filter.mpr ⟨h, rfl⟩, rfl⟩
theorem CompScope.back (S : CompScope X sc fr) (I : Inv X pins σ H s) {x : Str} (hx : x ∈ freeNames sc) : ∃ c, (closOf sc X.env).lookup x = some c ∧ X.env.cells.lookup x = some c := by
  obtain ⟨c, e⟩ := S.cells I x hx
  refine ⟨c, ?_, e⟩
  unfold closOf
  rw [tab_lookup (List.mem_reverse.mpr hx), e]
  rfl

/-- the block's first state -/
theorem inv_comp (S : CompScope X sc fr) {fp : List Addr} (I : Inv X pins σ H s) (hf : ∀ b ∈ fp, FpOk X pins H b) (ho : ∀ b ∈ fp, ∃ o, s.heap.get? b = some o) {h₁ : Heap} {t : Nat}
    (hns : h₁.Ns s.heap.objs.size (fun _ => none)) (hk : ∀ b o, s.heap.get? b = some o → h₁.get? b = some o) :
    Inv (compCx X sc own fr s.heap.objs.size s H fp) [] (compSt own.length fr σ) H { s with heap := h₁, toks := t } := by
  have ltC : ∀ b o, s.heap.get? b = some o → b ≠ s.heap.objs.size := fun b o e => Nat.ne_of_lt (Heap.lt_size e)
  have cellOld : ∀ x c, (closOf sc X.env).lookup x = some c → ∃ v, s.heap.IsCell c v := fun x c e => I.cell x c (S.look I e)
  refine ⟨⟨I.ok.mod, S.kind, I.ok.glob, I.ok.blt, Nat.le_refl _, fun x y c h1 h2 => I.ok.inj x y c (S.look I h1) (S.look I h2), fun x hx => ?_, fun x c z => absurd z (by simp [compCx]), I.ok.hd, I.ok.frames, .inl rfl, fun b hb => ?_, I.bs, Nat.le_trans I.ok.bsz I.sz, fun b o e hb => ?_, fun b hb => ?_, I.stack, I.stkFree⟩,
    rfl, I.bare, Un.kept hk, ⟨_, hns, fun i x v e1 e2 e3 => ?_⟩, fun x c e => ?_, I.hok.fresh (Nat.le_refl _), fun x c e => I.freeC x c (S.look I e), fun p hp => absurd (show p ∈ ([] : List (Addr × Obj)) from hp) (by simp), I.hok.kept hk, ?_⟩
  · have := relabel_back (env := X.env) S.nocell hx
    obtain ⟨c, e, _⟩ := S.back I (mem_freeNames this)
    exact ⟨c, e⟩
  · obtain ⟨o, e⟩ := ho b hb
    obtain ⟨_, _, _, _, f4, _⟩ := hf b hb
    exact ⟨ltC b o e, fun x c e' => f4 x c (S.look I e')⟩
  · obtain ⟨_, _, _, f3, _⟩ := hf b hb
    rcases f3 with z | z
    · exact I.ok.noex b o e z
    · exact absurd (Nat.lt_of_lt_of_le (Heap.lt_size e) (Nat.le_trans I.ok.bsz z)) (Nat.lt_irrefl _)
  · obtain ⟨_, f1, f2, _⟩ := hf b hb
    intro z
    rcases List.mem_cons.mp (I.stkSub b z) with q | q
    · exact f1 q
    · exact f2 q
  · -- a name that is bound
    have hi : own.length ≤ i := by
      rcases Nat.lt_or_ge i own.length with z | z
      · exfalso
        change (List.replicate own.length none ++ fr.map fun k => (σ[k]?).join)[i]? = some (some v) at e2
        rw [List.getElem?_append_left (by simpa using z), List.getElem?_replicate, if_pos z] at e2
        cases e2
      · exact z
    change (List.replicate own.length none ++ fr.map fun k => (σ[k]?).join)[i]? = some (some v) at e2
    rw [List.getElem?_append_right (by simpa using hi), List.length_replicate, List.getElem?_map] at e2
    change (own ++ fr.map fun k => X.N.getD k Str.empty)[i]? = some x at e1
    rw [List.getElem?_append_right hi, List.getElem?_map] at e1
    cases e : fr[i - own.length]? with
    | none => rw [e] at e1; cases e1
    | some k =>
      rw [e] at e1 e2
      have e1 : X.N.getD k Str.empty = x := Option.some.inj e1
      have e2 : (σ[k]?).join = some v := Option.some.inj e2
      have e2' : σ[k]? = some (some v) := by
        cases q : σ[k]? with
        | none => rw [q] at e2; cases e2
        | some z => rw [q] at e2; cases z with
          | none => cases e2
          | some z => rw [show z = v from Option.some.inj e2]
      have hkl : k < X.N.length := by
        have := (List.getElem?_eq_some_iff.mp e2').1
        rw [I.len] at this
        exact this
      have e1' : X.N[k]? = some x := by
        rw [List.getElem?_eq_getElem hkl, ← e1]
        simp [List.getD, hkl]
      obtain ⟨q1, q2⟩ := S.fr.mem k (List.mem_of_getElem? e)
      rw [e1] at q1 q2
      have hvis : Vis X.env.scope x := by
        rcases q2 with z | z
        · exact .inr (.inl z)
        · exact .inr (.inr z)
      obtain ⟨m, hn, hl⟩ := I.loc
      obtain ⟨u, r, l⟩ := hl k x v e1' e2' hvis
      refine ⟨u, r, .inr ⟨?_, ?_⟩⟩
      · exact lookup_relabel_free (env := X.env) q1
      · rcases l with ⟨z, _⟩ | ⟨_, c, hc, z⟩
        · exfalso
          have z : X.env.scope.names.lookup x = some .local := z
          rcases q2 with y | y
          · rw [z] at y; cases y
          · rw [z] at y; cases y
        · obtain ⟨c', h1, h2⟩ := S.back I (mem_freeNames (PySem.mem_of_lookup q1))
          rw [hc] at h2
          cases h2
          obtain ⟨o, ho', hd⟩ := z
          exact ⟨c, h1, o, hk c o ho', hd⟩
  · obtain ⟨v, o, ho', hd⟩ := cellOld x c e
    exact ⟨v, o, hk c o ho', hd⟩
  · show (List.replicate own.length none ++ fr.map fun k => (σ[k]?).join).length = (own ++ fr.map fun k => X.N.getD k Str.empty).length
    simp
end

/-- the tests of a clause -/
def PTs (X : Cx) (ifs : List Expr) (t : TT) : Prop :=
  ∀ (pins : List (Addr × Obj)) (s : Shared) (σ : St) (H : Hp) (Q : Bool → Hp → Prop), Inv X pins σ H s → t σ H Q →
    wpAny (model X.prog X.w) X.A (forIn ifs true fun c r => if r = true then do let ok ← isTrue c X.env (eval c X.env); pure (ForInStep.yield ok) else pure (ForInStep.yield r)) (TP X pins σ Q) X.xe s
def tYes : TT := fun _ H Q => Q true H
theorem pts_nil {X : Cx} : PTs X [] tYes := fun pins s σ H Q I h => wpAny_tests_nil ⟨H, I, h⟩
/-- what a turn does with the accumulator -/
abbrev TM := Addr → St → Hp → (Hp → Prop) → Prop
def PM (X : Cx) (emit : Env → Addr → Sem Unit) (t : TM) : Prop :=
  ∀ (pins : List (Addr × Obj)) (s : Shared) (σ : St) (H : Hp) (D : Addr) (Q : Hp → Prop), Inv X pins σ H s → t D σ H Q →
    wpAny (model X.prog X.w) X.A (emit X.env D) (fun _ s' => ∃ H', Inv X pins σ H' s' ∧ Q H') X.xe s
def tCompB (acc : HO) (wi : TI) (n : Nat) (fr : List Nat) (g : TG) (tc : TT) (tm : TM) : St → Hp → (Addr → Hp → Prop) → Prop := fun σ H Q =>
  wi σ H fun J H1 => ∀ p, H1 p = none → ∃ W : Nat → Nat → St → Hp → Prop, (∃ m, W 0 m (compSt n fr σ) (upd H1 p acc)) ∧
    ∀ i m σ' H', W i m σ' H' → (J.stop i H' ∧ Q p H') ∨ (J.go i H' ∧ ∃ N : St → Hp → Prop, (∀ σ2 H2, N σ2 H2 → ∃ m', m' < m ∧ W (i + 1) m' σ2 H2) ∧ ∀ x H2, J.yld i H' x H2 → g x σ' H2 fun σ3 H3 => tc σ3 H3 fun b H4 =>
      if b = true then tm p σ3 H4 (N σ3) else N σ3 H4)

structure CompForm (e : Expr) (tg iter : Expr) (ifs : List Expr) (emit : Env → Addr → Sem Unit) : Prop where
  cl : ∃ gs, clausesOf e = ⟨tg, iter, ifs, 0⟩ :: gs
  under : ∀ (A : Around) it acc env, A.under (.compLoop e 0 it acc env) = A
  den : ∀ (prog : Program) (w : World) it acc env, (model prog w).den (.compLoop e 0 it acc env) = ((compTurn e 0 it acc env).onRaise (fun x => do noteFrame x env; theTreesLotGoes x))
  turn : ∀ it D env, compTurn e 0 it (.ref D) env = (do
      standAt iter.pos
      match ← pyNext it with
      | none => pure (.done .next)
      | some v =>
        letOwnedTupleGo tg it v
        assign tg env v
        let mut ok := true
        for c in ifs do
          if ok then ok ← isTrue c env (eval c env)
        if ok then
          emit env D
        again (.compLoop e 0 it (.ref D) env))
  start : ∀ (prog : Program) (w : World) (A : Around) (R : Result → Shared → Prop) (s : Shared) it acc env, codeAny (model prog w) A (.compLoop e 0 it acc env) R s →
    wpAny (model prog w) A (pyIter it) (fun it' s' => codeAny (model prog w) A (.compLoop e 0 it' acc env) R s') (notedBy (model prog w) A env fun x s' => R (.error x) s') s →
    codeAny (model prog w) A (.compStart e 0 it acc env) R s

section
variable {X : Cx} {sc : Scope} {own : List Str} {fr : List Nat} {e tg iter : Expr} {ifs : List Expr} {emit : Env → Addr → Sem Unit} {wi : TI} {g : TG} {tc : TT} {tm : TM} {acc : HO}

/-- the loop -/
theorem comp_loop (F : CompForm e tg iter ifs emit) (hc : X.calm = true) {C : Addr} {s₀ : Shared} {H₀ : Hp} {fp : List Addr} {it D : Addr} {tn : Nat → Heap → Prop} {J : It} {R : Result → Shared → Prop} {s : Shared}
    (hg : PG (compCx X sc own fr C s₀ H₀ fp) tg g) (ht : PTs (compCx X sc own fr C s₀ H₀ fp) ifs tc) (hm : PM (compCx X sc own fr C s₀ H₀ fp) emit tm)
    (T : Turn X.prog X.w X.K tg J fp it tn) (hfp : ∀ b ∈ fp, b ≠ C ∧ b ∉ frs X.stack ∧ ∀ x c, (closOf sc X.env).lookup x = some c → c ≠ b)
    (W : Nat → Nat → St → Hp → Prop) {Q : Hp → Prop} (turn : ∀ i m σ' H', W i m σ' H' → (J.stop i H' ∧ Q H') ∨ (J.go i H' ∧ ∃ N : St → Hp → Prop, (∀ σ2 H2, N σ2 H2 → ∃ m', m' < m ∧ W (i + 1) m' σ2 H2) ∧ ∀ x H2, J.yld i H' x H2 → g x σ' H2 fun σ3 H3 => tc σ3 H3 fun b H4 =>
      if b = true then tm D σ3 H4 (N σ3) else N σ3 H4))
    (hR : ∀ σ' H' s', Inv (compCx X sc own fr C s₀ H₀ fp) [] σ' H' s' → Q H' → R (.ok .next) s')
    {m0 : Nat} {σ0 : St} {H0 : Hp} (I0 : Inv (compCx X sc own fr C s₀ H₀ fp) [] σ0 H0 s) (st0 : tn 0 s.heap) (fr0 : ∀ b ∈ fp, H0 b = none) (w0 : W 0 m0 σ0 H0) :
    codeAny (model X.prog X.w) X.A (.compLoop e 0 (.ref it) (.ref D) (compEnvC sc (closOf sc X.env) C X.env)) R s := by
  have stat : ∀ {H' : Hp}, (∀ b ∈ fp, H' b = none) → ∀ b ∈ fp, FpOk (compCx X sc own fr C s₀ H₀ fp) [] H' b := fun hn b hb =>
    ⟨hn b hb, (hfp b hb).1, (hfp b hb).2.1, .inl hb, (hfp b hb).2.2, fun p hp => absurd (show p ∈ ([] : List (Addr × Obj)) from hp) (by simp)⟩
  refine codeAny_loop rfl (fun n s' => ∃ i σ' H', Inv (compCx X sc own fr C s₀ H₀ fp) [] σ' H' s' ∧ tn i s'.heap ∧ (∀ b ∈ fp, H' b = none) ∧ W i n σ' H') (fun n s hI => ?_) m0 ⟨0, σ0, H0, I0, st0, fr0, w0⟩
  rw [F.under, F.den]
  refine wpAny_noted ?_
  rw [F.turn]
  obtain ⟨i, σ3, H3, I3, st3, fr3, w3⟩ := hI
  have lift : ∀ {α : Type} {t : Sem α} {Q' : α → Shared → Prop} {E : Value → Shared → Prop} {s : Shared}, wpAny (model X.prog X.w) X.A t Q' (fun _ _ => False) s → wpAny (model X.prog X.w) X.A t Q' E s := fun h => wpAny_mono h (fun _ _ q => q) fun _ _ z => z.elim
  refine wpAny_bind (wpAny_standAt (wpAny_bind ?_))
  rcases turn i n σ3 H3 w3 with ⟨stop, qn⟩ | ⟨go, N, hN, step⟩
  · refine lift (thn (T.done (compCx X sc own fr C s₀ H₀ fp) rfl rfl rfl hc i [] s σ3 H3 (fun _ _ => False) I3 (stat fr3) st3 stop) fun r s4 ⟨hr, I4⟩ => ?_)
    subst hr
    exact wpAny_pure (hR σ3 H3 s4 I4 qn)
  · refine lift (thn (T.item (compCx X sc own fr C s₀ H₀ fp) rfl rfl rfl hc i [] s σ3 H3 (fun _ _ => False) I3 (stat fr3) st3 go) fun r s4 ⟨u, hr, h4⟩ => ?_)
    subst hr
    refine wpAny_bind (lift (thn h4 fun _ s5 ⟨x, H5, I5, r5, y5, st5, fr5⟩ => ?_))
    have I5' := I5.pinned (stat fr5) (T.obj _ _ st5)
    refine wpAny_bind (lift (thn (hg _ s5 σ3 H5 x u _ I5' r5 (step x H5 y5)) fun _ s6 ⟨σ6, H6, I6, q6⟩ => ?_))
    refine wpAny_bind (lift (thn (ht _ s6 σ6 H6 _ I6 q6) fun ok s7 ⟨H7, I7, q7⟩ => ?_))
    have again : ∀ {σ8 : St} {H8 : Hp} {s8 : Shared}, Inv (compCx X sc own fr C s₀ H₀ fp) ([] ++ pinsAt fp s5.heap) σ8 H8 s8 → (∃ m', m' < n ∧ W (i + 1) m' σ8 H8) → ∃ m, m < n ∧ ∃ i σ' H', Inv (compCx X sc own fr C s₀ H₀ fp) [] σ' H' s8 ∧ tn i s8.heap ∧ (∀ b ∈ fp, H' b = none) ∧ W i m σ' H' := fun {σ8 H8 s8} I8 ⟨m', hm', w8⟩ => by
      refine ⟨m', hm', i + 1, σ8, H8, I8.unpinned, T.keep _ _ _ st5 fun b hb o e => (I8.pin (b, o) (List.mem_append_right _ (List.mem_append_right _ (mem_pinsAt hb e)))).1, fun b hb => ?_, w8⟩
      obtain ⟨o, e, d⟩ := T.obj _ _ st5 b hb
      exact (I8.pin (b, o) (List.mem_append_right _ (List.mem_append_right _ (mem_pinsAt hb e)))).2.1
    cases ok with
    | false => exact wpAny_pure ⟨rfl, again I7 (hN _ _ q7)⟩
    | true =>
      refine wpAny_bind (lift (thn (hm _ s7 σ6 H7 D _ I7 q7) fun _ s8 ⟨H8, I8, q8⟩ => ?_))
      exact wpAny_pure ⟨rfl, again I8 (hN _ _ q8)⟩
end

/-- the accumulator made -/
def PNew (X : Cx) (newAcc : Sem Value) (acc : HO) : Prop :=
  ∀ (pins : List (Addr × Obj)) (s : Shared) (σ : St) (H : Hp) (E : Value → Shared → Prop) (Q : Value → Shared → Prop), Inv X pins σ H s →
    (∀ p s', H p = none → p = s.heap.objs.size → (∀ b o, s.heap.get? b = some o → s'.heap.get? b = some o) → s'.os = s.os → Inv X pins σ (upd H p acc) s' → Q (.ref p) s') → wpAny (model X.prog X.w) X.A newAcc Q E s
theorem pnew_list {X : Cx} : PNew X (newList []) (.lst []) := by
  intro pins s σ H E Q I h
  refine wpAny_newObj_type ?_
  exact h _ _ (I.hok.fresh (Nat.le_refl _)) rfl (fun b o e => Heap.get?_push_of_some _ e) rfl (I.lnew (its := []) (t' := s.toks) .nil (Nat.zero_le _))
section
variable {X : Cx} {sc : Scope} {own : List Str} {fr : List Nat} {e tg iter : Expr} {ifs : List Expr} {emit : Env → Addr → Sem Unit} {wi : TI} {g : TG} {tc : TT} {tm : TM} {acc : HO} {newAcc : Sem Value} {pos : Pos}

/-- a comprehension, whatever is done with its value -/
theorem comp_any (F : CompForm e tg iter ifs emit) (hc : X.calm = true) (S : CompScope X sc fr) (hi : PI X tg iter wi) (hnew : PNew X newAcc acc)
    (hg : ∀ C s₀ H₀ fp, PG (compCx X sc own fr C s₀ H₀ fp) tg g) (ht : ∀ C s₀ H₀ fp, PTs (compCx X sc own fr C s₀ H₀ fp) ifs tc) (hm : ∀ C s₀ H₀ fp, PM (compCx X sc own fr C s₀ H₀ fp) emit tm)
    (hs : ∀ x, foldedSetIterable iter X.env x = pure x) {use : Option (Value → Sem Unit)} {pins : List (Addr × Obj)} {s : Shared} {σ : St} {H : Hp} {Q : Addr → Hp → Prop} {Q' : Value → Shared → Prop} (I : Inv X pins σ H s)
    (h : tCompB acc wi own.length fr g tc tm σ H Q)
    (hq : ∀ (p C : Addr) (H' : Hp) (s' : Shared) (m : Str → Option Value), Inv X pins σ H' s' → Q p H' → s'.heap.Ns C m → H' C = none → C ≠ X.env.locals → X.s₀.heap.objs.size ≤ C → (∀ x c, X.env.cells.lookup x = some c → c ≠ C) → (∀ q ∈ X.pn ++ pins, q.1 ≠ C) →
      compPost (model X.prog X.w) X.A X.xe use Q' (.ref p) C (.ok .next) s') :
    wpAny (model X.prog X.w) X.A (comprehension e sc X.env pos newAcc false (eval iter X.env) use) Q' X.xe s := by
  obtain ⟨gs, hcl⟩ := F.cl
  refine wpAny_comprehension_free hcl hs (closureFor_of (S.cells I)) S.kind S.names (thn (hi pins s σ H _ I h) fun v s1 h1 => thn h1 fun itv s2 h2 => ?_)
  obtain ⟨it, fp, tn, J, H2, e2, I2, T, st2, f2, q2⟩ := h2
  subst e2
  refine hnew pins s2 σ H2 _ _ I2 fun p s3 np hp k3 os3 I3 => ?_
  obtain ⟨W, ⟨m0, w0⟩, turn⟩ := q2 p np
  refine wpAny_newFunctionEnv S.nocell (by intro x hx; simp at hx) (fun h₁ hns hsb => ?_) S.kind
  have hk : ∀ b o, s3.heap.get? b = some o → h₁.get? b = some o := fun b o eb => hsb.extBut b o (Nat.ne_of_lt (Heap.lt_size eb)) (Heap.get?_push_of_some _ eb)
  have ob2 : ∀ b ∈ fp, ∃ o, s2.heap.get? b = some o := fun b hb => let ⟨o, eo, _⟩ := T.obj _ _ st2 b hb; ⟨o, eo⟩
  have fpn : ∀ b ∈ fp, b ≠ p := fun b hb z => by
    obtain ⟨o, eo⟩ := ob2 b hb
    rw [z, hp] at eo
    exact absurd (Heap.lt_size eo) (Nat.lt_irrefl _)
  have f3 : ∀ b ∈ fp, FpOk X pins (upd H2 p acc) b := fun b hb => by
    obtain ⟨a1, a2⟩ := f2 b hb
    exact ⟨by rw [upd_ne (fpn b hb)]; exact a1, a2⟩
  have ob3 : ∀ b ∈ fp, ∃ o, s3.heap.get? b = some o := fun b hb => let ⟨o, eo⟩ := ob2 b hb; ⟨o, k3 b o eo⟩
  have I4 := inv_comp (own := own) (t := s3.toks + ([] : List (Str × Value)).length) S I3 f3 ob3 (h₁ := h₁) hns hk
  have st4 : tn 0 h₁ := T.keep _ _ _ st2 fun b hb o eo => hk b o (k3 b o eo)
  have hfp : ∀ b ∈ fp, b ≠ s3.heap.objs.size ∧ b ∉ frs X.stack ∧ ∀ x c, (closOf sc X.env).lookup x = some c → c ≠ b := fun b hb => by
    obtain ⟨_, f1, f2', _, f4, _⟩ := f3 b hb
    obtain ⟨o, eo⟩ := ob3 b hb
    refine ⟨Nat.ne_of_lt (Heap.lt_size eo), fun z => ?_, fun x c ec => f4 x c (S.look I3 ec)⟩
    rcases List.mem_cons.mp (I3.stkSub b z) with q | q
    · exact f1 q
    · exact f2' q
  have loop : codeAny (model X.prog X.w) X.A (.compLoop e 0 (.ref it) (.ref p) (compEnvC sc (closOf sc X.env) s3.heap.objs.size X.env)) (compPost (model X.prog X.w) X.A X.xe use Q' (.ref p) s3.heap.objs.size) { s3 with heap := h₁, toks := s3.toks + ([] : List (Str × Value)).length } := by
    refine comp_loop (s₀ := s3) (H₀ := upd H2 p acc) (own := own) (fr := fr) (Q := fun H' => Q p H') F hc (hg _ _ _ _) (ht _ _ _ _) (hm _ _ _ _) T hfp W turn (fun σ' H' s' J' qq => ?_) I4 st4 (fun b hb => (f3 b hb).1) w0
    obtain ⟨m, hn, _⟩ := J'.loc
    have un : Un (frs X.stack) fp H2 H' s2.heap s'.heap := (Un.laid (o := acc) k3 (by rw [hp]; exact Nat.le_refl _) np).trans J'.base
    have IX : Inv X pins σ H' s' := I2.call' (ch := fp) (J'.os.trans os3) un J'.hok J'.bare fun b hb => by
      obtain ⟨_, f1, _, f3', f4, f5⟩ := f2 b hb
      exact ⟨f3', f1, f4, f5⟩
    refine hq p s3.heap.objs.size H' s' m IX qq hn J'.free (Ne.symm (Nat.ne_of_lt I3.lt)) I3.sz (fun x c ec => ?_) fun q hq' => ?_
    · obtain ⟨v, o, eo, _⟩ := I3.cell x c ec
      exact Nat.ne_of_lt (Heap.lt_size eo)
    · exact Nat.ne_of_lt (Heap.lt_size (I3.pin q hq').1)
  exact F.start _ _ _ _ _ _ _ _ loop (T.self _ _ _ _ _ st4 loop)

theorem comp_value (F : CompForm e tg iter ifs emit) (hc : X.calm = true) (S : CompScope X sc fr) (hi : PI X tg iter wi) (hnew : PNew X newAcc acc)
    (hg : ∀ C s₀ H₀ fp, PG (compCx X sc own fr C s₀ H₀ fp) tg g) (ht : ∀ C s₀ H₀ fp, PTs (compCx X sc own fr C s₀ H₀ fp) ifs tc) (hm : ∀ C s₀ H₀ fp, PM (compCx X sc own fr C s₀ H₀ fp) emit tm)
    (hs : ∀ x, foldedSetIterable iter X.env x = pure x) {pins : List (Addr × Obj)} {s : Shared} {σ : St} {H : Hp} {Q : VK} (I : Inv X pins σ H s)
    (h : tCompB acc wi own.length fr g tc tm σ H fun p H' => Q (.ref p) H') :
    wpAny (model X.prog X.w) X.A (comprehension e sc X.env pos newAcc false (eval iter X.env) none) (EP X pins σ Q) X.xe s := by
  refine comp_any F hc S hi hnew hg ht hm hs I h fun p C H' s' m I' q hn h1 h2 h3 h4 h5 => ⟨m, hn, fun h' hb => ?_⟩
  exact ⟨.ref p, H', I'.turned (t' := s'.toks) (fun b o hne eo => hb.extBut b o hne eo) h1 h2 (.inr h3) h4 h5, rfl, q⟩
/-- name = comprehension, where the stores are exchanged -/
theorem comp_store (F : CompForm e tg iter ifs emit) (hc : X.calm = true) (S : CompScope X sc fr) (hi : PI X tg iter wi) (hnew : PNew X newAcc acc)
    (hg : ∀ C s₀ H₀ fp, PG (compCx X sc own fr C s₀ H₀ fp) tg g) (ht : ∀ C s₀ H₀ fp, PTs (compCx X sc own fr C s₀ H₀ fp) ifs tc) (hm : ∀ C s₀ H₀ fp, PM (compCx X sc own fr C s₀ H₀ fp) emit tm)
    (hs : ∀ x, foldedSetIterable iter X.env x = pure x) {pins : List (Addr × Obj)} {s : Shared} {σ : St} {H : Hp} {D : Ends} {j : Nat} {y : Str} {py : Pos} (hN : X.N.Nodup) (hj : X.N[j]? = some y) (hy : Loc X.env.scope y)
    (hf : X.fn y = true ∨ X.env.scope.names.lookup y = some .local) (I : Inv X pins σ H s)
    (h : tCompB acc wi own.length fr g tc tm σ H fun p H' => D.nx (σ.set j (some (.ref p))) H') :
    wpAny (model X.prog X.w) X.A (comprehension e sc X.env pos newAcc false (eval iter X.env) (some (assign (.Name y py) X.env))) (fun _ s' => SP X pins D .next s') X.xe s := by
  refine comp_any F hc S hi hnew hg ht hm hs I h fun p C H' s' m I' q hn h1 h2 h3 h4 h5 => ?_
  show wpAny _ _ (assign (.Name y py) X.env (.ref p)) _ _ s'
  refine wpAny_assign_Name (store_ok2 I' hN hj hy (show RelV (V.ref p) (Value.ref p) from rfl) (fun s2 I2 ⟨a, sb, ha⟩ => ?_) hf)
  have hCa : C ≠ a := by
    rcases ha with z | z
    · rw [z]; exact h2
    · exact fun w => h4 y a z w.symm
  refine ⟨m, hn.sameBut sb hCa, fun h' hb => ?_⟩
  exact ⟨_, H', I2.turned (t' := s2.toks) (fun b o hne eo => hb.extBut b o hne eo) h1 h2 (.inr h3) h4 h5, q⟩
end
/-! ### list comprehensions -/
def emitL (elt : Expr) : Env → Addr → Sem Unit := fun env D => do let _ ← call (.builtin "list.append") [.ref D, ← eval elt env]
theorem form_list {elt tg iter : Expr} {ifs : List Expr} {sc : Scope} {pos : Pos} : CompForm (.ListComp elt [⟨tg, iter, ifs, 0⟩] sc pos) tg iter ifs (emitL elt) :=
  ⟨⟨_, rfl⟩, fun _ _ _ _ => rfl, fun _ _ _ _ _ => rfl, fun _ _ _ => rfl, fun _ _ _ _ _ _ _ _ h0 h => codeAny_compStart_list h0 h⟩
def mApp (te : TE) : TM := fun p σ H Q => te σ H fun y H1 => ∃ ys, H1 p = some (.lst ys) ∧ ys.length < sizeLine ∧ Q (upd H1 p (.lst (ys ++ [y])))
theorem pm_list {X : Cx} {elt : Expr} {te : TE} (h : PE X elt te) : PM X (emitL elt) (mApp te) := by
  intro pins s σ H D Q I hw
  unfold emitL
  refine wpAny_bind (thn (h pins s σ H _ I hw) fun u s1 ⟨y, H1, I1, r1, ys, e1, l1, q1⟩ => wpAny_bind ?_)
  obtain ⟨z, its, n, r, hl, e⟩ := I1.lstM e1
  refine call_meets F.slot_list_append ⟨_, e, rfl⟩ F.entry_list_append (F.args_list_append_2 _ _) (PySem.list_append D its.toArray n u (by rw [List.size_toArray]; omega)) ⟨e, ?_⟩
  refine wpAny_pure ⟨_, I1.lset (its' := its ++ [u]) e1 e (by simp) (r.append (.cons r1 .nil)) ?_, q1⟩
  rw [List.length_append, List.length_singleton]
  omega
/-- [elt for tg in iter if ..] -/
def tLC (wi : TI) (n : Nat) (fr : List Nat) (g : TG) (tc : TT) (te : TE) : TE := fun σ H Q => tCompB (.lst []) wi n fr g tc (mApp te) σ H fun p H' => Q (.ref p) H'
section
variable {X : Cx} {sc : Scope} {own : List Str} {fr : List Nat} {elt tg iter : Expr} {ifs : List Expr} {wi : TI} {g : TG} {tc : TT} {te : TE} {pos : Pos}
theorem pe_lc (hc : X.calm = true) (S : CompScope X sc fr) (hi : PI X tg iter wi)
    (hg : ∀ C s₀ H₀ fp, PG (compCx X sc own fr C s₀ H₀ fp) tg g) (ht : ∀ C s₀ H₀ fp, PTs (compCx X sc own fr C s₀ H₀ fp) ifs tc) (he : ∀ C s₀ H₀ fp, PE (compCx X sc own fr C s₀ H₀ fp) elt te)
    (hs : ∀ x, foldedSetIterable iter X.env x = pure x := by intro _; rfl) : PE X (.ListComp elt [⟨tg, iter, ifs, 0⟩] sc pos) (tLC wi own.length fr g tc te) := by
  intro pins s σ H Q I h
  rw [eval_ListComp]
  exact comp_value form_list hc S hi pnew_list hg ht (fun _ _ _ _ => pm_list (he _ _ _ _)) hs I h
/-- name = [elt for tg in iter if ..] on one line -/
theorem ps_lc {j : Nat} {y : Str} {py spos : Pos} (hc : X.calm = true) (hN : X.N.Nodup) (hj : X.N[j]? = some y) (hy : Loc X.env.scope y) (S : CompScope X sc fr) (hi : PI X tg iter wi)
    (hg : ∀ C s₀ H₀ fp, PG (compCx X sc own fr C s₀ H₀ fp) tg g) (ht : ∀ C s₀ H₀ fp, PTs (compCx X sc own fr C s₀ H₀ fp) ifs tc) (he : ∀ C s₀ H₀ fp, PE (compCx X sc own fr C s₀ H₀ fp) elt te)
    (hsw : swapsWith (.ListComp elt [⟨tg, iter, ifs, 0⟩] sc pos) (some (.Name y py)) spos.line X.env = pure true := by rfl)
    (hf : X.fn y = true ∨ X.env.scope.names.lookup y = some .local := by first | exact .inl rfl | exact .inr rfl | assumption)
    (hs : ∀ x, foldedSetIterable iter X.env x = pure x := by intro _; rfl) : PS X (.Assign [.Name y py] (.ListComp elt [⟨tg, iter, ifs, 0⟩] sc pos) spos) (tAsg (tLC wi own.length fr g tc te) (gName j)) := by
  intro pins s σ H D I h
  rw [exec_Assign_Name_used _ _ _ _ hsw]
  refine wpAny_bind (wpAny_standAt (wpAny_bind ?_))
  show wpAny _ _ (do let _ ← comprehension (.ListComp elt [⟨tg, iter, ifs, 0⟩] sc pos) sc X.env _ (newList []) false (eval iter X.env) (some (assign (.Name y py) X.env))) _ _ s
  refine wpAny_bind (thn (comp_store form_list hc S hi pnew_list hg ht (fun _ _ _ _ => pm_list (he _ _ _ _)) hs hN hj hy hf I h) fun _ s' q => wpAny_pure (wpAny_pure q))
end

/-! ### dict comprehensions -/
section
variable {X : Cx} {sc : Scope} {own : List Str} {fr : List Nat} {kx vx tg iter : Expr} {ifs : List Expr} {wi : TI} {g : TG} {tc : TT} {tk tv : TE} {pos : Pos}
end

/-! ### forms one uses: by an invariant over the turns -/
theorem comp_range {lo : Int} {n : Nat} {g : TG} {tc : TT} {tm : TM} {σ : St} {H : Hp} {p : Addr} {Q : Hp → Prop} (Pv : Nat → St → Hp → Prop) (h0 : Pv 0 σ H)
    (hs : ∀ i σ H, i < n → Pv i σ H → g (.int (lo + i)) σ H fun σ3 H3 => tc σ3 H3 fun b H4 => if b = true then tm p σ3 H4 (Pv (i + 1) σ3) else Pv (i + 1) σ3 H4) (hd : ∀ σ H, Pv n σ H → Q H) :
    ∃ W : Nat → Nat → St → Hp → Prop, (∃ m, W 0 m σ H) ∧
    ∀ i m σ' H', W i m σ' H' → ((Itr lo n).stop i H' ∧ Q H') ∨ ((Itr lo n).go i H' ∧ ∃ N : St → Hp → Prop, (∀ σ2 H2, N σ2 H2 → ∃ m', m' < m ∧ W (i + 1) m' σ2 H2) ∧ ∀ x H2, (Itr lo n).yld i H' x H2 → g x σ' H2 fun σ3 H3 => tc σ3 H3 fun b H4 =>
      if b = true then tm p σ3 H4 (N σ3) else N σ3 H4) := by
  refine ⟨fun i m σ H => m = n - i ∧ i ≤ n ∧ Pv i σ H, ⟨n, by simp, Nat.zero_le _, h0⟩, ?_⟩
  rintro i m σ H ⟨rfl, hi, pv⟩
  by_cases hlt : i < n
  · refine .inr ⟨hlt, Pv (i + 1), fun σ' H' p' => ⟨n - (i + 1), by omega, rfl, hlt, p'⟩, fun x H' y => ?_⟩
    obtain ⟨e, y⟩ := y
    subst e y
    exact hs i σ _ hlt pv
  · have e : i = n := by omega
    subst e
    exact .inl ⟨Nat.le_refl _, hd σ H pv⟩
end L2

end
section
set_option Elab.async false
set_option linter.all false
set_option maxRecDepth 100000
set_option maxHeartbeats 4000000
namespace L2
open PySem PySem.Spec PyProof.Rows

/-! ### data, without addresses -/
inductive DD where
  | non | bl (b : Bool) | int (i : Int) | str (x : Str) | lst (ds : List DD) | tup (ds : List DD)
mutual
def dep : DD → Nat
  | .lst ds => depL ds + 1
  | .tup ds => depL ds + 1
  | _ => 0
def depL : List DD → Nat
  | [] => 0
  | d :: ds => max (dep d) (depL ds)
end
mutual
def eqD : DD → DD → Bool
  | .non, .non => true
  | .bl a, .bl b => a == b
  | .bl a, .int b => (if a then 1 else 0) == b
  | .int a, .bl b => a == (if b then 1 else 0)
  | .int a, .int b => a == b
  | .str a, .str b => a == b
  | .lst as, .lst bs => eqDs as bs
  | .tup as, .tup bs => eqDs as bs
  | _, _ => false
def eqDs : List DD → List DD → Bool
  | [], [] => true
  | a :: as, b :: bs => eqD a b && eqDs as bs
  | _, _ => false
end
mutual
def Den (H : Hp) (v : V) : DD → Prop
  | .non => v = .non
  | .bl b => v = .bl b
  | .int i => v = .int i
  | .str x => v = .str x
  | .lst ds => ∃ a xs, v = .ref a ∧ H a = some (.lst xs) ∧ Dens H xs ds
  | .tup ds => ∃ a xs, v = .ref a ∧ H a = some (.tup xs) ∧ Dens H xs ds
def Dens (H : Hp) (xs : List V) : List DD → Prop
  | [] => xs = []
  | d :: ds => ∃ x r, xs = x :: r ∧ Den H x d ∧ Dens H r ds
end
theorem depL_mem : ∀ {ds : List DD} {d : DD}, d ∈ ds → dep d ≤ depL ds
  | d :: ds, e, h => by
    rw [depL]
    rcases List.mem_cons.mp h with rfl | h
    · omega
    · have := depL_mem h
      omega
theorem Dens.length : ∀ {H : Hp} {xs : List V} {ds : List DD}, Dens H xs ds → xs.length = ds.length
  | _, _, [], h => by rw [Dens] at h; subst h; rfl
  | _, _, d :: ds, h => by
    rw [Dens] at h
    obtain ⟨x, r, rfl, _, h⟩ := h
    simp [Dens.length h]
theorem Dens.get {H : Hp} : ∀ {xs : List V} {ds : List DD} {i : Nat} {d : DD}, Dens H xs ds → ds[i]? = some d → ∃ x, xs[i]? = some x ∧ Den H x d
  | _, [], _, _, _, e => by simp at e
  | _, d :: ds, i, c, h, e => by
    rw [Dens] at h
    obtain ⟨x, r, rfl, h1, h⟩ := h
    cases i with
    | zero => simp at e; subst e; exact ⟨x, rfl, h1⟩
    | succ i =>
      obtain ⟨y, e1, e2⟩ := Dens.get (i := i) h (by simpa using e)
      exact ⟨y, by simpa using e1, e2⟩
theorem Dens.get' {H : Hp} {xs : List V} {ds : List DD} {i : Nat} {x : V} (h : Dens H xs ds) (e : xs[i]? = some x) : ∃ d, ds[i]? = some d ∧ Den H x d := by
  have hi : i < ds.length := by rw [← h.length]; exact (List.getElem?_eq_some_iff.mp e).1
  obtain ⟨y, e1, e2⟩ := h.get (List.getElem?_eq_getElem hi)
  rw [e] at e1
  cases e1
  exact ⟨_, List.getElem?_eq_getElem hi, e2⟩
theorem Dens.append {H : Hp} : ∀ {xs ys : List V} {ds es : List DD}, Dens H xs ds → Dens H ys es → Dens H (xs ++ ys) (ds ++ es)
  | _, _, [], _, h, h' => by
    rw [Dens] at h
    subst h
    exact h'
  | _, _, c :: ds, _, h, h' => by
    rw [Dens] at h
    obtain ⟨y, r, rfl, h1, h⟩ := h
    exact ⟨y, r ++ _, rfl, h1, Dens.append h h'⟩
theorem Dens.take {H : Hp} : ∀ (n : Nat) {xs : List V} {ds : List DD}, Dens H xs ds → Dens H (xs.take n) (ds.take n)
  | 0, _, _, _ => by simp only [List.take_zero]; rfl
  | n + 1, _, [], h => by rw [Dens] at h; subst h; rfl
  | n + 1, _, c :: ds, h => by
    rw [Dens] at h
    obtain ⟨y, r, rfl, h1, h⟩ := h
    exact ⟨y, r.take n, rfl, h1, Dens.take n h⟩
theorem Dens.drop {H : Hp} : ∀ (n : Nat) {xs : List V} {ds : List DD}, Dens H xs ds → Dens H (xs.drop n) (ds.drop n)
  | 0, _, _, h => h
  | n + 1, _, [], h => by rw [Dens] at h; subst h; rfl
  | n + 1, _, c :: ds, h => by
    rw [Dens] at h
    obtain ⟨y, r, rfl, h1, h⟩ := h
    exact Dens.drop n h
theorem Dens.set {H : Hp} {x : V} {d : DD} (hx : Den H x d) : ∀ (n : Nat) {xs : List V} {ds : List DD}, Dens H xs ds → Dens H (xs.set n x) (ds.set n d)
  | _, _, [], h => by rw [Dens] at h; subst h; rfl
  | 0, _, c :: ds, h => by
    rw [Dens] at h
    obtain ⟨y, r, rfl, h1, h⟩ := h
    exact ⟨x, r, rfl, hx, h⟩
  | n + 1, _, c :: ds, h => by
    rw [Dens] at h
    obtain ⟨y, r, rfl, h1, h⟩ := h
    exact ⟨y, r.set n x, rfl, h1, Dens.set hx n h⟩
theorem Dens.nil {H : Hp} : Dens H [] [] := rfl
theorem Dens.cons {H : Hp} {x : V} {xs : List V} {d : DD} {ds : List DD} (h : Den H x d) (t : Dens H xs ds) : Dens H (x :: xs) (d :: ds) := ⟨x, xs, rfl, h, t⟩
theorem Dens.ints {H : Hp} : ∀ {ns : List Int}, Dens H (ns.map V.int) (ns.map DD.int)
  | [] => rfl
  | n :: ns => ⟨_, _, rfl, rfl, Dens.ints⟩
/-- a heap that has at least these things -/
def Sub (G H : Hp) : Prop := ∀ a o, G a = some o → H a = some o
theorem Sub.refl {H : Hp} : Sub H H := fun _ _ h => h
theorem Sub.trans {A B C : Hp} (h : Sub A B) (h' : Sub B C) : Sub A C := fun a o e => h' a o (h a o e)
theorem Sub.upd {G H : Hp} {p : Addr} {o : HO} (h : Sub G H) (n : G p = none) : Sub G (upd H p o) := fun a u e => by
  rw [upd_ne (ne_of_none e n)]
  exact h a u e
theorem Sub.new {H : Hp} {p : Addr} {o : HO} (n : H p = none) : Sub H (L2.upd H p o) := Sub.upd Sub.refl n
theorem Sub.free {G H : Hp} {p : Addr} (h : Sub G H) (n : H p = none) : G p = none := by
  cases e : G p with
  | none => rfl
  | some o => rw [h p o e] at n; cases n
theorem Sub.both {G H : Hp} {p : Addr} {o : HO} (h : Sub G H) (e : H p = some o) : Sub (L2.upd G p o) H := fun a u q => by
  by_cases ha : a = p
  · subst ha; rw [upd_same] at q; cases q; exact e
  · rw [upd_ne ha] at q; exact h a u q
mutual
theorem Den.mono {G H : Hp} (h : Sub G H) : ∀ {v : V} (d : DD), Den G v d → Den H v d
  | _, .non, e => e
  | _, .bl _, e => e
  | _, .int _, e => e
  | _, .str _, e => e
  | _, .lst ds, e => by
    rw [Den] at e ⊢
    obtain ⟨a, xs, e1, e2, e3⟩ := e
    exact ⟨a, xs, e1, h _ _ e2, Dens.mono h ds e3⟩
  | _, .tup ds, e => by
    rw [Den] at e ⊢
    obtain ⟨a, xs, e1, e2, e3⟩ := e
    exact ⟨a, xs, e1, h _ _ e2, Dens.mono h ds e3⟩
theorem Dens.mono {G H : Hp} (h : Sub G H) : ∀ {xs : List V} (ds : List DD), Dens G xs ds → Dens H xs ds
  | _, [], e => e
  | _, d :: ds, e => by
    rw [Dens] at e ⊢
    obtain ⟨x, r, e1, e2, e3⟩ := e
    exact ⟨x, r, e1, Den.mono h d e2, Dens.mono h ds e3⟩
end
mutual
theorem Den.inj {H : Hp} : ∀ {v : V} (d e : DD), Den H v d → Den H v e → d = e
  | v, .non, e, h, h' => by
    rw [Den] at h
    subst h
    cases e <;> rw [Den] at h' <;> first | rfl | (cases h'; done) | (obtain ⟨_, _, z, _⟩ := h'; cases z)
  | v, .bl b, e, h, h' => by
    rw [Den] at h
    subst h
    cases e <;> rw [Den] at h' <;> first | (cases h'; rfl) | (cases h'; done) | (obtain ⟨_, _, z, _⟩ := h'; cases z)
  | v, .int b, e, h, h' => by
    rw [Den] at h
    subst h
    cases e <;> rw [Den] at h' <;> first | (cases h'; rfl) | (cases h'; done) | (obtain ⟨_, _, z, _⟩ := h'; cases z)
  | v, .str b, e, h, h' => by
    rw [Den] at h
    subst h
    cases e <;> rw [Den] at h' <;> first | (cases h'; rfl) | (cases h'; done) | (obtain ⟨_, _, z, _⟩ := h'; cases z)
  | v, .lst ds, e, h, h' => by
    rw [Den] at h
    obtain ⟨a, xs, rfl, h1, h2⟩ := h
    cases e <;> rw [Den] at h' <;> first | (cases h'; done) | (obtain ⟨b, ys, z, h3, h4⟩ := h'; cases z; rw [h1] at h3; cases h3; done) | (obtain ⟨b, ys, z, h3, h4⟩ := h'; cases z; rw [h1] at h3; cases h3; rw [Dens.inj ds _ h2 h4])
  | v, .tup ds, e, h, h' => by
    rw [Den] at h
    obtain ⟨a, xs, rfl, h1, h2⟩ := h
    cases e <;> rw [Den] at h' <;> first | (cases h'; done) | (obtain ⟨b, ys, z, h3, h4⟩ := h'; cases z; rw [h1] at h3; cases h3; done) | (obtain ⟨b, ys, z, h3, h4⟩ := h'; cases z; rw [h1] at h3; cases h3; rw [Dens.inj ds _ h2 h4])
theorem Dens.inj {H : Hp} : ∀ {xs : List V} (ds es : List DD), Dens H xs ds → Dens H xs es → ds = es
  | _, [], es, h, h' => by
    rw [Dens] at h
    subst h
    cases es with
    | nil => rfl
    | cons e es => obtain ⟨_, _, z, _⟩ := h'; cases z
  | _, d :: ds, es, h, h' => by
    rw [Dens] at h
    obtain ⟨x, r, rfl, h1, h2⟩ := h
    cases es with
    | nil => cases h'
    | cons e es =>
      obtain ⟨y, q, z, h3, h4⟩ := h'
      cases z
      rw [Den.inj d e h1 h3, Dens.inj ds es h2 h4]
end
mutual
theorem eqD_refl : ∀ d : DD, eqD d d = true
  | .non => by simp [eqD]
  | .bl b => by simp [eqD]
  | .int b => by simp [eqD]
  | .str b => by simp [eqD]
  | .lst ds => by rw [eqD]; exact eqDs_refl ds
  | .tup ds => by rw [eqD]; exact eqDs_refl ds
theorem eqDs_refl : ∀ ds : List DD, eqDs ds ds = true
  | [] => by simp [eqDs]
  | d :: ds => by rw [eqDs, eqD_refl d, eqDs_refl ds]; rfl
end
theorem eqDs_all : ∀ as bs : List DD, eqDs as bs = ((List.range (min as.length bs.length)).all (fun j => eqD (as.getD j .non) (bs.getD j .non)) && as.length == bs.length)
  | [], [] => by simp [eqDs]
  | [], b :: bs => by simp [eqDs]
  | a :: as, [] => by simp [eqDs]
  | a :: as, b :: bs => by
    rw [eqDs, eqDs_all as bs]
    rw [show min (a :: as).length (b :: bs).length = min as.length bs.length + 1 by simp only [List.length_cons]; omega]
    rw [List.range_succ_eq_map, List.all_cons, List.all_map]
    simp only [List.getD_cons_zero, List.length_cons, Bool.and_assoc]
    congr 1
    congr 1
    have : ∀ (m n : Nat), (m + 1 == n + 1) = (m == n) := fun m n => by
      by_cases h : m = n
      · subst h; simp
      · rw [beq_eq_false_iff_ne.mpr h, beq_eq_false_iff_ne.mpr (by omega)]
    rw [this]

section
variable {X : Cx} {pins : List (Addr × Obj)} {σ : St} {H : Hp} {s : Shared}
open PySem.SeqAt
def EqAll (A : Around) (s : Shared) (u v : Value) (b : Bool) : Prop := EqAt A s u v b ∧ RcAt A s u v b ∧ RcNeAt A s u v (!b)
theorem vals_getD {H : Hp} {xs : List V} {ds : List DD} {us : List Value} (h : Dens H xs ds) (r : Vals xs us) {j : Nat} (hj : j < us.toArray.size) : ∃ x d, Den H x d ∧ RelV x (us.toArray[j]) ∧ ds.getD j .non = d ∧ d ∈ ds := by
  rw [List.size_toArray] at hj
  have hj' : j < xs.length := by rw [r.length]; exact hj
  obtain ⟨u, e1, e2⟩ := r.get (List.getElem?_eq_getElem hj')
  obtain ⟨d, e3, e4⟩ := h.get' (List.getElem?_eq_getElem hj')
  refine ⟨_, d, e4, ?_, ?_, List.mem_of_getElem? e3⟩
  · rw [List.getElem?_eq_getElem hj] at e1
    cases e1
    simpa using e2
  · rw [List.getD_eq_getElem?_getD, e3]; rfl
theorem eq_all (I : Inv X pins σ H s) : ∀ (n : Nat) (d e : DD) (A : Around) (x y : V) (u v : Value), dep d ≤ n → Den H x d → Den H y e → RelV x u → RelV y v → A.units + n < cLine → EqAll A s u v (eqD d e) := by
  intro n
  induction n with
  | zero =>
    intro d e A x y u v hd hx hy rx ry hu
    cases d with
    | lst ds => simp [dep] at hd
    | tup ds => simp [dep] at hd
    | non =>
      rw [Den] at hx; subst hx; cases rx
      cases e with
      | non => rw [Den] at hy; subst hy; cases ry; exact ⟨EqAt.same _, RcAt.none_none, RcNeAt.none_none⟩
      | bl b => rw [Den] at hy; subst hy; cases ry; exact ⟨EqAt.none_bool b, RcAt.none_bool b, RcNeAt.none_bool b⟩
      | int b => rw [Den] at hy; subst hy; obtain ⟨t, rfl⟩ := ry; exact ⟨EqAt.none_int b t, RcAt.none_int b t, RcNeAt.none_int b t⟩
      | str b => rw [Den] at hy; subst hy; obtain ⟨t, rfl⟩ := ry; exact ⟨EqAt.none_str b t, RcAt.none_str b t, RcNeAt.none_str b t⟩
      | lst es => rw [Den] at hy; obtain ⟨a, xs, rfl, h1, h2⟩ := hy; cases ry; obtain ⟨its, _, p, _⟩ := I.list (SqL.of h1); exact ⟨EqAt.none_list p.isList hu, RcAt.none_list p.isList hu, RcNeAt.none_list p.isList hu⟩
      | tup es => rw [Den] at hy; obtain ⟨a, xs, rfl, h1, h2⟩ := hy; cases ry; obtain ⟨its, _, p, _⟩ := I.tuple (SqT.of h1); exact ⟨EqAt.none_tuple p hu, RcAt.none_tuple p hu, RcNeAt.none_tuple p hu⟩
    | bl a =>
      rw [Den] at hx; subst hx; cases rx
      cases e with
      | non => rw [Den] at hy; subst hy; cases ry; exact ⟨EqAt.bool_none a, RcAt.bool_none a, RcNeAt.bool_none a⟩
      | bl b => rw [Den] at hy; subst hy; cases ry; exact ⟨EqAt.bool_bool a b, RcAt.bool_bool a b, RcNeAt.bool_bool a b⟩
      | int b => rw [Den] at hy; subst hy; obtain ⟨t, rfl⟩ := ry; exact ⟨EqAt.bool_int a b t, RcAt.bool_int a b t, RcNeAt.bool_int a b t⟩
      | str b => rw [Den] at hy; subst hy; obtain ⟨t, rfl⟩ := ry; exact ⟨EqAt.bool_str a b t, RcAt.bool_str a b t, RcNeAt.bool_str a b t⟩
      | lst es => rw [Den] at hy; obtain ⟨b, xs, rfl, h1, h2⟩ := hy; cases ry; obtain ⟨its, _, p, _⟩ := I.list (SqL.of h1); exact ⟨EqAt.bool_list a p.isList hu, RcAt.bool_list a p.isList hu, RcNeAt.bool_list a p.isList hu⟩
      | tup es => rw [Den] at hy; obtain ⟨b, xs, rfl, h1, h2⟩ := hy; cases ry; obtain ⟨its, _, p, _⟩ := I.tuple (SqT.of h1); exact ⟨EqAt.bool_tuple a p hu, RcAt.bool_tuple a p hu, RcNeAt.bool_tuple a p hu⟩
    | int a =>
      rw [Den] at hx; subst hx; obtain ⟨t', rfl⟩ := rx
      cases e with
      | non => rw [Den] at hy; subst hy; cases ry; exact ⟨EqAt.int_none a t', RcAt.int_none a t', RcNeAt.int_none a t'⟩
      | bl b => rw [Den] at hy; subst hy; cases ry; exact ⟨EqAt.int_bool a t' b, RcAt.int_bool a t' b, RcNeAt.int_bool a t' b⟩
      | int b => rw [Den] at hy; subst hy; obtain ⟨t, rfl⟩ := ry; exact ⟨EqAt.int_int a t' b t, RcAt.int_int a t' b t, RcNeAt.int_int a t' b t⟩
      | str b => rw [Den] at hy; subst hy; obtain ⟨t, rfl⟩ := ry; exact ⟨EqAt.int_str a t' b t, RcAt.int_str a t' b t, RcNeAt.int_str a t' b t⟩
      | lst es => rw [Den] at hy; obtain ⟨b, xs, rfl, h1, h2⟩ := hy; cases ry; obtain ⟨its, _, p, _⟩ := I.list (SqL.of h1); exact ⟨EqAt.int_list a t' p.isList hu, RcAt.int_list a t' p.isList hu, RcNeAt.int_list a t' p.isList hu⟩
      | tup es => rw [Den] at hy; obtain ⟨b, xs, rfl, h1, h2⟩ := hy; cases ry; obtain ⟨its, _, p, _⟩ := I.tuple (SqT.of h1); exact ⟨EqAt.int_tuple a t' p hu, RcAt.int_tuple a t' p hu, RcNeAt.int_tuple a t' p hu⟩
    | str a =>
      rw [Den] at hx; subst hx; obtain ⟨t', rfl⟩ := rx
      cases e with
      | non => rw [Den] at hy; subst hy; cases ry; exact ⟨EqAt.str_none a t', RcAt.str_none a t', RcNeAt.str_none a t'⟩
      | bl b => rw [Den] at hy; subst hy; cases ry; exact ⟨EqAt.str_bool a t' b, RcAt.str_bool a t' b, RcNeAt.str_bool a t' b⟩
      | int b => rw [Den] at hy; subst hy; obtain ⟨t, rfl⟩ := ry; exact ⟨EqAt.str_int a t' b t, RcAt.str_int a t' b t, RcNeAt.str_int a t' b t⟩
      | str b => rw [Den] at hy; subst hy; obtain ⟨t, rfl⟩ := ry; exact ⟨EqAt.str_str a t' b t, RcAt.str_str a t' b t, RcNeAt.str_str a t' b t⟩
      | lst es => rw [Den] at hy; obtain ⟨b, xs, rfl, h1, h2⟩ := hy; cases ry; obtain ⟨its, _, p, _⟩ := I.list (SqL.of h1); exact ⟨EqAt.str_list a t' p.isList hu, RcAt.str_list a t' p.isList hu, RcNeAt.str_list a t' p.isList hu⟩
      | tup es => rw [Den] at hy; obtain ⟨b, xs, rfl, h1, h2⟩ := hy; cases ry; obtain ⟨its, _, p, _⟩ := I.tuple (SqT.of h1); exact ⟨EqAt.str_tuple a t' p hu, RcAt.str_tuple a t' p hu, RcNeAt.str_tuple a t' p hu⟩
  | succ n ih =>
    intro d e A x y u v hd hx hy rx ry hu
    have hu0 : A.units < cLine := by omega
    cases d with
    | lst ds =>
      have hdl : ∀ c ∈ ds, dep c ≤ n := fun c hc => by have := depL_mem hc; rw [dep] at hd; omega
      have hxd := hx
      rw [Den] at hx; obtain ⟨a, xs, rfl, h1, h2⟩ := hx; cases rx
      obtain ⟨its, r, p, _⟩ := I.list (SqL.of h1)
      cases e with
      | non => rw [Den] at hy; subst hy; cases ry; exact ⟨EqAt.list_none p.isList hu0, RcAt.list_none p.isList hu0, RcNeAt.list_none p.isList hu0⟩
      | bl b => rw [Den] at hy; subst hy; cases ry; exact ⟨EqAt.list_bool b p.isList hu0, RcAt.list_bool b p.isList hu0, RcNeAt.list_bool b p.isList hu0⟩
      | int b => rw [Den] at hy; subst hy; obtain ⟨t, rfl⟩ := ry; exact ⟨EqAt.list_int b t p.isList hu0, RcAt.list_int b t p.isList hu0, RcNeAt.list_int b t p.isList hu0⟩
      | str b => rw [Den] at hy; subst hy; obtain ⟨t, rfl⟩ := ry; exact ⟨EqAt.list_str b t p.isList hu0, RcAt.list_str b t p.isList hu0, RcNeAt.list_str b t p.isList hu0⟩
      | tup es => rw [Den] at hy; obtain ⟨b, ys, rfl, h3, h4⟩ := hy; cases ry; obtain ⟨its', _, p', _⟩ := I.tuple (SqT.of h3); exact ⟨EqAt.list_tuple p.isList p' hu0, RcAt.list_tuple p.isList p' hu0, RcNeAt.list_tuple p.isList p' hu0⟩
      | lst es =>
        have hyd := hy
        rw [Den] at hy; obtain ⟨b, ys, rfl, h3, h4⟩ := hy; cases ry
        obtain ⟨its', r', p', _⟩ := I.list (SqL.of h3)
        have l1 := h2.length; have l2 := h4.length; have l3 := r.length; have l4 := r'.length
        have ch : ∀ j (g1 : j < its.toArray.size) (g2 : j < its'.toArray.size), EqAt A.in1 s its.toArray[j] its'.toArray[j] (eqD (ds.getD j .non) (es.getD j .non)) := fun j g1 g2 => by
          obtain ⟨x1, d1, a1, a2, a3, a4⟩ := vals_getD h2 r g1
          obtain ⟨x2, d2, b1, b2, b3, b4⟩ := vals_getD h4 r' g2
          rw [a3, b3]
          exact (ih d1 d2 A.in1 x1 x2 _ _ (hdl d1 a4) a1 b1 a2 b2 (by show A.units + 1 + n < _; omega)).1
        have main : RcAt A s (.ref a) (.ref b) (eqD (.lst ds) (.lst es)) ∧ RcNeAt A s (.ref a) (.ref b) (!eqD (.lst ds) (.lst es)) := by
          rw [eqD, eqDs_all]
          by_cases hl : ds.length = es.length
          · have hs : its.toArray.size = its'.toArray.size := by simp; omega
            have e1 : min ds.length es.length = its.toArray.size := by simp; omega
            have e2 : (ds.length == es.length) = true := by simpa using hl
            rw [e1, e2, Bool.and_true]
            exact ⟨RcAt.lists p.isList p'.isList hs hu0 ch, RcNeAt.lists p.isList p'.isList hs hu0 ch⟩
          · have hs : (its.toArray.size != its'.toArray.size) = true := by simp; omega
            have e2 : (ds.length == es.length) = false := by simpa using hl
            rw [e2, Bool.and_false]
            exact ⟨RcAt.lists_lengths p.isList p'.isList hs hu0, RcNeAt.lists_lengths p.isList p'.isList hs hu0⟩
        refine ⟨?_, main⟩
        by_cases hab : a = b
        · subst hab
          have := Den.inj _ _ hxd hyd
          rw [this, eqD_refl]
          exact EqAt.same _
        · exact EqAt.of_refs hab main.1
    | tup ds =>
      have hdl : ∀ c ∈ ds, dep c ≤ n := fun c hc => by have := depL_mem hc; rw [dep] at hd; omega
      have hxd := hx
      rw [Den] at hx; obtain ⟨a, xs, rfl, h1, h2⟩ := hx; cases rx
      obtain ⟨its, r, p, _⟩ := I.tuple (SqT.of h1)
      cases e with
      | non => rw [Den] at hy; subst hy; cases ry; exact ⟨EqAt.tuple_none p hu0, RcAt.tuple_none p hu0, RcNeAt.tuple_none p hu0⟩
      | bl b => rw [Den] at hy; subst hy; cases ry; exact ⟨EqAt.tuple_bool b p hu0, RcAt.tuple_bool b p hu0, RcNeAt.tuple_bool b p hu0⟩
      | int b => rw [Den] at hy; subst hy; obtain ⟨t, rfl⟩ := ry; exact ⟨EqAt.tuple_int b t p hu0, RcAt.tuple_int b t p hu0, RcNeAt.tuple_int b t p hu0⟩
      | str b => rw [Den] at hy; subst hy; obtain ⟨t, rfl⟩ := ry; exact ⟨EqAt.tuple_str b t p hu0, RcAt.tuple_str b t p hu0, RcNeAt.tuple_str b t p hu0⟩
      | lst es => rw [Den] at hy; obtain ⟨b, ys, rfl, h3, h4⟩ := hy; cases ry; obtain ⟨its', _, p', _⟩ := I.list (SqL.of h3); exact ⟨EqAt.tuple_list p p'.isList hu0, RcAt.tuple_list p p'.isList hu0, RcNeAt.tuple_list p p'.isList hu0⟩
      | tup es =>
        have hyd := hy
        rw [Den] at hy; obtain ⟨b, ys, rfl, h3, h4⟩ := hy; cases ry
        obtain ⟨its', r', p', _⟩ := I.tuple (SqT.of h3)
        have l1 := h2.length; have l2 := h4.length; have l3 := r.length; have l4 := r'.length
        have ch : ∀ j (g1 : j < its.toArray.size) (g2 : j < its'.toArray.size), EqAt A.in1 s its.toArray[j] its'.toArray[j] (eqD (ds.getD j .non) (es.getD j .non)) := fun j g1 g2 => by
          obtain ⟨x1, d1, a1, a2, a3, a4⟩ := vals_getD h2 r g1
          obtain ⟨x2, d2, b1, b2, b3, b4⟩ := vals_getD h4 r' g2
          rw [a3, b3]
          exact (ih d1 d2 A.in1 x1 x2 _ _ (hdl d1 a4) a1 b1 a2 b2 (by show A.units + 1 + n < _; omega)).1
        have main : RcAt A s (.ref a) (.ref b) (eqD (.tup ds) (.tup es)) ∧ RcNeAt A s (.ref a) (.ref b) (!eqD (.tup ds) (.tup es)) := by
          rw [eqD, eqDs_all]
          have e1 : min ds.length es.length = min its.toArray.size its'.toArray.size := by simp; omega
          have e2 : (ds.length == es.length) = (its.toArray.size == its'.toArray.size) := by
            rw [List.size_toArray, List.size_toArray, ← l1, ← l2, l3, l4]
          rw [e1, e2]
          exact ⟨RcAt.tuples p p' hu0 ch, RcNeAt.tuples p p' hu0 ch⟩
        refine ⟨?_, main⟩
        by_cases hab : a = b
        · subst hab
          have := Den.inj _ _ hxd hyd
          rw [this, eqD_refl]
          exact EqAt.same _
        · exact EqAt.of_refs hab main.1
    | non => exact ih .non e A x y u v (by simp [dep]) hx hy rx ry (by omega)
    | bl b => exact ih (.bl b) e A x y u v (by simp [dep]) hx hy rx ry (by omega)
    | int b => exact ih (.int b) e A x y u v (by simp [dep]) hx hy rx ry (by omega)
    | str b => exact ih (.str b) e A x y u v (by simp [dep]) hx hy rx ry (by omega)
def rNeD : R2 := fun x y H Q => ∃ d e, Den H x d ∧ Den H y e ∧ dep d ≤ 60 ∧ Q (.bl (!eqD d e)) H
theorem op_neD {k : Nat} (hr : Room k X.A) : OpR X (compareOp .NotEq) rNeD := by
  intro pins s σ H x y v u Q I rx ry h
  obtain ⟨d, e, h1, h2, h3, q⟩ := h
  have hu := hr.units
  exact (eq_all I 60 d e X.A x y _ _ h3 h1 h2 rx ry (by omega)).2.2 _ _ _ _ ⟨.bl _, H, I, rfl, q⟩
end
end L2

end
section
set_option Elab.async false
set_option linter.all false
set_option maxRecDepth 100000
set_option maxHeartbeats 4000000
namespace L2
open PySem PySem.Spec PyProof.Rows

/-! ### an exception of an own class: isinstance -/
/-- what the text's exception class has -/
structure ExC (K : PySem.W.Frag) (C : Addr) : Prop where
  ga : PySem.W.findIn K (.ref C) "__getattribute__" = some (some (.builtin "BaseException.__getattribute__"))
  na : PySem.W.findIn K (.ref C) "__getattr__" = some none
  cl : PySem.W.findIn K (.ref C) "__class__" = some (some (.builtin "object.__class__"))
  gt : PySem.W.specialIn K (.builtin "object.__class__") "__get__" = some (some (.builtin "getset_descriptor.__get__"))
  tk : PySem.W.takesIn K (.builtin "object.__class__") = some true
  mo : PySem.W.mroIn K C (.type "object") = some true
  mb : PySem.W.mroIn K C (.type "BaseException") = some true
  ci : (PySem.W.clsIn K C).isSome = true
def IsExc (x C : Addr) (h : Heap) : Prop := ∃ o, h.get? x = some o ∧ o.cls = .ref C
theorem IsExc.type {x C : Addr} {h : Heap} {M : Model} (e : IsExc x C h) : PySem.W.Looks M h (typeOf (.ref x)) (.ref C) := by
  obtain ⟨o, h1, h2⟩ := e
  exact h2 ▸ (PySem.W.Looks.ld h1).andThen .now
section
variable {prog : Program} {w : World} {A : Around} {E : Value → Shared → Prop} {s : Shared} {K : PySem.W.Frag} {x C : Addr}
open PySem.W PySem.Builtin PySem.Builtin.ObjectAttr PySem.Builtin.Getset_descriptor
theorem exc_check {nameV : Value} {Q : Unit → Shared → Prop} {M : Model} (T : ExC K C) (X : K.In s.heap) (I : IsExc x C s.heap) (hq : Q () s) : wpAny M A (checkBuiltinCall "BaseException.__getattribute__" ⟨[.ref x, nameV], []⟩) Q E s := by
  have hk : builtinKind "BaseException.__getattribute__" = some .slot := by decide +kernel
  have hsplit : splitId "BaseException.__getattribute__" = some ("BaseException", "__getattribute__") := by decide +kernel
  have ha := PySem.F.args_bexc_ga (.ref x) nameV
  obtain ⟨hh, g, d, t, os⟩ := s
  have L0 := I.type (M := M)
  have L1 := looks_mroIn (M := M) X T.mb
  simp only [checkBuiltinCall, hk, hsplit]
  refine wpAny_bind ?_
  unfold isInstance
  refine wpAny_bind (L0.at (L1.at ?_))
  repeat (first | wp_step)
  exact hq
theorem exc_get {R : Result → Shared → Prop} {tp : Value} (X : K.In s.heap) (I : IsExc x C s.heap) (hm : mroIn K C (.type "object") = some true)
    (h : R (.ok (.ret (.ref C))) s) : codeAny (model prog w) A (.call (.builtin "getset_descriptor.__get__") ⟨[.builtin "object.__class__", .ref x, tp], []⟩) R s := by
  obtain ⟨hh, g, dr, t, os⟩ := s
  have L0 := I.type (M := model prog w)
  have L1 := looks_mroIn (M := model prog w) X hm
  refine codeAny_call_builtin KF.slot_gs.plain KF.entry_gs (KF.slot_gs.check _ _ _ _ _ _ _ _ KF.type_class (KF.args_gs _ _ _) ?_)
  unfold Builtin.«getset_descriptor.__get__» descrGet
  rw [dga_obj]
  refine wpAny_bind (wpAny_pure ?_)
  unfold descrGetter descrCheckInstance descrNameAndClass isInstance
  simp only [KF.owner_class]
  repeat lk
  refine ⟨Code.quiet_builtin _ (by decide +kernel), codeAny_builtin KF.entry_class ?_⟩
  unfold Builtin.«object.__class__» shownTypeOf
  repeat lk
  exact h
theorem exc_entry {tk : Tok} {Q : Fin → Shared → Prop} (T : ExC K C) (X : K.In s.heap) (I : IsExc x C s.heap) (hq : Q (.done (.ret (.ref C))) s) :
    wpAny (model prog w) A (Builtin.«object.__getattribute__» ⟨[.ref x, .str "__class__" tk], []⟩) Q E s := by
  obtain ⟨hh, g, d, t, os⟩ := s
  have L0 := I.type (M := model prog w)
  have L1 : Looks (model prog w) hh (Builtin.ObjectAttr.find (.ref x) (.ref C) "__class__") (.bind (.builtin "getset_descriptor.__get__") (.builtin "object.__class__")) := by
    refine (looks_findIn (M := model prog w) X T.cl).andThen (Looks.andThen (looks_specialIn (M := model prog w) X T.gt) ?_)
    have L3 := looks_takesIn (M := model prog w) X T.tk
    exact (show Looks (model prog w) hh (Builtin.ObjectAttr.dataDescriptor? (some (.builtin "object.__class__")) (some (.builtin "getset_descriptor.__get__"))) (some (.builtin "getset_descriptor.__get__", .builtin "object.__class__")) from L3.andThen .now).andThen (Looks.tag .now)
  unfold Builtin.«object.__getattribute__»
  refine wpAny_bind (wpAny_pure (wpAny_bind (wpAny_pure (wpAny_bind (L0.at (wpAny_bind (L1.at ?_)))))))
  show wpAny _ _ (Builtin.ObjectAttr.bindTo _ _ _ _) _ _ _
  refine wpAny_bind (m := holding [Value.builtin "object.__class__"] (call (.builtin "getset_descriptor.__get__") [.builtin "object.__class__", .ref x, .ref C])) (wpAny_holding (wpAny_call (exc_get X I T.mo ?_)))
  exact wpAny_pure hq
theorem exc_class {Q : Option Value → Shared → Prop} (T : ExC K C) (X : K.In s.heap) (I : IsExc x C s.heap) (h : Q (some (.ref C)) { s with toks := s.toks + 1 }) : wpAny (model prog w) A (getAttr? (.ref x) "__class__") Q E s := by
  obtain ⟨hh, g, d, t, os⟩ := s
  have L0 := I.type (M := model prog w)
  have L1 := looks_findIn (M := model prog w) X T.ga
  have L2 := looks_findIn (M := model prog w) X T.na
  have f3 := PySem.F.excAttr_ValueError.ga.bind (.ref x)
  unfold getAttr? getAttrBy? getAttrBy
  refine wpAny_bind (wpAny_mkText (wpAny_bind (wpAny_attempt (wpAny_holding (wpAny_bind (L0.at (wpAny_bind (L1.at ?_))))))))
  show wpAny _ _ (getAttrByItsOwn _ _ _ _ _ _) _ _ _
  unfold getAttrByItsOwn
  refine wpAny_bind (L2.at ?_)
  refine wpAny_bind (wpAny_attempt (wpAny_holding ?_))
  show wpAny _ _ (boundAndCalled _ _ _) _ _ _
  unfold boundAndCalled
  refine wpAny_bind (wpAny_of_eq f3 ?_)
  refine wpAny_call (codeAny_call_builtin PySem.F.excAttr_ValueError.ga.plain PySem.F.entry_bexc_ga (exc_check T X I (exc_entry T X I ?_)))
  repeat (any_goals (first | assumption | wp_step))
theorem kitx_exc (T : ExC K C) : KitX K (.ref x) (.ref C) (IsExc x C) where
  ty := fun M h X I => I.type
  it := fun _ _ X _ => by
    obtain ⟨cd, hcD⟩ := Option.isSome_iff_exists.mp T.ci
    unfold clsIn at hcD
    split at hcD
    · rename_i c' d' cd' sl' ho
      intro A' Q' E' s' k q
      unfold isType loadHead
      exact wpAny_bind (wpAny_loadPart (k _ _ (X _ _ ho)) (wpAny_pure q))
    · cases hcD
  ne := fun h tp dd its n sl X htp => by
    obtain ⟨cd, hcD⟩ := Option.isSome_iff_exists.mp T.ci
    refine Bool.eq_false_iff.mpr fun q => ?_
    have e : C = tp := Value.ref.inj (beq_iff_eq.mp q)
    subst e
    unfold clsIn at hcD
    split at hcD
    · rename_i c' d' cd' sl' ho
      have z := (X _ _ ho).symm.trans htp
      cases z
    · cases hcD
  ca := fun X I k => exc_class T X I k
end

/-! ### isinstance(x, c), isinstance(x, (c1, c2, ..)) -/
abbrev HO.exc (x C : Addr) : HO := .ext (IsExc x C)
inductive TyX (K : PySem.W.Frag) (H : Hp) : V → Value → Prop where
  | of {x : V} {t : Value} (h : TyOf K H x t) : TyX K H x t
  | exc {a C : Addr} (e : H a = some (HO.exc a C)) (T : ExC K C) : TyX K H (.ref a) (.ref C)
def clsV : V → Value
  | .ref a => .ref a
  | .ty n => .type n
  | _ => .none
def isClsV : V → Bool
  | .ref _ => true
  | .ty _ => true
  | _ => false
theorem clsV_of {v : V} {u : Value} (r : RelV v u) (h : isClsV v = true) : u = clsV v := by
  cases v with
  | ref a => exact r
  | ty n => exact r
  | _ => cases h
section
variable {X : Cx} {pins : List (Addr × Obj)} {σ : St} {H : Hp} {s : Shared} {A : Around} {E : Value → Shared → Prop} {Q : Value → Shared → Prop} {c : Value} {b : Bool}
theorem isi_one {x : V} {u t : Value} (I : Inv X pins σ H s) (rx : RelV x u) (ty : TyX X.K H x t) (e : PySem.W.kitOne X.K t c = some b) (h : ∀ tk, Q (.bool b) { s with toks := tk }) :
    wpAny (model X.prog X.w) A (call (.builtin "isinstance") [u, c]) Q E s := by
  cases ty with
  | of ty => exact isinst_ok I rx ty e h
  | @exc a C ea T =>
    cases (show u = Value.ref a from rx)
    obtain ⟨p, _⟩ := (show ObjOk X.prog X.w H s.heap a (HO.exc a C) from I.hok a _ ea)
    exact PySem.W.kia_one (kitx_exc T) I.kIn p e (fun z => nomatch z) h
def rIsi (K : PySem.W.Frag) : List V → Hp → VK → Prop := fun xs H Q => ∃ x c t b, xs = [x, c] ∧ TyX K H x t ∧ isClsV c = true ∧ PySem.W.kitOne K t (clsV c) = some b ∧ Q (.bl b) H
theorem call_isi : CallR X (.builtin "isinstance") (rIsi X.K) := by
  intro pins s σ H xs us Q I r h
  obtain ⟨x, c, t, b, rfl, ty, hc, e, q⟩ := h
  cases r with
  | cons r1 r =>
    cases r with
    | cons r2 r =>
      cases r
      rw [clsV_of r2 hc]
      exact isi_one I r1 ty e fun tk => ⟨.bl b, H, I.tok _, rfl, q⟩
end
end L2

end
section
set_option Elab.async false
set_option linter.all false
set_option maxRecDepth 100000
set_option maxHeartbeats 4000000
namespace L2
open PySem PySem.Spec PyProof.Rows

/-! ### an exception on its way -/
/-- behind a call that raised: hr the heap at the raise, B what stays of it -/
def CXE (P : Program) (w : World) : CXT := fun outer H s E e s' => ∃ (x C : Addr) (B hr : Heap) (a0 : Value) (H' : Hp), e = .ref x ∧ s'.os = s.os ∧ AllBare s'.gens ∧ Un (frs outer) [] H H' s.heap hr ∧ HOk P w H' hr ∧
  Heap.FlyingW B outer x (.ref C) a0 s'.heap ∧ hr.UpToSlots s'.heap ∧ hr.get? x = none ∧ (∀ b o, hr.get? b = some o → b ∉ frs outer → B.get? b = none → s.heap.objs.size ≤ b ∧ H' b = none) ∧
  (∀ b o, hr.get? b = some o → B.get? b = none ∨ B.get? b = some o) ∧ E (.ref C) none H'
/-- in a frame: hr the heap at the raise -/
structure Fly (X : Cx) (pins : List (Addr × Obj)) (σ : St) (H : Hp) (x C : Addr) (s : Shared) : Prop where
  way : ∃ (B hr : Heap) (a0 : Value), Inv X pins σ H { s with heap := hr } ∧ Heap.FlyingW B X.stack x (.ref C) a0 s.heap ∧ hr.UpToSlots s.heap ∧ hr.get? x = none ∧ (∀ b o, hr.get? b = some o → B.get? b = none ∨ B.get? b = some o) ∧
    ∀ b o, hr.get? b = some o → b ∉ frs X.stack → B.get? b = none → X.s₀.heap.objs.size ≤ b ∧ H b = none ∧ b ≠ X.env.locals ∧ (∀ y c, X.env.cells.lookup y = some c → c ≠ b) ∧ ∀ p ∈ X.pn ++ pins, p.1 ≠ b
section
variable {X : Cx} {pins : List (Addr × Obj)} {σ : St} {H : Hp} {s : Shared}
/-- the frame's facts behind the flight -/
theorem Inv.flown {B hr h' : Heap} (I : Inv X pins σ H { s with heap := hr }) (hF : h'.FunFrames B X.stack) (st : B.StaysIn h') (up : hr.UpToSlots h') (bb : ∀ b o, hr.get? b = some o → B.get? b = none ∨ B.get? b = some o)
    (cov : ∀ b o, hr.get? b = some o → b ∉ frs X.stack → B.get? b = none → X.s₀.heap.objs.size ≤ b ∧ H b = none ∧ b ≠ X.env.locals ∧ (∀ y c, X.env.cells.lookup y = some c → c ≠ b) ∧ ∀ p ∈ X.pn ++ pins, p.1 ≠ b) :
    Inv X pins σ H { s with heap := h' } := by
  let ch : List Addr := (List.range hr.objs.size).filter fun b => decide ((hr.get? b).isSome = true ∧ b ∉ frs X.stack ∧ B.get? b = none)
  have hch : ∀ b, b ∈ ch → ∃ o, hr.get? b = some o ∧ b ∉ frs X.stack ∧ B.get? b = none := fun b hb => by
    obtain ⟨h1, h2, h3⟩ := of_decide_eq_true (List.mem_filter.mp hb).2
    obtain ⟨o, ho⟩ := Option.isSome_iff_exists.mp h1
    exact ⟨o, ho, h2, h3⟩
  have inB : ∀ b o, hr.get? b = some o → b ∉ frs X.stack → b ∉ ch → h'.get? b = some o := fun b o e hn hc => by
    rcases bb b o e with z | z
    · exact absurd (List.mem_filter.mpr ⟨List.mem_range.mpr (Heap.lt_size e), decide_eq_true ⟨by rw [e]; rfl, hn, z⟩⟩) hc
    · exact st b o z
  have stkF : ∀ b, b ∈ frs X.stack → ∀ o, hr.get? b = some o → ∃ sl, h'.get? b = some { o with slots := sl } := fun b hb o e => by
    obtain ⟨_, o', ho', hd⟩ := I.stack.mem hb
    have : o = o' := Option.some.inj (e.symm.trans ho')
    subst this
    exact up b o e hd
  have fsStk : ∀ b, b ∈ X.fs → b ∈ frs X.stack := fun b hb => by
    rcases I.ok.stk with e | ⟨e, hf⟩
    · rw [e]; exact hb
    · rw [e]; unfold frs; rw [List.filterMap_cons, hf]; exact List.mem_cons_of_mem _ hb
  have nch : ∀ b u, H b = some u → b ∉ ch ∧ b ∉ frs X.stack := fun b u e => by
    have hnF : b ∉ frs X.stack := fun z => by rw [I.stkFree b z] at e; cases e
    refine ⟨fun z => ?_, hnF⟩
    obtain ⟨o, ho, h1, h2⟩ := hch b z
    rw [(cov b o ho h1 h2).2.1] at e
    cases e
  refine I.step (s := { s with heap := hr }) (g' := s.gens) (d' := s.drawn) (t' := s.toks) (ch := ch) (fun b hb => ?_) (fun b o hL hb hc e n => ?_) (fun b o hL hb hc e n => stkF b (fsStk b hb) o e) (fun b o _ _ n => n) (fun b o hc e => ?_) (fun _ _ e => e) (fun _ _ _ e => e) (fun b ps e => ⟨#[], by rw [e]; simp⟩) (fun m hm => up.ns hm) ?_ I.bare
  · obtain ⟨o, ho, h1, h2⟩ := hch b hb
    obtain ⟨c1, c2, c3, c4, c5⟩ := cov b o ho h1 h2
    exact ⟨.inr c1, c3, c4, c5⟩
  · by_cases hs : b ∈ frs X.stack
    · exfalso
      rcases List.mem_cons.mp (I.stkSub b hs) with z | z
      · exact hL z
      · exact hb z
    · exact inB b o e hs hc
  · by_cases hs : b ∈ frs X.stack
    · obtain ⟨sl, q⟩ := stkF b hs o e
      exact ⟨_, q⟩
    · exact ⟨o, inB b o e hs hc⟩
  · intro b u e
    have e' := e
    refine (I.hok b u e).stay (fun c v hcc q => ?_) (fun _ q => q) fun _ _ q => q
    have hcH : ∃ z, H c = some z := by
      rcases hcc with z | z
      · exact ⟨u, by rw [z]; exact e'⟩
      · exact ⟨_, z⟩
    obtain ⟨z, hz⟩ := hcH
    obtain ⟨n1, n2⟩ := nch c z hz
    exact inB c v q n2 n1
/-- an object that stands is tracked from now on -/
theorem Inv.track {x : Addr} {o : HO} (I : Inv X pins σ H s) (h0 : X.s₀.heap.get? x = none) (hx : H x = none) (hL : x ≠ X.env.locals) (hc : ∀ y c, X.env.cells.lookup y = some c → c ≠ x) (hp : ∀ p ∈ X.pn ++ pins, p.1 ≠ x)
    (new : ObjOk X.prog X.w (upd H x o) s.heap x o) : Inv X pins σ (upd H x o) s := by
  have h0' : ∀ b ob, X.s₀.heap.get? b = some ob → b ≠ x := fun b ob e z => by rw [z, h0] at e; cases e
  refine ⟨I.ok, I.os, I.bare, ⟨I.base.keep, I.base.slot, fun b ob e n hb => ?_, I.base.there, fun b xs e => ?_, fun b ob u e => ?_, fun b ps e => ?_⟩, I.loc, I.cell, ?_, fun y c e => ?_, fun p hq => ?_, fun b u e => ?_, I.len⟩
  · rw [upd_ne (h0' b ob e)]; exact I.base.free b ob e n hb
  · have q := I.base.tups b xs e
    rw [upd_ne (ne_of_none q hx)]; exact q
  · have q := I.base.frzs b ob u e
    rw [upd_ne (ne_of_none q hx)]; exact q
  · obtain ⟨m, q⟩ := I.base.tbls b ps e
    exact ⟨m, by rw [upd_ne (ne_of_none q hx)]; exact q⟩
  · rw [upd_ne (Ne.symm hL)]; exact I.free
  · rw [upd_ne (hc y c e)]; exact I.freeC y c e
  · obtain ⟨a1, a2, a3⟩ := I.pin p hq
    exact ⟨a1, by rw [upd_ne (hp p hq)]; exact a2, a3⟩
  · by_cases hb : b = x
    · subst hb; rw [upd_same] at e; cases e; exact new
    · rw [upd_ne hb] at e
      exact (I.hok b u e).stay (fun _ _ _ q => q) (fun c q => by rw [upd_ne (ne_of_none q hx)]; exact q) fun c xs q => by rw [upd_ne (ne_of_none q hx)]; exact q
theorem excOk {P : Program} {w : World} {G : Hp} {h : Heap} {x C : Addr} (e : IsExc x C h) : ObjOk P w G h x (HO.exc x C) := by
  refine ⟨e, let ⟨o, h1, _⟩ := e; ⟨o, h1⟩, fun h1 h2 p k => ?_⟩
  obtain ⟨o, a, b⟩ := p
  exact ⟨o, k o a, b⟩
/-- .. a new one, in a heap that keeps all else -/
theorem Inv.newExc {h' : Heap} {x C : Addr} {vs : List Value} {t' : Nat} (hex : X.ex = []) (I : Inv X pins σ H s) (m : Heap.MadeExcOf s.heap h' x (.ref C) vs) : H x = none ∧ Inv X pins σ (upd H x (HO.exc x C)) { s with heap := h', toks := t' } := by
  have I1 : Inv X pins σ H { s with heap := h', toks := t' } := I.kept m.keeps
  have hx : H x = none := by
    cases e : H x with
    | none => rfl
    | some u =>
      have q := (I.hok x u e)
      have hlt := q.lt
      exfalso
      have : ∃ o, s.heap.get? x = some o := by
        cases u with
        | lst xs => obtain ⟨_, _, _, _, e⟩ := q; exact ⟨_, e⟩
        | tup xs => obtain ⟨_, _, _, o, h1, _⟩ := q; exact ⟨o, h1⟩
        | dK kvs => obtain ⟨_, _, _, _, o, _, _, e, _⟩ := q; exact ⟨_, e⟩
        | dT kvs => obtain ⟨_, _, _, _, o, _, _, e, _⟩ := q; exact ⟨_, e⟩
        | set S n => obtain ⟨o, _, _, _, e, _⟩ := q; exact ⟨_, e⟩
        | ins C dx fs => obtain ⟨_, _, _, e, _⟩ := q; exact ⟨_, e⟩
        | own y => obtain ⟨_, e⟩ := q; exact ⟨_, e⟩
        | xd fs => obtain ⟨_, ⟨_, _, _, e, _⟩, _⟩ := q; exact ⟨_, e⟩
        | rng lo hi => obtain ⟨_, _, _, e⟩ := q; exact ⟨_, e⟩
        | frz ob u => obtain ⟨e, _⟩ := q; exact ⟨_, e⟩
        | tbl ps => exact ⟨_, (show s.heap.get? x = some _ from q)⟩
        | met f y => exact ⟨_, (show s.heap.get? x = some _ from q)⟩
        | ext φ => obtain ⟨_, ⟨_, e⟩, _⟩ := q; exact ⟨_, e⟩
      obtain ⟨o, ho⟩ := this
      rw [m.new] at ho
      cases ho
  obtain ⟨t, ht, _, _⟩ := m.there
  refine ⟨hx, I1.track ?_ hx ?_ (fun y c e z => ?_) (fun p hp z => ?_) (excOk ⟨_, ht, rfl⟩)⟩
  · cases e : X.s₀.heap.get? x with
    | none => rfl
    | some o =>
      obtain ⟨o', e'⟩ := I.base.there x o e (by rw [hex]; simp)
      rw [m.new] at e'; cases e'
  · intro z
    obtain ⟨_, ⟨o, _, _, ho, _⟩, _⟩ := I.loc
    rw [← z, m.new] at ho; cases ho
  · obtain ⟨v, o, ho, _⟩ := I.cell y c e
    rw [z, m.new] at ho; cases ho
  · have := (I.pin p hp).1
    rw [z, m.new] at this; cases this

/-! ### the class's object -/
theorem own_obj {K : PySem.W.Frag} {h₀ : Heap} {C : Addr} {bmB : List Value} {newId : String} (X : K.In h₀) (q : PySem.W.excIn K C bmB newId = true) :
    ∃ bm N nm q bs hdct sn sub ab col dd k0 k1 k2 k3 k5 mN, h₀.get? C = some (excClassObj nm q C N bs bm hdct sn sub ab col dd k0 k1 k2 k3 k5 newId) ∧ h₀.Ns N mN ∧ mN "__init__" = none ∧ OwnTail h₀ bmB bm := by
  open PySem.W in
  unfold excIn at q
  split at q
  · rename_i dd cd sl ho
    split at q
    · rename_i C' bm k0 k1 k2 k3 n k5 hm hs
      simp only [Bool.and_eq_true, beq_iff_eq, Bool.not_eq_true'] at q
      obtain ⟨⟨⟨⟨⟨rfl, rfl⟩, hdel⟩, ht⟩, hok⟩, hni⟩ := q
      obtain ⟨nm, bs, mro, ns, qn, hd, sn, sub, ab, col, del⟩ := cd
      dsimp only at hm hdel hok hni
      subst hm hdel
      have hsl : sl = #[k0, k1, k2, k3, some (.builtin n), k5] := by
        obtain ⟨l⟩ := sl
        simp only at hs
        rw [hs]
      subst hsl
      exact ⟨bm, ns, nm, qn, bs, hd, sn, sub, ab, col, dd, k0, k1, k2, k3, k5, _, X _ _ ho, .of_isNs (PySem.W.isNs_of_in X hok), PySem.W.nsMap_none_of_in X hok hni, PySem.W.tail_of_in X ht⟩
    · cases q
  · cases q
abbrev veMro : List Value := [.type "ValueError", .type "Exception", .type "BaseException", .type "object"]
/-- an own exception class under ValueError -/
structure ExK (K : PySem.W.Frag) (C : Addr) : Prop where
  inn : PySem.W.excIn K C veMro "ValueError.__new__" = true
  kp : PySem.W.keepIn K (.ref C) = true
/-- C(e, ..) as a value -/
def tExc (C : Addr) (t : TA) : TE := fun σ H Q => t σ H fun vs H1 => vs.length ≤ sizeLine ∧ ∀ x, H1 x = none → Q (.ref x) (upd H1 x (HO.exc x C))
section
variable {C : Addr} {y : Str} {p pos : Pos} {e : Expr} {es : List Expr} {t : TA}
theorem run_exc {pins : List (Addr × Obj)} {σ : St} {H : Hp} {s : Shared} {us : List Value} {vs : List V} {Q : VK} {E : Value → Shared → Prop} {A : Around} (hex : X.ex = []) (M : ExK X.K C) (I : Inv X pins σ H s) (r : Vals vs us) (hz : vs.length ≤ sizeLine)
    (h : ∀ x, H x = none → Q (.ref x) (upd H x (HO.exc x C))) : wpAny (model X.prog X.w) A (call (.ref C) us) (EP X pins σ Q) E s := by
  obtain ⟨bm, N, nm, q, bs, hdct, sn, sub, ab, col, dd, k0, k1, k2, k3, k5, mN, hC, hN, hni, T⟩ := own_obj I.kIn M.inn
  obtain ⟨hp, g, d, tk, os⟩ := s
  refine wpAny_call_exc_subT (hrest := by rw [← r.length]; exact hz) PySem.F.excBase_ValueError T hC hN hni fun h' x m => ?_
  obtain ⟨hx, I'⟩ := I.newExc (t' := tk) hex m
  exact ⟨.ref x, _, I', rfl, h x hx⟩
theorem pe_exc (hex : X.ex = []) (M : ExK X.K C) (hg : Gl X y) (hm : X.mg y = some (.ref C)) (ha : PA X (e :: es) t) (hdb : (y == ("__debug__" : Str)) = false := by decide)
    (he : starEach (e :: es) X.env = (false, eval e X.env) :: starEach es X.env := by rfl) (hpl : (backTo pos (starEach es X.env)).any (·.1) = false := by rfl) : PE X (.Call (.Name y p) (e :: es) [] pos) (tExc C t) := by
  intro pins s σ H Q I h
  refine wpAny_Call_Name_kw (ld_glob I hg hm ?_ hdb)
  refine PySem.W.callWith_K (h₀ := X.base) I.ok.mod.kin M.kp (thn (ha pos pins s σ H _ I h) fun us s1 ⟨vs, H1, I1, r, z, q⟩ => ⟨I1.kIn, ?_⟩) he hpl
  exact run_exc hex M I1 r z q
theorem pe_exc0 (hex : X.ex = []) (M : ExK X.K C) (hg : Gl X y) (hm : X.mg y = some (.ref C)) (hdb : (y == ("__debug__" : Str)) = false := by decide) : PE X (.Call (.Name y p) [] [] pos) (tExc C tNil) := by
  intro pins s σ H Q I h
  refine wpAny_Call_Name_kw (ld_glob I hg hm ?_ hdb)
  exact PySem.W.callWith_K0 I.kIn M.kp (run_exc (us := []) hex M I .nil h.1 h.2)
end
/-! ### raise C(e, ..) -/
/-- what is wanted of an exception made here -/
def Wants (X : Cx) (E : St → Addr → Hp → Prop) : Prop := ∀ (pins : List (Addr × Obj)) (σ : St) (H : Hp) (s : Shared) (h' : Heap) (x C : Addr) (vs : List Value), Inv X pins σ H s → Heap.MadeExcOf s.heap h' x (.ref C) vs → E σ C H → X.xe (.ref x) { s with heap := h' }
def tRaise (C : Addr) (E : St → Addr → Hp → Prop) (t : TA) : TS := fun _ σ H => t σ H fun vs H1 => vs.length ≤ sizeLine ∧ E σ C H1
section
variable {C : Addr} {y : Str} {np cpos pos : Pos} {e : Expr} {es : List Expr} {t : TA} {E : St → Addr → Hp → Prop}
theorem ps_raise (hc : X.calm = true) (M : ExK X.K C) (hg : Gl X y) (hm : X.mg y = some (.ref C)) (hw : Wants X E) (ha : PA X (e :: es) t) (hdb : (y == ("__debug__" : Str)) = false := by decide)
    (he : starEach (e :: es) X.env = (false, eval e X.env) :: starEach es X.env := by rfl) (hpl : (backTo cpos (starEach es X.env)).any (·.1) = false := by rfl) : PS X (.Raise (some (.Call (.Name y np) (e :: es) [] cpos)) none pos) (tRaise C E t) := by
  intro pins s σ H D I h
  obtain ⟨bm, N, nm, q, bs, hdct, sn, sub, ab, col, dd, k0, k1, k2, k3, k5, mN, hC, hN, hni, T⟩ := own_obj I.ok.mod.kin M.inn
  refine wpAny_Raise_call_subT (C := C) (nm := nm) (q := q) (N := N) (bs := bs) (bm := bm) (hdct := hdct) (sn := sn) (sub := sub) (ab := ab) (col := col) (dd := dd) (k0 := k0) (k1 := k1) (k2 := k2) (k3 := k3) (k5 := k5)
    PySem.F.excBase_ValueError (mN := mN) (T.hasType PySem.F.excBase_ValueError.hasBase) (I.ok.hd hc) (by rw [he]; show (false || (backTo cpos (starEach es X.env)).any (·.1)) = false; rw [hpl]; rfl) hni (ld_glob I hg hm ⟨rfl, ?_⟩ hdb)
  have ha' := ha cpos pins s σ H _ I h
  rw [he] at ha' ⊢
  refine Calls.evalArgs_plain (thn ha' fun us s1 ⟨vs, H1, I1, r, z, hE⟩ => ⟨rfl, by rw [← r.length]; exact z, I1.bk _ _ hC, hN.keeps I1.bk, T.keeps I1.bk, fun h' x m => ?_⟩)
  exact hw pins σ H1 s1 h' x C _ I1 m hE
end

/-! ### a def that may raise -/
section
variable {P : Program} {w : World} {K : PySem.W.Frag} {mg : Str → Option Value} {base : Heap} {N : List Str} {qual : Str} {scope : Scope} {f : Addr} {cd : Value} {A : Around} {outer : List Env} {s : Shared} {H : Hp} {E : XK}
theorem hide_of {h : Heap} {as : List Addr} {b : Addr} {o : Obj} (e : h.get? b = some o) : (PySem.W.hideAll h as).get? b = none ∨ (PySem.W.hideAll h as).get? b = some o := by
  by_cases hb : b ∈ as
  · exact .inl (PySem.W.hideAll_none as hb)
  · exact .inr (PySem.W.hideAll_get _ e hb)
theorem stays_hide {h : Heap} {as : List Addr} : (PySem.W.hideAll h as).StaysIn h := fun b o e => PySem.W.of_hideAll as e
theorem Inv.hidden {X : Cx} {pins : List (Addr × Obj)} {σ : St} {H : Hp} {s : Shared} (I : Inv X pins σ H s) : s.heap.FunFrames (PySem.W.hideAll s.heap (frs X.stack)) X.stack :=
  PySem.W.funFrames_hide I.stack fun env he b hb => List.mem_filterMap.mpr ⟨env, he, hb⟩
theorem wants_fn : Wants (cxOf (CXE P w) P w K mg base N qual scope f cd A outer s H E) (fun _ C H' => E (.ref C) none H') := by
  intro pins σ H1 s1 h' x C vs I m hE
  show wpAny (model P w) _ (leaving (envOfC qual scope s.heap.objs.size f cd) (.ref x)) _ _ _
  have hst : frs (cxOf (CXE P w) P w K mg base N qual scope f cd A outer s H E).stack = s.heap.objs.size :: frs outer := rfl
  refine wpAny_leaves_madeW (base := PySem.W.hideAll s1.heap (frs (cxOf (CXE P w) P w K mg base N qual scope f cd A outer s H E).stack)) (h := s1.heap) (env := envOfC qual scope s.heap.objs.size f cd) (outer := outer) I.ok.frames rfl stays_hide I.hidden m fun h2 t fl _ _ up => ?_
  refine ⟨x, C, _, s1.heap, _, H1, rfl, I.os, I.bare, I.base, I.hok, fl, (Heap.UpToSlots.of_keeps m.keeps).trans up, m.new, fun b o e hb n => ?_, fun b o e => hide_of e, hE⟩
  by_cases hs : b ∈ frs (cxOf (CXE P w) P w K mg base N qual scope f cd A outer s H E).stack
  · rw [hst] at hs
    rcases List.mem_cons.mp hs with z | z
    · subst z
      exact ⟨Nat.le_refl _, I.free⟩
    · exact absurd z hb
  · rw [PySem.W.hideAll_get _ e hs] at n
    cases n
/-- behind a call that raised: the frame -/
theorem Inv.raised {X : Cx} {pins : List (Addr × Obj)} {σ : St} {H H' : Hp} {s s' : Shared} {hr : Heap} (I : Inv X pins σ H s) (ho : s'.os = s.os) (un : Un (frs X.stack) [] H H' s.heap hr) (hok : HOk X.prog X.w H' hr) (hg : AllBare s'.gens) : Inv X pins σ H' { s' with heap := hr } :=
  I.call' (s' := { s' with heap := hr }) (ch := []) ho un hok hg (by intro b z; simp at z)
theorem passes_fn : Passes (CXE P w) (cxOf (CXE P w) P w K mg base N qual scope f cd A outer s H E) E := by
  intro pins σ H1 s1 e s' I hcx
  obtain ⟨x, C, B, hr, a0, H', rfl, hos, hbare, un, hok, fl, up, hnew, cov, bb, hE⟩ := hcx
  show wpAny (model P w) _ (leaving (envOfC qual scope s.heap.objs.size f cd) (.ref x)) _ _ _
  have I2 := I.raised hos un hok hbare
  refine wpAny_leaves_onW (env := envOfC qual scope s.heap.objs.size f cd) (outer := outer) I.ok.frames rfl fl fun h2 fl2 up2 => ?_
  refine ⟨x, C, B, hr, a0, H', rfl, I2.os, hbare, I2.base, I2.hok, fl2, up.trans up2, hnew, fun b o e hb n => ?_, bb, hE⟩
  have hst : frs (cxOf (CXE P w) P w K mg base N qual scope f cd A outer s H E).stack = s.heap.objs.size :: frs outer := rfl
  by_cases hs : b ∈ frs (cxOf (CXE P w) P w K mg base N qual scope f cd A outer s H E).stack
  · rw [hst] at hs
    rcases List.mem_cons.mp hs with z | z
    · subst z
      exact ⟨Nat.le_refl _, I2.free⟩
    · exact absurd z hb
  · obtain ⟨c1, c2⟩ := cov b o e hs n
    exact ⟨Nat.le_trans I.sz c1, c2⟩
/-- a promise of a def that doesn't raise, for callers that may -/
theorem FnOk.nox {CX : CXT} {k : Nat} {fd : FuncData} {ps : List Str} {sp : Sp} (F : FnOk P w K mg base CX0 k f fd ps sp) : FnOk P w K mg base CX k f fd ps sp :=
  ⟨F.len, fun A outer s H args us vs Q E hr he hb hv hs => codeAny_mono (F.run A outer s H args us vs Q E hr he hb hv hs) fun r s' hq => by
    cases r with
    | error e => exact False.elim hq
    | ok fl => cases fl <;> exact hq⟩
theorem Fun.okE {x qual : Str} {st : Stmt} {f : Addr} {fd : FuncData} {N ps : List Str} {k : Nat} {sp : Sp} (F : Fun K x qual st f fd) (S : FnScope N ps (defScope st)) (len : ∀ vs H Q E, sp vs H Q E → vs.length = ps.length)
    (hbody : ∀ (cdv : Value) (A : Around) (outer : List Env) (s : Shared) (H : Hp) (vs : List V) (Q : VK) (E : XK), Room k (A.deeper (envOfC qual (defScope st) s.heap.objs.size f cdv)) → sp vs H Q E →
      ∃ t, PSs (cxOf (CXE P w) P w K mg base N qual (defScope st) f cdv A outer s H E) (defBody st) t ∧ t { nx := fun _ H' => Q .non H', rt := Q } (start N vs) H) : FnOk P w K mg base (CXE P w) (k + 1) f fd ps sp := by
  obtain ⟨oc, od, kV, doc, pm, an, cdv, ct, osl, rfl, lk, hcd⟩ := F.ex
  exact fn_of lk hcd S len fun A outer s H vs Q E hr hsp => hbody cdv A outer s H vs Q E hr hsp
end

/-! ### try: body, except C as n: suite -/
/-- the context of a try's body: T is what the suite wants of the frame's values, the class and the heap -/
def tryXE (X : Cx) (pn : List (Addr × Obj)) (T : St → Addr → Hp → Prop) : Value → Shared → Prop := fun e s' => ∃ (x C : Addr) (σ : St) (H : Hp), e = .ref x ∧ Fly { X with pn := pn } [] σ H x C s' ∧ T σ C H
def tryCx (X : Cx) (pn : List (Addr × Obj)) (T : St → Addr → Hp → Prop) : Cx := { X with pn := pn, xe := tryXE X pn T }
/-- .. of its suite: an exception is handled -/
def hanCx (X : Cx) (pn : List (Addr × Obj)) (x : Addr) : Cx := { X with A := X.A.mark (some (.ref x)), calm := false, pn := pn, xe := fun _ _ => False }
theorem Cx.Ok.pn {X : Cx} (ok : X.Ok) (pn : List (Addr × Obj)) : Cx.Ok { X with pn := pn } :=
  ⟨ok.mod, ok.kind, ok.glob, ok.blt, ok.above, ok.inj, ok.has, ok.cab, ok.hd, ok.frames, ok.stk, ok.exf, ok.bs, ok.bsz, ok.noex, ok.exfs, ok.funs, ok.frf⟩
theorem Cx.Ok.unpn {X : Cx} {pn : List (Addr × Obj)} (ok : Cx.Ok { X with pn := pn }) : X.Ok :=
  ⟨ok.mod, ok.kind, ok.glob, ok.blt, ok.above, ok.inj, ok.has, ok.cab, ok.hd, ok.frames, ok.stk, ok.exf, ok.bs, ok.bsz, ok.noex, ok.exfs, ok.funs, ok.frf⟩
section
variable {X : Cx} {pins : List (Addr × Obj)} {σ : St} {H : Hp} {s : Shared} {T : St → Addr → Hp → Prop} {pn : List (Addr × Obj)} {x : Addr}
/-- pins of the statement become the context's -/
theorem Inv.toPn (I : Inv X pins σ H s) : Inv { X with pn := X.pn ++ pins } [] σ H s :=
  ⟨I.ok.pn _, I.os, I.bare, I.base, I.loc, I.cell, I.free, I.freeC, fun p hp => I.pin p (by simpa using hp), I.hok, I.len⟩
theorem Inv.ofPn (I : Inv { X with pn := X.pn ++ pins } [] σ H s) : Inv X pins σ H s :=
  ⟨I.ok.unpn, I.os, I.bare, I.base, I.loc, I.cell, I.free, I.freeC, fun p hp => I.pin p (List.mem_append_left _ hp), I.hok, I.len⟩
theorem Inv.noPins (I : Inv { X with pn := pn } pins σ H s) : Inv { X with pn := pn } [] σ H s :=
  ⟨I.ok, I.os, I.bare, I.base, I.loc, I.cell, I.free, I.freeC, fun p hp => I.pin p (List.mem_append_left _ (by simpa using hp)), I.hok, I.len⟩
theorem Inv.tryOf (I : Inv { X with pn := pn } pins σ H s) : Inv (tryCx X pn T) pins σ H s := I.wish _
theorem Inv.ofTry (I : Inv (tryCx X pn T) pins σ H s) : Inv { X with pn := pn } pins σ H s := Inv.unwish (X := { X with pn := pn }) (E := tryXE X pn T) I
theorem Inv.hanOf (I : Inv { X with pn := pn } pins σ H s) : Inv (hanCx X pn x) pins σ H s :=
  ⟨⟨I.ok.mod, I.ok.kind, I.ok.glob, I.ok.blt, I.ok.above, I.ok.inj, I.ok.has, I.ok.cab, fun z => absurd (show false = true from z) Bool.false_ne_true, I.ok.frames, I.ok.stk, I.ok.exf, I.ok.bs, I.ok.bsz, I.ok.noex, I.ok.exfs, I.ok.funs, I.ok.frf⟩, I.os, I.bare, I.base, I.loc, I.cell, I.free, I.freeC, I.pin, I.hok, I.len⟩
theorem Inv.ofHan (h : X.calm = true → X.A.handled = none) (I : Inv (hanCx X pn x) pins σ H s) : Inv { X with pn := pn } pins σ H s :=
  ⟨⟨I.ok.mod, I.ok.kind, I.ok.glob, I.ok.blt, I.ok.above, I.ok.inj, I.ok.has, I.ok.cab, h, I.ok.frames, I.ok.stk, I.ok.exf, I.ok.bs, I.ok.bsz, I.ok.noex, I.ok.exfs, I.ok.funs, I.ok.frf⟩, I.os, I.bare, I.base, I.loc, I.cell, I.free, I.freeC, I.pin, I.hok, I.len⟩
theorem SP.ofTry {D : Ends} {f : Flow} {s' : Shared} (h : SP (tryCx X (X.pn ++ pins) T) [] D f s') : SP X pins D f s' := by
  cases f with
  | next => obtain ⟨σ', H', I, q⟩ := h; exact ⟨σ', H', I.ofTry.ofPn, q⟩
  | brk => obtain ⟨σ', H', I, q⟩ := h; exact ⟨σ', H', I.ofTry.ofPn, q⟩
  | cont => obtain ⟨σ', H', I, q⟩ := h; exact ⟨σ', H', I.ofTry.ofPn, q⟩
  | ret u => obtain ⟨v, σ', H', I, r, q⟩ := h; exact ⟨v, σ', H', I.ofTry.ofPn, r, q⟩

/-- f(..) within a try's body: the wish may look at the frame's values -/
def PassesS (CX : CXT) (X : Cx) (E : St → XK) : Prop := ∀ (pins : List (Addr × Obj)) (σ : St) (H : Hp) (s : Shared) (e : Value) (s' : Shared), Inv X pins σ H s → CX X.stack H s (E σ) e s' → X.xe e s'
def tCallS (sp : Sp) (dvs : List V) (E : St → XK) (t : TA) : TE := fun σ H Q => t σ H fun vs H1 => sp (vs ++ dvs) H1 Q (E σ)
theorem passes_try {P : Program} {w : World} (hP : X.prog = P) (hw : X.w = w) : PassesS (CXE P w) (tryCx X pn T) (fun σ cls _ H => ∃ C, cls = .ref C ∧ T σ C H) := by
  subst hP hw
  intro pins σ H1 s1 e s' I hcx
  obtain ⟨x, C, B, hr, a0, H', rfl, hos, hbare, un, hok, fl, up, hnew, cov, bb, C', hC, hT⟩ := hcx
  cases hC
  have I2 : Inv (tryCx X pn T) pins σ H' { s' with heap := hr } := I.raised hos un hok hbare
  refine ⟨x, C, σ, H', rfl, ⟨B, hr, a0, I2.ofTry.noPins, fl, up, hnew, bb, fun b o e hs n => ?_⟩, hT⟩
  obtain ⟨c1, c2⟩ := cov b o e hs n
  have lt : ∀ c oc, s1.heap.get? c = some oc → c ≠ b := fun c oc ec z => by
    have := Heap.lt_size ec
    rw [z] at this
    exact absurd (Nat.lt_of_lt_of_le this c1) (Nat.lt_irrefl _)
  refine ⟨Nat.le_trans I.sz c1, c2, fun z => ?_, fun y c ec z => ?_, fun p hp z => ?_⟩
  · have := I.lt
    have this : X.env.locals < s1.heap.objs.size := this
    rw [← z] at this
    exact absurd (Nat.lt_of_lt_of_le this c1) (Nat.lt_irrefl _)
  · obtain ⟨v, oc, hoc, _⟩ := I.cell y c ec
    exact lt c oc hoc z
  · exact lt p.1 p.2 (I.pin p (List.mem_append_left _ (show p ∈ pn by simpa using hp))).1 z
theorem pe_callS {CX : CXT} {k : Nat} {f : Addr} {fd : FuncData} {ps : List Str} {sp : Sp} {dvs : List V} {ds : List Value} {E : St → XK} {y : Str} {p pos : Pos} {e : Expr} {es : List Expr} {t : TA} (F : FnOk X.prog X.w X.K X.mg X.base CX k f fd ps sp) (hr : Room k X.A) (hg : Gl X y) (hm : X.mg y = some (.ref f)) (hk : PySem.W.keepIn X.K (.ref f) = true) (hb : Binds X.K fd ps ds) (hd : Vals dvs ds) (hx : PassesS CX X E)
    (ha : PA X (e :: es) t) (hdb : (y == ("__debug__" : Str)) = false := by decide) (he : starEach (e :: es) X.env = (false, eval e X.env) :: starEach es X.env := by rfl) (hpl : (backTo pos (starEach es X.env)).any (·.1) = false := by rfl) :
    PE X (.Call (.Name y p) (e :: es) [] pos) (tCallS sp dvs E t) := by
  intro pins s σ H Q I h
  refine wpAny_Call_Name_kw (ld_glob I hg hm ?_ hdb)
  refine PySem.W.callWith_K (h₀ := X.base) I.ok.mod.kin hk (thn (ha pos pins s σ H _ I h) fun us s1 ⟨vs, H1, I1, r, q⟩ => ⟨I1.kIn, ?_⟩) he hpl
  have r2 : Vals (vs ++ dvs) (us ++ ds) := r.append hd
  have hl : (us ++ ds).length = ps.length := by rw [← r2.length]; exact F.len _ _ _ _ q
  refine wpAny_call (codeAny_mono (F.run X.A X.stack s1 H1 ⟨us, []⟩ (us ++ ds) (vs ++ dvs) Q (E σ) hr I1.env0 (hb s1 us I1.kIn hl) r2 q) fun r s' hq => ?_)
  cases r with
  | error e => exact hx pins σ H1 s1 e s' I1 hq
  | ok fl =>
    cases fl with
    | ret u => exact I1.after hq
    | next => exact False.elim hq
    | brk => exact False.elim hq
    | cont => exact False.elim hq

/-- the name of an except clause goes -/
theorem unbind_ok {M : Model} {A : Around} {E : Value → Shared → Prop} {i : Nat} {n : Str} {pos : Pos} {Q : Unit → Shared → Prop} (I : Inv X pins σ H s) (hN : X.N.Nodup) (hi : X.N[i]? = some n) (hk : X.env.scope.names.lookup n = some .local)
    (h : ∀ s', Inv X pins (σ.set i none) H s' → Q () s') : wpAny M A (do bindName X.env n .none; unbindBehindTheSuite X.env n pos) Q E s := by
  obtain ⟨m, hn, hl⟩ := id I.loc
  have hcls : (X.env.scope.kind == .class || (X.env.scope.kind == .module && X.env.locals != X.env.globals)) = false := by rw [I.ok.kind]; rfl
  refine wpAny_nameGoes_keeps hk hn hcls fun h' v hn' hs => h _ ?_
  have cne := I.cne
  have ltL : ∀ b o, X.s₀.heap.get? b = some o → b ≠ X.env.locals := fun b o e => Nat.ne_of_lt (Nat.lt_of_lt_of_le (Heap.lt_size e) I.ok.above)
  refine ⟨I.ok, I.os, I.bare, ⟨fun b o e nn hb hx => (hs.2 b (ltL b o e)).trans (I.base.keep b o e nn hb hx), fun b o e nn hb hx => ?_, I.base.free, fun b o e hx => ?_, I.base.tups, I.base.frzs, I.base.tbls⟩, ⟨_, hn', fun j y v' e1 e2 e3 => ?_⟩, fun y c e => ?_, I.free, I.freeC, fun p hp => ?_, fun b ob e => ?_, by simpa using I.len⟩
  · obtain ⟨sl, e1⟩ := I.base.slot b o e nn hb hx
    exact ⟨sl, (hs.2 b (ltL b o e)).trans e1⟩
  · obtain ⟨o', e1⟩ := I.base.there b o e hx
    exact ⟨o', (hs.2 b (ltL b o e)).trans e1⟩
  · by_cases hj : j = i
    · subst hj
      have hlt : j < σ.length := by rw [I.len]; exact (List.getElem?_eq_some_iff.mp hi).1
      rw [List.getElem?_set_self hlt] at e2
      cases e2
    · rw [List.getElem?_set_ne (Ne.symm hj)] at e2
      obtain ⟨u', r', q⟩ := hl j y v' e1 e2 e3
      refine ⟨u', r', ?_⟩
      rcases q with ⟨k, e⟩ | ⟨k, c, e, z⟩
      · refine .inl ⟨k, ?_⟩
        have : y ≠ n := fun e => hj (nodup_ix hN e1 (e ▸ hi))
        simp [this, e]
      · exact .inr ⟨k, c, e, z.sameBut hs (cne y c e)⟩
  · obtain ⟨w', z⟩ := I.cell y c e
    exact ⟨w', z.sameBut hs (cne y c e)⟩
  · obtain ⟨e, nn, ne, nf, d⟩ := I.pin p hp
    exact ⟨(hs.2 p.1 ne).trans e, nn, ne, nf, d⟩
  · refine (I.hok b ob e).stay (fun c w' hc q => (hs.2 c ?_).trans q) (fun _ q => q) fun _ _ q => q
    rintro rfl
    rcases hc with hc | hc
    · rw [← hc, I.free] at e; cases e
    · rw [I.free] at hc; cases hc

/-- try: body / except M as n: suite -/
def tTry (tb : (St → Addr → Hp → Prop) → TS) (K : PySem.W.Frag) (M : Addr) (i : Nat) (th : TS) : TS := fun D σ H =>
  tb (fun σ1 C H1 => PySem.W.exmOne K (.ref C) (.ref M) = some true ∧ ∀ x, H1 x = none → th { nx := fun σ2 H2 => D.nx (σ2.set i none) H2, rt := D.rt, bk := fun σ2 H2 => D.bk (σ2.set i none) H2, ct := fun σ2 H2 => D.ct (σ2.set i none) H2 } (σ1.set i (some (.ref x))) (upd H1 x (HO.exc x C))) D σ H
theorem ps_try {body : List Stmt} {b0 : Stmt} {suite : List Stmt} {y n : Str} {np hpos pos : Pos} {M : Addr} {i : Nat} {tb : (St → Addr → Hp → Prop) → TS} {th : TS} (hc : X.calm = true) (hex : X.ex = []) (hstk : X.stack = X.env :: X.outer) (hfr : X.env.frame = some X.env.locals)
    (hN : X.N.Nodup) (hi : X.N[i]? = some n) (hk : X.env.scope.names.lookup n = some .local) (hg : Gl X y) (hm : X.mg y = some (.ref M))
    (hb : ∀ pn T, PSs (tryCx X pn T) body (tb T)) (hh : ∀ pn x, PSs (hanCx X pn x) (b0 :: suite) th) (hdb : (y == ("__debug__" : Str)) = false := by decide) :
    PS X (.Try body [.ExceptHandler (some (.Name y np)) (some n) (b0 :: suite) hpos] [] [] pos) (tTry tb X.K M i th) := by
  intro pins s σ H D I h
  refine wpAny_Try_except ?_
  refine wpAny_mono (hb (X.pn ++ pins) _ [] s σ H D I.toPn.tryOf h) (fun f s1 q => ?_) fun e s1 q => ?_
  · have q := q.ofTry
    cases f with
    | next => exact wpAny_execs_nil q
    | brk => exact q
    | cont => exact q
    | ret u => exact q
  · obtain ⟨x, C, σ1, H1, rfl, ⟨B, hr, a0, I1, fl, up, hnew, bb, cov⟩, hit, hth⟩ := q
    have hframes : X.A.frames = some (X.env :: X.outer) := by rw [← hstk]; exact I.ok.frames
    have fl : Heap.FlyingW B (X.env :: X.outer) x (.ref C) a0 s1.heap := by rw [← hstk]; exact fl
    refine wpAny_looks_onW hframes hfr fl fun h2 held up2 => ?_
    refine wpAny_landsW held fun h3 fl3 up3 => ?_
    have fl3' : Heap.FlyingW B X.stack x (.ref C) a0 h3 := by rw [hstk]; exact fl3
    have I3 : Inv { X with pn := X.pn ++ pins } [] σ1 H1 { s1 with heap := h3 } := I1.flown fl3'.2.2.1 fl3'.1 ((up.trans up2).trans up3) bb cov
    have I3' : Inv (hanCx X (X.pn ++ pins) x) [] σ1 H1 { s1 with heap := h3 } := I3.hanOf
    obtain ⟨ob, hob, hobc⟩ := fl3.there
    refine wpAny_handleBy_cons (codeAny_handlers_test (ld_glob (X := hanCx X (X.pn ++ pins) x) (s := { s1 with heap := h3 }) I3' hg hm ?_ hdb)) (by intro q; cases q)
    refine (PySem.W.exm_one (K := X.K) (h := h3) I3.kIn (IsExc.type ⟨ob, hob, hobc⟩) hit) _ _ _ _ (fun _ _ z => z) ?_
    refine codeAny_handlers_suite_as ?_
    refine lands_againW (s := { s1 with heap := h3 }) fl3' fun h4 fl4 up4 => ?_
    have I4 : Inv { X with pn := X.pn ++ pins } [] σ1 H1 { s1 with heap := h4 } := I1.flown fl4.2.2.1 fl4.1 (((up.trans up2).trans up3).trans up4) bb cov
    have hx1 : H1 x = none := by
      cases e : H1 x with
      | none => rfl
      | some u =>
        exfalso
        have q := I1.hok x u e
        cases u with
        | lst xs => obtain ⟨_, _, _, _, e⟩ := q; rw [hnew] at e; cases e
        | tup xs => obtain ⟨_, _, _, o, h1, _⟩ := q; rw [hnew] at h1; cases h1
        | dK kvs => obtain ⟨_, _, _, _, o, _, _, e, _⟩ := q; rw [hnew] at e; cases e
        | dT kvs => obtain ⟨_, _, _, _, o, _, _, e, _⟩ := q; rw [hnew] at e; cases e
        | set S n => obtain ⟨o, _, _, _, e, _⟩ := q; rw [hnew] at e; cases e
        | ins C dx fs => obtain ⟨_, _, _, e, _⟩ := q; rw [hnew] at e; cases e
        | own y => obtain ⟨_, e⟩ := q; rw [hnew] at e; cases e
        | xd fs => obtain ⟨_, ⟨_, _, _, e, _⟩, _⟩ := q; rw [hnew] at e; cases e
        | rng lo hi => obtain ⟨_, _, _, e⟩ := q; rw [hnew] at e; cases e
        | frz ob u => obtain ⟨e, _⟩ := q; rw [hnew] at e; cases e
        | tbl ps => have q : hr.get? x = some _ := q; rw [hnew] at q; cases q
        | met f y => have q : hr.get? x = some _ := q; rw [hnew] at q; cases q
        | ext φ => obtain ⟨_, ⟨_, e⟩, _⟩ := q; rw [hnew] at e; cases e
    obtain ⟨oe, vs4, hoe, hoec, _, _⟩ := fl4.first
    have I5 : Inv { X with pn := X.pn ++ pins } [] σ1 (upd H1 x (HO.exc x C)) { s1 with heap := h4 } := by
      refine I4.track ?_ hx1 (fun z => ?_) (fun y c e z => ?_) (fun p hp z => ?_) (excOk ⟨oe, hoe, hoec⟩)
      · cases e : X.s₀.heap.get? x with
        | none => rfl
        | some o =>
          obtain ⟨o', e'⟩ := I1.base.there x o e (by show x ∉ X.ex; rw [hex]; simp)
          rw [hnew] at e'; cases e'
      · obtain ⟨_, ⟨o, _, _, ho, _⟩, _⟩ := I1.loc
        rw [z] at hnew
        have ho : hr.get? X.env.locals = some o := ho
        rw [hnew] at ho; cases ho
      · obtain ⟨v, o, ho, _⟩ := I1.cell y c e
        have ho : hr.get? c = some o := ho
        rw [z, hnew] at ho; cases ho
      · have := (I1.pin p hp).1
        have this : hr.get? p.1 = some p.2 := this
        rw [z, hnew] at this; cases this
    have I5' : Inv (hanCx X (X.pn ++ pins) x) [] σ1 (upd H1 x (HO.exc x C)) { s1 with heap := h4 } := I5.hanOf
    refine store_ok (X := hanCx X (X.pn ++ pins) x) (s := { s1 with heap := h4 }) I5' hN hi (.inl hk) (show RelV (V.ref x) (Value.ref x) from rfl) (fun s5 I6 => ?_) (.inr hk)
    refine wpAny_mono (hh (X.pn ++ pins) x [] s5 _ _ _ I6 (hth x hx1)) (fun f s6 q => ?_) fun _ _ z => z.elim
    have hcal : X.calm = true → X.A.handled = none := I.ok.hd
    cases f with
    | next =>
      obtain ⟨σ', H', I7, q⟩ := q
      exact unbind_ok (I7.ofHan hcal).ofPn hN hi hk fun s8 I8 => ⟨_, H', I8, q⟩
    | brk =>
      obtain ⟨σ', H', I7, q⟩ := q
      exact unbind_ok (I7.ofHan hcal).ofPn hN hi hk fun s8 I8 => ⟨_, H', I8, q⟩
    | cont =>
      obtain ⟨σ', H', I7, q⟩ := q
      exact unbind_ok (I7.ofHan hcal).ofPn hN hi hk fun s8 I8 => ⟨_, H', I8, q⟩
    | ret u =>
      obtain ⟨v, σ', H', I7, r, q⟩ := q
      exact unbind_ok (I7.ofHan hcal).ofPn hN hi hk fun s8 I8 => ⟨v, _, H', I8, r, q⟩
end
end
end L2

end
section
set_option Elab.async false
set_option linter.all false
set_option maxRecDepth 100000
set_option maxHeartbeats 4000000
namespace L2
open PySem PySem.Spec PyProof.Rows

/-! ### readings that compute -/
theorem PE.imp {X : Cx} {e : Expr} {t t' : TE} (h : PE X e t) (i : ∀ σ H Q, t' σ H Q → t σ H Q) : PE X e t' := fun pins s σ H Q I q => h pins s σ H Q I (i σ H Q q)
theorem PT.imp {X : Cx} {e : Expr} {t t' : TT} (h : PT X e t) (i : ∀ σ H Q, t' σ H Q → t σ H Q) : PT X e t' := fun pins s σ H Q I q => h pins s σ H Q I (i σ H Q q)
theorem PS.imp {X : Cx} {st : Stmt} {t t' : TS} (h : PS X st t) (i : ∀ D σ H, t' D σ H → t D σ H) : PS X st t' := fun pins s σ H D I q => h pins s σ H D I (i D σ H q)
theorem OpR.imp {X : Cx} {f : Value → Value → Sem Value} {r r' : R2} (h : OpR X f r) (i : ∀ x y H Q, r' x y H Q → r x y H Q) : OpR X f r' := fun pins s σ H x y v u Q I rx ry q => h pins s σ H x y v u Q I rx ry (i x y H Q q)
theorem CallR.imp {X : Cx} {f : Value} {r r' : List V → Hp → VK → Prop} (h : CallR X f r) (i : ∀ xs H Q, r' xs H Q → r xs H Q) : CallR X f r' := fun pins s σ H xs us Q I rx q => h pins s σ H xs us Q I rx (i xs H Q q)

/-- a fork -/
@[irreducible] def ifB (b : Bool) (p q : Prop) : Prop := if b = true then p else q
theorem ifB_eq (b : Bool) (p q : Prop) : ifB b p q = (if b = true then p else q) := by unfold ifB; rfl
theorem ifB.mk {b : Bool} {p q : Prop} (h1 : b = true → p) (h2 : b = false → q) : ifB b p q := by
  rw [ifB_eq]
  cases b with
  | true => rw [if_pos rfl]; exact h1 rfl
  | false => rw [if_neg Bool.false_ne_true]; exact h2 rfl
theorem ifB.yes {b : Bool} {p q : Prop} (e : b = true) (h : p) : ifB b p q := ifB.mk (fun _ => h) fun z => by rw [e] at z; cases z
theorem ifB.no {b : Bool} {p q : Prop} (e : b = false) (h : q) : ifB b p q := ifB.mk (fun z => by rw [e] at z; cases z) fun _ => h
def tV (i : Nat) : TE := fun σ H Q => match σ[i]? with | some (some v) => Q v H | _ => False
def bV (x : V) (Q : Bool → Prop) : Prop := match x with | .bl k => Q k | _ => False
def cT (t : TE) : TT := fun σ H Q => t σ H fun x H' => bV x fun k => Q k H'
def cI (f : Int → Int → V) : R2 := fun x y H Q => match x, y with | .int i, .int j => Q (f i j) H | _, _ => False
/-- .. the result as a letter -/
def cL (C : Int → Int → Prop) (f : Int → Int → Int) (F : Int → Int → Int → Prop) : R2 := fun x y H Q => match x, y with | .int i, .int j => C i j ∧ ∀ m, m = f i j → F i j m → Q (.int m) H | _, _ => False
abbrev CMod (_ j : Int) : Prop := 0 < j
theorem cpow {i j : Int} (h : (decide (0 ≤ j) && decide (j ≤ 1000000) && decide (i.natAbs < 2 ^ 64)) = true) : CPow i j := by
  simp only [Bool.and_eq_true, decide_eq_true_eq] at h
  exact ⟨h.1.1, h.1.2, h.2⟩
abbrev CFdiv (_ j : Int) : Prop := 0 < j ∧ j.natAbs.log2 < 9000
def cAtom (neg : Bool) : R2 := fun x y H Q => match x, y with
  | .int i, .int j => Q (.bl (if neg then !decide (i = j) else decide (i = j))) H
  | .str i, .str j => Q (.bl (if neg then !decide (i = j) else decide (i = j))) H
  | .bl i, .bl j => Q (.bl (if neg then !decide (i = j) else decide (i = j))) H
  | _, _ => False
section
variable {X : Cx} {a b : Expr} {ta tb : TE} {pos : Pos}
theorem tV_var {i : Nat} {σ : St} {H : Hp} {Q : VK} (h : tV i σ H Q) : tVar i σ H Q := by
  unfold tV at h
  split at h
  · rename_i v e; exact ⟨v, e, h⟩
  · exact h.elim
theorem qv (i : Nat) {x : Str} {pos : Pos} (hN : X.N[i]? = some x := by rfl) (hv : Vis X.env.scope x := by first | exact Or.inl rfl | exact Or.inr (Or.inl rfl) | exact Or.inr (Or.inr rfl)) (hd : (x == ("__debug__" : Str)) = false := by decide)
    (hcd : (x == ("__classdict__" : Str)) = false := by decide) : PE X (.Name x pos) (tV i) := (pe_var hN hv hd hcd).imp fun _ _ _ h => tV_var h
theorem cI_of {f : Int → Int → V} {x y : V} {H : Hp} {Q : VK} (h : cI f x y H Q) : rI0 f x y H Q := by
  unfold cI at h
  split at h
  · exact ⟨_, _, rfl, rfl, h⟩
  · exact h.elim
theorem q_add : OpR X (binaryOp .Add) (cI fun i j => .int (i + j)) := op_add.imp fun _ _ _ _ => cI_of
theorem cL_of {C : Int → Int → Prop} {f : Int → Int → Int} {F : Int → Int → Int → Prop} (hF : ∀ i j, C i j → F i j (f i j)) {x y : V} {H : Hp} {Q : VK} (h : cL C f F x y H Q) : rI C (fun i j => .int (f i j)) x y H Q := by
  unfold cL at h
  split at h
  · exact ⟨_, _, rfl, rfl, h.1, h.2 _ rfl (hF _ _ h.1)⟩
  · exact h.elim
theorem q_mul : OpR X (binaryOp .Mult) (cL CMul (fun i j => i * j) fun _ _ _ => True) := op_mul.imp fun _ _ _ _ => cL_of fun _ _ _ => trivial
theorem q_mod : OpR X (binaryOp .Mod) (cL CMod (fun i j => i % j) fun _ j m => 0 ≤ m ∧ m < j) := op_mod.imp fun _ _ _ _ h => cL_of (fun i j hj => ⟨Int.emod_nonneg _ (by have : 0 < j := hj; omega), Int.emod_lt_of_pos _ hj⟩) h
theorem q_fdiv : OpR X (binaryOp .FloorDiv) (cL CFdiv (fun i j => i / j) fun _ _ _ => True) := by
  intro pins s σ H x y v u Q I rx ry h
  obtain ⟨i, j, rfl, rfl, ⟨h0, h1⟩, q⟩ := cL_of (fun _ _ _ => trivial) h
  obtain ⟨t, rfl⟩ := rx
  obtain ⟨t', rfl⟩ := ry
  refine floordiv_int (by omega) ?_ (.inl (PyProof.noPylong_of_log2 h1))
  rw [Int.fdiv_eq_ediv_of_nonneg _ (by omega)]
  exact ⟨.int _, H, I.tok _, ⟨_, rfl⟩, q⟩
theorem q_pow : OpR X (binaryOp .Pow) (cL CPow (fun i j => i ^ j.toNat) fun _ _ _ => True) := op_pow.imp fun _ _ _ _ => cL_of fun _ _ _ => trivial
theorem q_le : OpR X (compareOp .LtE) (cI fun i j => .bl (decide (i ≤ j))) := op_le.imp fun _ _ _ _ => cI_of
theorem q_ge : OpR X (compareOp .GtE) (cI fun i j => .bl (decide (j ≤ i))) := op_ge.imp fun _ _ _ _ => cI_of
theorem dI {i j : Int} : decide (i = j) = (i == j) := by rw [Bool.eq_iff_iff]; simp
theorem dB {i j : Bool} : decide (i = j) = (i == j) := by rw [Bool.eq_iff_iff]; simp
theorem dS {i j : Str} : decide (i = j) = (i == j) := by rw [Bool.eq_iff_iff]; simp
theorem ifB_t {p q : Prop} (h : ifB true p q) : p := by rw [ifB_eq, if_pos rfl] at h; exact h
theorem ifB_f {p q : Prop} (h : ifB false p q) : q := by rw [ifB_eq, if_neg Bool.false_ne_true] at h; exact h
theorem q_eq : OpR X (compareOp .Eq) (cAtom false) := by
  intro pins s σ H x y v u Q I rx ry h
  unfold cAtom at h
  split at h
  · obtain ⟨t, rfl⟩ := rx; obtain ⟨t', rfl⟩ := ry; exact SeqAt.RcAt.int_int _ t _ t' _ _ _ _ (fin_bl I h (by rw [if_neg (by decide)]; exact dI))
  · obtain ⟨t, rfl⟩ := rx; obtain ⟨t', rfl⟩ := ry; exact SeqAt.RcAt.str_str _ t _ t' _ _ _ _ (fin_bl I h (by rw [if_neg (by decide)]; exact dS))
  · cases rx; cases ry; exact SeqAt.RcAt.bool_bool _ _ _ _ _ _ (fin_bl I h (by rw [if_neg (by decide)]; exact dB))
  · exact h.elim
/-! tests -/
theorem bV_ex {x : V} {Q : Bool → Prop} (h : bV x Q) : ∃ k, x = .bl k ∧ Q k := by
  cases x with
  | bl k => exact ⟨k, rfl, h⟩
  | _ => exact False.elim h
theorem pt_e {e : Expr} {t : TE} (h : PE X e t) (he : ∀ whole, isTrue e X.env whole = (do let v ← whole; standAt e.pos; holding [v] (truthy v)) := by intro _; rfl) : PT X e (cT t) := by
  intro pins s σ H Q I hw
  rw [he]
  refine wpAny_bind (thn (h pins s σ H _ I hw) fun v s1 ⟨x, H1, I1, r1, q1⟩ => wpAny_bind (wpAny_standAt (wpAny_holding ?_)))
  obtain ⟨k, rfl, q⟩ := bV_ex q1
  cases r1
  exact wpAny_truthy_bool ⟨H1, I1, q⟩
theorem pt_c {op : CmpOp} {r : R2} (ho : OpR X (compareOp op) r) (ha : PE X a ta) (hb : PE X b tb) (hm : behindInMarks op b = false := by first | exact nomark _ | rfl) : PT X (.Compare a [op] [b] pos) (cT (tOp r ta tb)) := by
  intro pins s σ H Q I hw
  refine wpAny_isTrue_Compare1 (thn (ha pins s σ H _ I hw) fun v s1 ⟨x, H1, I1, r1, q1⟩ => thn (hb pins s1 σ H1 _ I1 q1) fun u s2 ⟨y, H2, I2, r2, q2⟩ =>
    thn (ho pins s2 σ H2 x y v u _ I2 r1 r2 q2) fun c s3 ⟨z, H3, I3, r3, q3⟩ => ?_) hm
  obtain ⟨k, rfl, q⟩ := bV_ex q3
  cases r3
  exact wpAny_truthy_bool ⟨H3, I3, q⟩
/-- a op1 b op2 c, as a test and as a value -/
def cChain (r r' : R2) (ta tb tc : TE) : TE := fun σ H Q => ta σ H fun x H1 => tb σ H1 fun y H2 => r x y H2 fun z H3 => bV z fun k => ifB k (tc σ H3 fun u H4 => r' y u H4 Q) (Q (.bl false) H3)
theorem pt_ch {op op' : CmpOp} {r r' : R2} {c : Expr} {tc : TE} (ho : OpR X (compareOp op) r) (ho' : OpR X (compareOp op') r') (ha : PE X a ta) (hb : PE X b tb) (hc : PE X c tc)
    (hm : lastMarks [op, op'] [b, c] = false := by with_unfolding_all rfl) : PT X (.Compare a [op, op'] [b, c] pos) (cT (cChain r r' ta tb tc)) := by
  intro pins s σ H Q I h
  refine isTrue_chain (thn (ha pins s σ H _ I h) fun v s1 ⟨x, H1, I1, r1, q1⟩ => test_link (thn (hb pins s1 σ H1 _ I1 q1) fun u s2 ⟨y, H2, I2, r2, q2⟩ =>
    thn (ho pins s2 σ H2 x y v u _ I2 r1 r2 q2) fun d s3 ⟨z, H3, I3, r3, q3⟩ => ?_)) hm
  obtain ⟨k, rfl, q⟩ := bV_ex q3
  cases r3
  refine wpAny_truthy_bool ?_
  cases k with
  | false => exact ite_ff ⟨H3, I3, ifB_f q⟩
  | true =>
    refine ite_tt (test_last (thn (hc pins s3 σ H3 _ I3 (ifB_t q)) fun w' s4 ⟨z', H4, I4, r4, q4⟩ => thn (ho' pins s4 σ H4 y z' u w' _ I4 r2 r4 q4) fun d' s5 ⟨z2, H5, I5, r5, q5⟩ => ?_))
    obtain ⟨k2, rfl, q6⟩ := bV_ex q5
    cases r5
    exact wpAny_truthy_bool ⟨H5, I5, q6⟩
def cIf (c : TT) (t u : TS) : TS := fun D σ H => c σ H fun b H1 => ifB b (t D σ H1) (u D σ H1)
theorem ps_c {c : Expr} {a b : List Stmt} {tc : TT} {t u : TS} {pos : Pos} (hc : PT X c tc) (ha : PSs X a t) (hb : PSs X b u) : PS X (.If c a b pos) (cIf tc t u) := by
  intro pins s σ H D I h
  refine wpAny_If (thn (hc pins s σ H _ I h) fun d s1 ⟨H1, I1, q1⟩ => ?_)
  cases d with
  | true => exact ha pins s1 σ H1 D I1 (ifB_t q1)
  | false => exact hb pins s1 σ H1 D I1 (ifB_f q1)
def cOr (t u : TT) : TT := fun σ H Q => t σ H fun c H1 => ifB c (Q true H1) (u σ H1 Q)
section
variable {rest : List Expr} {tA tB : TT}
theorem qw_or1 (ha : PT X a tA) : PW X (.BoolOp .Or [a] pos) tA := pw_or1 ha
theorem pw_orR (ha : PT X a tA) (hb : PW X (.BoolOp .Or (b :: rest) pos) tB) : PW X (.BoolOp .Or (a :: b :: rest) pos) (cOr tA tB) := by
  intro whole pins s σ H Q I h
  exact pw_or (X := X) (tA := fun σ H Q => tA σ H fun c H1 => Q c H1) (tB' := tB) ha hb whole pins s σ H Q I (by
    have e : (fun (c : Bool) (H1 : Hp) => if c = true then Q true H1 else tB σ H1 Q) = fun c H1 => ifB c (Q true H1) (tB σ H1 Q) := by funext c H1; rw [ifB_eq]
    show tA σ H (fun (c : Bool) (H1 : Hp) => if c = true then Q true H1 else tB σ H1 Q)
    rw [e]; exact h)
/-! as values: of bools -/
end
/-! if as an expression -/
end
end L2

end
section
set_option Elab.async false
set_option linter.all false
set_option maxRecDepth 100000
set_option maxHeartbeats 4000000
namespace L2
open PySem PySem.Spec PyProof.Rows
theorem bt_len : bootBuiltins "len" = some (.builtin "len") := by decide +kernel
theorem bt_abs : bootBuiltins "abs" = some (.builtin "abs") := by decide +kernel
theorem bt_isinstance : bootBuiltins "isinstance" = some (.builtin "isinstance") := by decide +kernel
theorem bt_ValueError : bootBuiltins "ValueError" = some (.type "ValueError") := by decide +kernel
theorem bt_enumerate : bootBuiltins "enumerate" = some (.type "enumerate") := by decide +kernel

/-! ### heaps: what a store keeps -/
theorem keepN {H : Hp} {a p : Addr} {o u : HO} (h : H a = some o) (n : H p = none) : upd H p u a = some o := by rw [upd_ne (ne_of_none h n)]; exact h
theorem keepK {H : Hp} {a p : Addr} {o u v : HO} (h : H a = some o) (n : H p = some v) (d : o ≠ v) : upd H p u a = some o := by rw [upd_ne (ne_of h n d)]; exact h
section
variable {X : Cx} {pins : List (Addr × Obj)} {σ : St} {H : Hp} {s : Shared}
/-- several records of ours have turned -/
theorem Inv.turnedL {h' : Heap} {t' : Nat} {fp : List Addr} (I : Inv X pins σ H s) (k : ∀ b o, b ∉ fp → s.heap.get? b = some o → h'.get? b = some o) (hf : ∀ b ∈ fp, FpOk X pins H b) : Inv X pins σ H { s with heap := h', toks := t' } := by
  have nit : ∀ b u, H b = some u → b ∉ fp := fun b u e z => by rw [(hf b z).1] at e; cases e
  refine I.step (g' := s.gens) (d' := s.drawn) (ch := fp) (fun b hb => ?_) (fun b o _ _ hc e _ => k b o hc e) (fun b o _ _ hc e _ => ⟨o.slots, k b o hc e⟩) (fun _ _ _ _ n => n)
    (fun b o hc e => ⟨o, k b o hc e⟩) (fun _ _ e => e) (fun _ _ _ e => e) (fun b ps e => ⟨#[], by rw [e]; simp⟩) (fun m hm => ?_) (fun b u e => ?_) I.bare
  · obtain ⟨f0, f1, f2, f3, f4, f5⟩ := hf b hb
    exact ⟨f3, f1, f4, f5⟩
  · obtain ⟨o, es, ep, ho, r⟩ := hm
    exact ⟨o, es, ep, k _ o (fun z => (hf _ z).2.1 rfl) ho, r⟩
  · refine (I.hok b u e).stay (fun c v hc q => k c v ?_ q) (fun _ q => q) fun _ _ q => q
    rcases hc with z | z
    · rw [z]; exact nit b u e
    · exact nit c _ z
/-- a new object, that stands behind the turn, is tracked -/
theorem Inv.trackNew {s' : Shared} {p : Addr} {o : HO} (I : Inv X pins σ H s) (I' : Inv X pins σ H s') (hp : s.heap.objs.size ≤ p) (new : ObjOk X.prog X.w (upd H p o) s'.heap p o) : H p = none ∧ Inv X pins σ (upd H p o) s' := by
  have hn := I.hok.fresh hp
  refine ⟨hn, I'.track (Heap.get?_none_of_le (Nat.le_trans I.sz hp)) hn (Ne.symm (Nat.ne_of_lt (Nat.lt_of_lt_of_le I.lt hp))) (fun y c e z => ?_) (fun q hq z => ?_) new⟩
  · obtain ⟨v, o, ho, _⟩ := I.cell y c e
    exact absurd (Nat.lt_of_lt_of_le (Heap.lt_size ho) (by rw [z]; exact hp)) (Nat.lt_irrefl _)
  · exact absurd (Nat.lt_of_lt_of_le (Heap.lt_size (I.pin q hq).1) (by rw [z]; exact hp)) (Nat.lt_irrefl _)
end
/-! ### for a, b in enumerate(xs) -/
def Ite (K : PySem.W.Frag) (a : Addr) : It where
  go := fun i H => ∃ xs x, SqL K H a xs ∧ xs[i]? = some x
  yld := fun i H v H' => ∃ p x, H p = none ∧ v = .ref p ∧ H' = upd H p (.tup [.int i, x]) ∧ ∀ ys, SqL K H a ys → ys[i]? = some x
  stop := fun i H => ∃ xs, SqL K H a xs ∧ xs.length ≤ i
theorem turn_enum {P : Program} {w : World} {K : PySem.W.Frag} {elts : List Expr} {x1 : Nat} {tp : Pos} (a e it : Addr) (hei : e ≠ it) : Turn P w K (.Tuple elts x1 tp) (Ite K a) [e, it] e (fun i h => (∃ old, IsEnum h e it i old) ∧ h.IsListIter it a i) where
  mem := by simp
  obj := fun i h st b hb => by
    obtain ⟨⟨old, he⟩, o, ho, hc, hd⟩ := st
    rcases List.mem_cons.mp hb with z | z
    · subst z; exact ⟨_, he, fun v z => by
        have z' : Data.fields _ = Data.cell v := z
        cases z'⟩
    · have z : b = it := by simpa using z
      subst z; exact ⟨o, ho, fun v z => by rw [hd] at z; cases z⟩
  keep := fun i h h' st k => ⟨let ⟨old, he⟩ := st.1; ⟨old, k e (by simp) _ he⟩, st.2.at fun o q => k it (by simp) o q⟩
  item := by
    intro X hP hw hK hc i pins s σ H E I hf st hg
    subst hP hw hK
    obtain ⟨xs, x, hq, hx⟩ := hg
    obtain ⟨its, rv, p, hz⟩ := I.list hq
    obtain ⟨u, hu, ru⟩ := rv.get hx
    obtain ⟨⟨old, he⟩, hit⟩ := st
    refine wpAny_pyNext_enum_item he hit p.isList (x := u) (by simpa using hu) hei fun h1 he1 hit1 ht1 hz1 hk1 => ⟨_, rfl, ?_⟩
    refine wpAny_letOwnedTupleGo_enum he1 fun h2 he2 hs2 => ?_
    have hs2 : Heap.SameBut e h1 h2 := hs2
    have hlt : e < s.heap.objs.size := Heap.lt_size he
    have hk2 : ∀ b o, b ∉ [e, it] → s.heap.get? b = some o → h2.get? b = some o := fun b o hb q => by
      simp only [List.mem_cons, List.not_mem_nil, or_false, not_or] at hb
      exact hs2.extBut b o hb.1 (hk1 b o hb.1 hb.2 q)
    have I2 : Inv X pins σ H { s with heap := h2, toks := s.toks + 1 } := I.turnedL hk2 hf
    have ht2 : h2.get? s.heap.objs.size = some { cls := .type "tuple", data := .seq #[.int i s.toks, u] } := hs2.extBut _ _ (Nat.ne_of_gt hlt) ht1
    obtain ⟨hn, I3⟩ := I.trackNew (o := .tup [.int i, x]) I2 (Nat.le_refl _) ⟨by show 2 ≤ sizeLine; decide, [.int i s.toks, u], .cons ⟨_, rfl⟩ (.cons ru .nil), ⟨_, ht2, rfl, _, rfl⟩⟩
    refine ⟨.ref s.heap.objs.size, _, I3, rfl, ⟨_, x, hn, rfl, rfl, fun ys hy => by rw [I.list_inj hy hq]; exact hx⟩, ⟨⟨u, ?_⟩, ?_⟩, fun b hb => ?_⟩
    · have : ((i + 1 : Nat) : Int) = (i : Int) + 1 := by push_cast; rfl
      rw [this]; exact he2
    · exact hit1.extBut hs2.extBut (Ne.symm hei)
    · obtain ⟨o, ho, _⟩ := id hit
      have hb' : b < s.heap.objs.size := by
        rcases List.mem_cons.mp hb with z | z
        · rw [z]; exact hlt
        · have z : b = it := by simpa using z
          obtain ⟨oi, hoi, _⟩ := id hit
          rw [z]; exact Heap.lt_size hoi
      rw [upd_ne (Nat.ne_of_lt hb')]
      exact (hf b hb).1
  done := by
    intro X hP hw hK hc i pins s σ H E I hf st hg
    subst hP hw hK
    obtain ⟨xs, hq, hx⟩ := hg
    obtain ⟨its, rv, p, hz⟩ := I.list hq
    obtain ⟨⟨old, he⟩, hit⟩ := st
    have hl := rv.length
    refine wpAny_pyNext_enum_end (I.ok.hd hc) he hit p.isList (by simp; omega) fun h' eb => ⟨rfl, I.turnedL (t' := s.toks) (fun b o hb q => eb b o (fun z => hb (by simp [z])) q) hf⟩
  self := fun _ _ _ _ _ st h => by obtain ⟨⟨old, he⟩, _⟩ := st; exact wpAny_pyIter_enum he h
section
variable {X : Cx}
def iEnum (K : PySem.W.Frag) (ta : TA) : TI := fun σ H R => ta σ H fun vs H1 => match vs with | [.ref a] => (∃ xs, SqL K H1 a xs) ∧ R (Ite K a) H1 | _ => False
theorem pi_enum {a : Expr} {ta : TA} {p pos : Pos} {elts : List Expr} {x1 : Nat} {tp : Pos} (hg : Gl X "enumerate") (hm : X.mg "enumerate" = none) (ha : PA X [a] ta) (hs : starEach [a] X.env = [(false, eval a X.env)] := by rfl) : PI X (.Tuple elts x1 tp) (.Call (.Name "enumerate" p) [a] [] pos) (iEnum X.K ta) := by
  intro pins s σ H R I h
  refine Call_ (ld_blt I hg hm bt_enumerate (PyProof.Rows.callWith_type1 (thn (ha pos pins s σ H _ I h) fun us s1 ⟨vs, H1, I1, r1, q1⟩ => ?_) hs rfl))
  obtain ⟨l, rfl, hq, q⟩ : ∃ l, vs = [.ref l] ∧ (∃ xs, SqL X.K H1 l xs) ∧ R (Ite X.K l) H1 := by
    dsimp only at q1
    split at q1
    · exact ⟨_, rfl, q1⟩
    · exact q1.elim
  obtain ⟨xs, hq⟩ := hq
  cases r1 with
  | cons r rr =>
    cases rr
    cases r
    obtain ⟨its, rv, pl, hz⟩ := I1.list hq
    refine call_enumerate_list pl.isList fun h' he hit hsz hk => ?_
    refine wpAny_pyIter_enum he ?_
    have I2 : Inv X pins σ H1 { s1 with heap := h' } := I1.kept (t' := s1.toks) hk
    refine ⟨s1.heap.objs.size + 1, [s1.heap.objs.size + 1, s1.heap.objs.size], _, _, H1, rfl, I2, turn_enum l _ _ (Nat.succ_ne_self _), ⟨⟨_, he⟩, hit⟩, fun b hb => ?_, q⟩
    rcases List.mem_cons.mp hb with z | z
    · subst z; exact I1.fpOk (Nat.le_succ _) (I1.hok.fresh (Nat.le_succ _))
    · have z : b = s1.heap.objs.size := by simpa using z
      subst z; exact I1.fpOk (Nat.le_refl _) (I1.hok.fresh (Nat.le_refl _))
end
theorem for_enum {K : PySem.W.Frag} {a : Addr} {xs : List V} {g : TG} {tb : TS} {D : Ends} {σ : St} {H : Hp} (Pv : Nat → St → Hp → Prop) (h0 : Pv 0 σ H) (hl : ∀ i σ H, i ≤ xs.length → Pv i σ H → SqL K H a xs)
    (hs : ∀ i x σ H p, xs[i]? = some x → Pv i σ H → H p = none → g (.ref p) σ (upd H p (.tup [.int i, x])) fun σ2 H2 => tb { D with nx := Pv (i + 1), ct := Pv (i + 1), bk := D.nx } σ2 H2) (hd : ∀ σ H, Pv xs.length σ H → D.nx σ H) :
    ∃ W : Nat → Nat → St → Hp → Prop, (∃ m, W 0 m σ H) ∧ ∀ i m σ H, W i m σ H →
      ((Ite K a).stop i H ∧ D.nx σ H) ∨ ((Ite K a).go i H ∧ ∃ N : St → Hp → Prop, (∀ σ' H', N σ' H' → ∃ m', m' < m ∧ W (i + 1) m' σ' H') ∧ ∀ x H', (Ite K a).yld i H x H' → g x σ H' fun σ2 H2 => tb { D with nx := N, ct := N, bk := D.nx } σ2 H2) := by
  refine ⟨fun i m σ H => m = xs.length - i ∧ i ≤ xs.length ∧ Pv i σ H, ⟨xs.length, by simp, Nat.zero_le _, h0⟩, ?_⟩
  rintro i m σ H ⟨rfl, hi, p⟩
  have q := hl i σ H hi p
  by_cases hlt : i < xs.length
  · refine .inr ⟨⟨xs, xs[i], q, by simp [hlt]⟩, Pv (i + 1), fun σ' H' p' => ⟨xs.length - (i + 1), by omega, rfl, hlt, p'⟩, fun x H' y => ?_⟩
    obtain ⟨pp, z, hn, rfl, rfl, hy⟩ := y
    exact hs i z σ H pp (hy xs q) p hn
  · have e : i = xs.length := by omega
    subst e
    exact .inl ⟨⟨xs, q, Nat.le_refl _⟩, hd σ H p⟩
/-! ### ''.join(xs), all(xs) -/
section
variable {X : Cx}
def strsV : List V → Option (List Str)
  | [] => some []
  | .str x :: r => (strsV r).map (x :: ·)
  | _ => none
theorem strs_are : ∀ {vs : List V} {us : List Value} {ys : List Str}, Vals vs us → strsV vs = some ys → StrsAre us ys
  | _, _, _, .nil, e => by cases e; exact .nil
  | .str x :: vs, u :: us, ys, .cons r t, e => by
    obtain ⟨tk, rfl⟩ := r
    simp only [strsV, Option.map_eq_some_iff] at e
    obtain ⟨zs, e1, rfl⟩ := e
    exact .cons _ _ (strs_are t e1)
def rJoin (K : PySem.W.Frag) : V → List V → Hp → VK → Prop := fun x vs H Q => match x, vs with
  | .str z, [.ref a] => ∃ xs ys, SqL K H a xs ∧ strsV xs = some ys ∧ (ys.map (·.length)).sum + ys.length * z.length ≤ 16777216 ∧ Q (.str (Txt.join z ys)) H
  | _, _ => False
theorem mt_join : MtR X "str.join" (rJoin X.K) := by
  intro pins s σ H x vs v us Q I rx rv h
  unfold rJoin at h
  split at h
  · rename_i z a
    obtain ⟨xs, ys, hq, hs, hl, q⟩ := h
    obtain ⟨t, rfl⟩ := rx
    cases rv with
    | cons r rr =>
      cases rr
      cases r
      obtain ⟨its, rr, p, _⟩ := I.list hq
      exact join_list p.isList (strs_are rr hs) hl fun t' k => ⟨.str _, H, I.tok _, ⟨_, rfl⟩, q⟩
  · exact h.elim
end
end L2

end
section
set_option Elab.async false
set_option linter.all false
set_option maxRecDepth 100000
set_option maxHeartbeats 4000000
namespace L2
open PySem PySem.Spec PyProof.Rows
theorem IxR.imp {X : Cx} {r r' : R2} (h : IxR X r) (i : ∀ x y H Q, r' x y H Q → r x y H Q) : IxR X r' := fun a b pins s σ H x y v u Q I rx ry q e => h a b pins s σ H x y v u Q I rx ry (i x y H Q q) e
theorem MtR.imp {X : Cx} {id : String} {r r' : V → List V → Hp → VK → Prop} (h : MtR X id r) (i : ∀ x xs H Q, r' x xs H Q → r x xs H Q) : MtR X id r' := fun pins s σ H x xs v us Q I rx rv q => h pins s σ H x xs v us Q I rx rv (i x xs H Q q)
theorem PSet.imp {X : Cx} {t t' : TSet} (h : PSet X t) (i : ∀ o j v H Q, t' o j v H Q → t o j v H Q) : PSet X t' := fun pins s σ H o j v ov iv u Q I ro ri rv q => h pins s σ H o j v ov iv u Q I ro ri rv (i o j v H Q q)
theorem SlR.imp {X : Cx} {r r' : V → Option Int → Option Int → Hp → VK → Prop} (h : SlR X r) (i : ∀ x l u H Q, r' x l u H Q → r x l u H Q) : SlR X r' := fun pins s σ H x v vl vu lo hi sl Q I rx hs pl pu q => h pins s σ H x v vl vu lo hi sl Q I rx hs pl pu (i _ _ _ _ _ q)
theorem upd_sub {H H' : Hp} {p : Addr} {o : HO} (n : H p = none) (e : upd H p o = H') : Sub H H' ∧ H' p = some o := by subst e; exact ⟨Sub.new n, upd_same⟩
/-- a global's value -/
def CV (mg : Str → Option Value) (x : Str) (v : V) : Prop := ∃ u, mg x = some u ∧ RelV v u
section
variable {X : Cx} {a b : Expr} {ta tb : TE} {pos : Pos}
theorem pe_cv {x : Str} {v : V} {pos : Pos} (hg : Gl X x) (h : CV X.mg x v) (hd : (x == ("__debug__" : Str)) = false := by decide) : PE X (.Name x pos) (tC v) := by
  obtain ⟨u, h1, h2⟩ := h
  exact pe_glob hg h1 h2 hd
def cIxL (K : PySem.W.Frag) : R2 := fun x y H Q => match x, y with | .ref p, .int i => ∃ xs v, SqL K H p xs ∧ atI xs i = some v ∧ Q v H | _, _ => False
def cIxS : R2 := fun x y H Q => match x, y with | .str z, .int i => ∃ c, z.length ≤ sizeLine ∧ atI z.cps.toList i = some c ∧ Q (.str ⟨#[c]⟩) H | _, _ => False
theorem q_ixL : IxR X (cIxL X.K) := ix_list.imp fun x y H Q h => by
  unfold cIxL at h
  split at h
  · obtain ⟨xs, v, h1, h2, h3⟩ := h; exact ⟨_, xs, _, v, rfl, rfl, h1, h2, h3⟩
  · exact h.elim
theorem q_ixS : IxR X cIxS := ix_str.imp fun x y H Q h => by
  unfold cIxS at h
  split at h
  · obtain ⟨c, h1, h2, h3⟩ := h; exact ⟨_, _, c, rfl, rfl, h1, h2, h3⟩
  · exact h.elim
def cSetL : TSet := fun o i v H Q => match o, i with | .ref p, .int k => ∃ xs j, H p = some (.lst xs) ∧ ixN xs.length k = some j ∧ Q (upd H p (.lst (xs.set j v))) | _, _ => False
theorem q_setL : PSet X cSetL := set_list.imp fun o i v H Q h => by
  unfold cSetL at h
  split at h
  · obtain ⟨xs, j, h1, h2, h3⟩ := h; exact ⟨_, xs, _, j, rfl, rfl, h1, h2, h3⟩
  · exact h.elim
def cCat : R2 := fun x y H Q => match x, y with | .ref l, .ref b => ∃ xs zs, H l = some (.lst xs) ∧ H b = some (.lst zs) ∧ xs.length + zs.length ≤ sizeLine ∧ ∀ p, H p = none → Q (.ref p) (upd H p (.lst (xs ++ zs))) | _, _ => False
theorem q_cat : OpR X (binaryOp .Add) cCat := op_cat.imp fun x y H Q h => by
  unfold cCat at h
  split at h
  · obtain ⟨xs, zs, h⟩ := h; exact ⟨_, _, xs, zs, rfl, rfl, h⟩
  · exact h.elim
def cRep : R2 := fun x y H Q => match x, y with | .ref l, .int k => ∃ xs, H l = some (.lst xs) ∧ -(2 ^ 63) ≤ k ∧ k < 2 ^ 63 ∧ xs.length * k.toNat ≤ sizeLine ∧ ∀ p, H p = none → Q (.ref p) (upd H p (.lst (List.replicate k.toNat xs).flatten)) | _, _ => False
theorem q_rep : OpR X (binaryOp .Mult) cRep := op_rep.imp fun x y H Q h => by
  unfold cRep at h
  split at h
  · obtain ⟨xs, h⟩ := h; exact ⟨_, _, xs, rfl, rfl, h⟩
  · exact h.elim
def cSlL (K : PySem.W.Frag) : V → Option Int → Option Int → Hp → VK → Prop := fun x lo hi H Q => match x with | .ref a => ∃ xs, SqL K H a xs ∧ ∀ p, H p = none → Q (.ref p) (upd H p (.lst (cutV xs lo hi))) | _ => False
theorem q_slL : SlR X (cSlL X.K) := sl_list.imp fun x lo hi H Q h => by
  unfold cSlL at h
  split at h
  · obtain ⟨xs, h⟩ := h; exact ⟨_, xs, rfl, h⟩
  · exact h.elim
def cLen (K : PySem.W.Frag) : List V → Hp → VK → Prop := fun xs H Q => match xs with | [.ref p] => ∃ ys, (SqL K H p ys ∨ SqT K H p ys) ∧ Q (.int ys.length) H | _ => False
theorem q_len : CallR X (.builtin "len") (cLen X.K) := call_len_seq.imp fun xs H Q h => by
  unfold cLen at h
  split at h
  · obtain ⟨ys, h⟩ := h; exact ⟨_, ys, rfl, h⟩
  · exact h.elim
def cAbs : List V → Hp → VK → Prop := fun xs H Q => match xs with | [.int i] => ∀ m, m = (if i < 0 then -i else i) → Q (.int m) H | _ => False
theorem q_abs : CallR X (.builtin "abs") cAbs := call_abs.imp fun xs H Q h => by
  unfold cAbs at h
  split at h
  · exact ⟨_, rfl, h _ rfl⟩
  · exact h.elim
def cApp : V → List V → Hp → VK → Prop := fun x vs H Q => match x, vs with | .ref l, [y] => ∃ xs, H l = some (.lst xs) ∧ xs.length < sizeLine ∧ Q .non (upd H l (.lst (xs ++ [y]))) | _, _ => False
theorem q_app : MtR X "list.append" cApp := MtR.imp (r := rAppend) mt_append fun x vs H Q h => by
  unfold cApp at h
  split at h
  · obtain ⟨xs, h⟩ := h; exact ⟨_, xs, _, rfl, rfl, h⟩
  · exact h.elim
def cIsi (K : PySem.W.Frag) : List V → Hp → VK → Prop := fun xs H Q => match xs with | [x, c] => ∃ t b, TyX K H x t ∧ isClsV c = true ∧ PySem.W.kitOne K t (clsV c) = some b ∧ Q (.bl b) H | _ => False
theorem q_isi : CallR X (.builtin "isinstance") (cIsi X.K) := call_isi.imp fun xs H Q h => by
  unfold cIsi at h
  split at h
  · obtain ⟨t, b, h⟩ := h; exact ⟨_, _, t, b, rfl, h⟩
  · exact h.elim
def cIn (K : PySem.W.Frag) (neg : Bool) : R2 := fun x y H Q => match y with | .ref p => ∃ xs, (SqL K H p xs ∨ SqT K H p xs) ∧ flatV x = true ∧ xs.all flatV = true ∧ Q (.bl (if neg then !inV x xs else inV x xs)) H | _ => False
theorem q_in : OpR X (compareOp .In) (cIn X.K false) := op_in_seq.imp fun x y H Q h => by
  unfold cIn at h
  split at h
  · obtain ⟨xs, h⟩ := h; exact ⟨_, xs, rfl, h⟩
  · exact h.elim
/-! loops over a list, a range: computing -/
def cList (K : PySem.W.Frag) (tl : TE) : TI := fun σ H R => tl σ H fun x H1 => match x with | .ref a => (∃ xs, SqL K H1 a xs) ∧ R (Itl K a) H1 | _ => False
theorem qi_list {tg l : Expr} {tl : TE} (hl : PE X l tl) : PI X tg l (cList X.K tl) := by
  intro pins s σ H R I h
  refine thn (hl pins s σ H _ I h) fun v s1 ⟨x, H1, I1, r1, q1⟩ => ?_
  obtain ⟨a, rfl, ⟨xs, hq⟩, q⟩ : ∃ a, x = .ref a ∧ (∃ xs, SqL X.K H1 a xs) ∧ R (Itl X.K a) H1 := by
    dsimp only at q1
    split at q1
    · exact ⟨_, rfl, q1⟩
    · exact q1.elim
  cases r1
  obtain ⟨its, rv, p, hz⟩ := I1.list hq
  refine wpAny_pyIter_list p.isList ?_
  refine ⟨s1.heap.objs.size, [s1.heap.objs.size], _, _, H1, rfl, I1.kept (t' := s1.toks) fun b o e => Heap.get?_push_of_some _ e, turn_list a _, ⟨_, Heap.get?_push_size _ rfl, rfl, rfl⟩, fun b hb => ?_, q⟩
  have e : b = s1.heap.objs.size := by simpa using hb
  subst e
  exact I1.fpOk (Nat.le_refl _) (I1.hok.fresh (Nat.le_refl _))
def cRng1 (ta : TA) : TI := fun σ H R => ta σ H fun vs H1 => match vs with | [.int j] => (-(2 ^ 62) ≤ j ∧ j < 2 ^ 62) ∧ R (Itr 0 j.toNat) H1 | _ => False
theorem qi_range1 {tg a : Expr} {ta : TA} {p pos : Pos} (hg : Gl X "range") (hm : X.mg "range" = none) (ha : PA X [a] ta) (hs : starEach [a] X.env = [(false, eval a X.env)] := by rfl) : PI X tg (.Call (.Name "range" p) [a] [] pos) (cRng1 ta) := by
  intro pins s σ H R I h
  refine Call_ (ld_blt I hg hm boot_range (PyProof.Rows.callWith_type1 (thn (ha pos pins s σ H _ I h) fun us s1 ⟨vs, H1, I1, r1, q1⟩ => ?_) hs rfl))
  obtain ⟨j, rfl, ⟨q1, q2⟩, q⟩ : ∃ j, vs = [.int j] ∧ (-(2 ^ 62) ≤ j ∧ j < 2 ^ 62) ∧ R (Itr 0 j.toNat) H1 := by
    dsimp only at q1
    split at q1
    · exact ⟨_, rfl, q1⟩
    · exact q1.elim
  cases r1 with
  | cons r rr =>
    cases rr
    obtain ⟨t, rfl⟩ := r
    exact call_range_1 (range_it I1 (by omega) (by omega) q1 q2 (by simpa using q))
end
/-! ### targets and slice bounds that compute -/
section
variable {X : Cx}
def cgNil : TGs := fun vs σ H Q => match vs with | [] => Q σ H | _ => False
def cgCons (t : TG) (u : TGs) : TGs := fun vs σ H Q => match vs with | v :: r => t v σ H fun σ' H' => u r σ' H' Q | [] => False
theorem qgs_nil : PGs X [] cgNil := fun pins s σ H vs us Q I r h => pgs_nil pins s σ H vs us Q I r (by
  unfold cgNil at h
  split at h
  · exact ⟨rfl, h⟩
  · exact h.elim)
theorem qgs_cons {e : Expr} {es : List Expr} {t : TG} {u : TGs} (h1 : PG X e t) (h2 : PGs X es u)
    (hs : (assignEach (e :: es) X.env).map (·.2) = assign e X.env :: (assignEach es X.env).map (·.2) := by rfl) : PGs X (e :: es) (cgCons t u) := fun pins s σ H vs us Q I r h => pgs_cons h1 h2 hs pins s σ H vs us Q I r (by
  unfold cgCons at h
  split at h
  · exact ⟨_, _, rfl, h⟩
  · exact h.elim)
def cgTup (K : PySem.W.Frag) (n : Nat) (t : TGs) : TG := fun v σ H Q => match v with | .ref a => ∃ xs, SqT K H a xs ∧ xs.length = n ∧ t xs σ H Q | _ => False
theorem qg_tup {es : List Expr} {k : Nat} {t : TGs} {n : Nat} {pos : Pos} (hc : X.calm = true) (h : PGs X es t)
    (hn : (assignEach es X.env).length = n := by rfl) (hst : (assignEach es X.env).findIdx? (·.1) = none := by rfl) : PG X (.Tuple es k pos) (cgTup X.K n t) := fun pins s σ H v u Q I r hw => pg_tup hc h hn hst pins s σ H v u Q I r (by
  unfold cgTup at hw
  split at hw
  · obtain ⟨xs, h⟩ := hw; exact ⟨_, xs, rfl, h⟩
  · exact hw.elim)
def cPart (t : TE) : TO := fun σ H Q => t σ H fun x H1 => match x with | .int i => Q (some i) H1 | _ => False
theorem qo_some {e : Expr} {te : TE} (h : PE X e te) : PO X (some e) (cPart te) := by
  intro pins s σ H Q I hw
  rw [evalPart_some]
  refine thn (h pins s σ H _ I hw) fun u s1 ⟨x, H1, I1, r1, q1⟩ => ?_
  obtain ⟨i, rfl, q⟩ : ∃ i, x = .int i ∧ Q (some i) H1 := by
    dsimp only at q1
    split at q1
    · exact ⟨_, rfl, q1⟩
    · exact q1.elim
  obtain ⟨t, rfl⟩ := r1
  exact ⟨some i, H1, I1, .int i t, q⟩
end
/-! ### own exception classes: which is under which -/
structure ExM (K : PySem.W.Frag) (C : Addr) (pre : List Value) : Prop where
  mro : ∃ cd, PySem.W.clsIn K C = some cd ∧ cd.mro = pre ++ veMro
  ty : PySem.W.typeIn K (.ref C) = some (.type "type")
section
open PySem.W
variable {K : PySem.W.Frag} {C D : Addr} {pre pre' : List Value}
theorem ExM.sub (h : ExM K C pre) (v : Value) : subIn K (.ref C) v = some ((pre ++ veMro).contains v) := by
  obtain ⟨cd, h1, h2⟩ := h.mro
  show mroIn K C v = _
  unfold mroIn
  rw [h1, Option.bind_some, h2, if_neg]
  cases pre <;> simp
theorem ExM.cls (h : ExM K C pre) (h' : ExM K D pre') : kitCls K (.ref C) (.ref D) = some (pre.contains (.ref D)) := by
  unfold kitCls
  obtain ⟨cd, h1, _⟩ := h'.mro
  have e : ((clsIn K D).isSome && typeIn K (.ref D) == some (.type "type")) = true := by rw [h1, h'.ty]; rfl
  show (if ((clsIn K D).isSome && typeIn K (.ref D) == some (.type "type")) = true then subIn K (.ref C) (.ref D) else none) = _
  rw [if_pos e, h.sub]
  congr 1
  rw [List.contains_eq_any_beq, List.contains_eq_any_beq, List.any_append]
  have : veMro.any (fun x => (Value.ref D) == x) = false := by rfl
  rw [this, Bool.or_false]
theorem kit_own (h : ExM K C pre) (h' : ExM K D pre') (hC : pre.contains (.ref C) = true) : kitOne K (.ref C) (.ref D) = some (pre.contains (.ref D)) := by
  unfold kitOne
  by_cases e : C = D
  · subst e
    rw [if_pos (by simp), hC]
  · rw [if_neg (by simpa using e), h.cls h']
theorem kit_ve (h : ExM K C pre) : kitOne K (.ref C) (.type "ValueError") = some true := by
  unfold kitOne
  rw [if_neg (by simp)]
  unfold kitCls
  show (if kitMeta "ValueError" = true then subIn K (.ref C) (.type "ValueError") else none) = _
  rw [if_pos (by decide +kernel), h.sub]
  congr 1
  rw [List.contains_eq_any_beq, List.any_append]
  have : veMro.any (fun x => (Value.type "ValueError") == x) = true := by decide +kernel
  rw [this, Bool.or_true]
theorem exm_own (h : ExM K C pre) (h' : ExM K D pre') : exmOne K (.ref C) (.ref D) = some (pre.contains (.ref D)) := by
  unfold exmOne
  rw [if_pos, h.cls h']
  rw [h'.sub]
  have : (pre' ++ veMro).contains (.type "BaseException") = true := by
    rw [List.contains_eq_any_beq, List.any_append]
    have : veMro.any (fun x => (Value.type "BaseException") == x) = true := by decide +kernel
    rw [this, Bool.or_true]
  rw [this]
  rfl
end
end L2

end
section
set_option Elab.async false
set_option linter.all false
set_option maxRecDepth 100000
set_option maxHeartbeats 4000000
namespace L2
open PySem PySem.Spec PyProof.Rows
section
variable {X : Cx}
end
section
variable {prog : Program} {w : World} {A : Around} {E : Value → Shared → Prop} {s : Shared}
end
section
variable {X : Cx} {e st : Expr} {te : TE} {ts : TO} {pos p2 : Pos}
end
/-! ### the same, the world's own facts named -/
section
variable {X : Cx} {K : PySem.W.Frag} {tg l e st : Expr} {tl te : TE} {ts : TO} {pos p2 : Pos}
theorem q_ixLK (hK : X.K = K) : IxR X (cIxL K) := hK ▸ q_ixL
theorem q_slLK (hK : X.K = K) : SlR X (cSlL K) := hK ▸ q_slL
theorem q_lenK (hK : X.K = K) : CallR X (.builtin "len") (cLen K) := hK ▸ q_len
theorem q_isiK (hK : X.K = K) : CallR X (.builtin "isinstance") (cIsi K) := hK ▸ q_isi
theorem q_inK (hK : X.K = K) : OpR X (compareOp .In) (cIn K false) := hK ▸ q_in
theorem mt_joinK (hK : X.K = K) : MtR X "str.join" (rJoin K) := hK ▸ mt_join
theorem qi_listK (hK : X.K = K) (hl : PE X l tl) : PI X tg l (cList K tl) := hK ▸ qi_list hl
theorem qg_tupK {es : List Expr} {k : Nat} {t : TGs} {n : Nat} (hK : X.K = K) (hc : X.calm = true) (h : PGs X es t)
    (hn : (assignEach es X.env).length = n := by rfl) (hst : (assignEach es X.env).findIdx? (·.1) = none := by rfl) : PG X (.Tuple es k pos) (cgTup K n t) := hK ▸ qg_tup hc h hn hst
end
end L2

end
namespace Law
open PySem PySem.Spec PyProof.Rows L2
local macro_rules | `(tactic| walk_at "w") => `(tactic| conv => whnf)
local macro_rules | `(tactic| walk_at "hp") => `(tactic| (repeat (first | assumption | exact upd_same | refine keepN ?_ (by assumption))))
local macro_rules | `(tactic| walk_at "frees") => `(tactic| (repeat ((conv => whnf); first | exact True.intro | refine ⟨Or.inl rfl, ?_⟩ | refine ⟨Or.inr rfl, ?_⟩ | refine ⟨⟨rfl, Or.inl rfl⟩, ?_⟩ | refine ⟨⟨rfl, Or.inr rfl⟩, ?_⟩)))
local macro_rules | `(tactic| walk_at "comp_ok") => `(tactic| exact ⟨rfl, by decide +kernel, by decide +kernel, by walk_at "frees", by walk_at "frees"⟩)
def top (i : Nat) : Stmt := PySem.Challenge.pw_endnever_k07_refusals_made.main.body.getD i (.Pass ⟨0, 0, 0, 0⟩)
abbrev s_l_mixed : Stmt := top 27
abbrev s_l_draw : Stmt := top 29
abbrev s_l_purse : Stmt := top 28
abbrev s_l_kinds : Stmt := top 30
abbrev s_is_machine : Stmt := top 21
abbrev s_must_machine : Stmt := top 22
abbrev s_begun : Stmt := top 24
abbrev s_run : Stmt := top 25
abbrev s_law : Stmt := top 31
structure Ad where
  l_mixed : Addr
  l_mixed_d : FuncData
  l_draw : Addr
  l_draw_d : FuncData
  l_purse : Addr
  l_purse_d : FuncData
  l_kinds : Addr
  l_kinds_d : FuncData
  is_machine : Addr
  is_machine_d : FuncData
  must_machine : Addr
  must_machine_d : FuncData
  begun : Addr
  begun_d : FuncData
  run : Addr
  run_d : FuncData
  law : Addr
  law_d : FuncData
  MillError : Addr
  Full : Addr
  NoDeed : Addr
  NoLine : Addr
  NoMachine : Addr
  NoName : Addr
  NoPaper : Addr
  NoSize : Addr
  NoSuch : Addr
  NoText : Addr
  NoWidth : Addr
  Twice : Addr
structure Tx (K : PySem.W.Frag) (mg : Str → Option Value) (a : Ad) : Prop where
  f_l_mixed : Fun K "_law_mixed" "_law_mixed" s_l_mixed a.l_mixed a.l_mixed_d
  b_l_mixed : Binds K a.l_mixed_d ["_law_cell", "_law_k"] []
  g_l_mixed : mg "_law_mixed" = some (.ref a.l_mixed)
  f_l_draw : Fun K "_law_draw" "_law_draw" s_l_draw a.l_draw a.l_draw_d
  b_l_draw : Binds K a.l_draw_d ["_law_purse_here", "_law_out_of"] []
  g_l_draw : mg "_law_draw" = some (.ref a.l_draw)
  f_l_purse : Fun K "_law_purse" "_law_purse" s_l_purse a.l_purse a.l_purse_d
  b_l_purse : Binds K a.l_purse_d ["_law_script"] []
  g_l_purse : mg "_law_purse" = some (.ref a.l_purse)
  f_l_kinds : Fun K "_law_kinds" "_law_kinds" s_l_kinds a.l_kinds a.l_kinds_d
  b_l_kinds : Binds K a.l_kinds_d ["_law_one"] []
  g_l_kinds : mg "_law_kinds" = some (.ref a.l_kinds)
  f_is_machine : Fun K "is_machine" "is_machine" s_is_machine a.is_machine a.is_machine_d
  b_is_machine : Binds K a.is_machine_d ["machine"] []
  g_is_machine : mg "is_machine" = some (.ref a.is_machine)
  f_must_machine : Fun K "must_machine" "must_machine" s_must_machine a.must_machine a.must_machine_d
  b_must_machine : Binds K a.must_machine_d ["machine"] []
  g_must_machine : mg "must_machine" = some (.ref a.must_machine)
  f_begun : Fun K "begun" "begun" s_begun a.begun a.begun_d
  b_begun : Binds K a.begun_d ["machine"] []
  g_begun : mg "begun" = some (.ref a.begun)
  f_run : Fun K "run" "run" s_run a.run a.run_d
  b_run : Binds K a.run_d ["machine", "most"] []
  g_run : mg "run" = some (.ref a.run)
  f_law : Fun K "law" "law" s_law a.law a.law_d
  b_law : Binds K a.law_d ["_law_script"] []
  g_law : mg "law" = some (.ref a.law)
  e_MillError : ExK K a.MillError
  t_MillError : ExC K a.MillError
  g_MillError : mg "MillError" = some (.ref a.MillError)
  m_MillError : ExM K a.MillError ([.ref a.MillError])
  e_Full : ExK K a.Full
  t_Full : ExC K a.Full
  g_Full : mg "Full" = some (.ref a.Full)
  m_Full : ExM K a.Full ([.ref a.Full, .ref a.MillError])
  e_NoDeed : ExK K a.NoDeed
  t_NoDeed : ExC K a.NoDeed
  g_NoDeed : mg "NoDeed" = some (.ref a.NoDeed)
  m_NoDeed : ExM K a.NoDeed ([.ref a.NoDeed, .ref a.MillError])
  e_NoLine : ExK K a.NoLine
  t_NoLine : ExC K a.NoLine
  g_NoLine : mg "NoLine" = some (.ref a.NoLine)
  m_NoLine : ExM K a.NoLine ([.ref a.NoLine, .ref a.MillError])
  e_NoMachine : ExK K a.NoMachine
  t_NoMachine : ExC K a.NoMachine
  g_NoMachine : mg "NoMachine" = some (.ref a.NoMachine)
  m_NoMachine : ExM K a.NoMachine ([.ref a.NoMachine, .ref a.MillError])
  e_NoName : ExK K a.NoName
  t_NoName : ExC K a.NoName
  g_NoName : mg "NoName" = some (.ref a.NoName)
  m_NoName : ExM K a.NoName ([.ref a.NoName, .ref a.MillError])
  e_NoPaper : ExK K a.NoPaper
  t_NoPaper : ExC K a.NoPaper
  g_NoPaper : mg "NoPaper" = some (.ref a.NoPaper)
  m_NoPaper : ExM K a.NoPaper ([.ref a.NoPaper, .ref a.MillError])
  e_NoSize : ExK K a.NoSize
  t_NoSize : ExC K a.NoSize
  g_NoSize : mg "NoSize" = some (.ref a.NoSize)
  m_NoSize : ExM K a.NoSize ([.ref a.NoSize, .ref a.MillError])
  e_NoSuch : ExK K a.NoSuch
  t_NoSuch : ExC K a.NoSuch
  g_NoSuch : mg "NoSuch" = some (.ref a.NoSuch)
  m_NoSuch : ExM K a.NoSuch ([.ref a.NoSuch, .ref a.MillError])
  e_NoText : ExK K a.NoText
  t_NoText : ExC K a.NoText
  g_NoText : mg "NoText" = some (.ref a.NoText)
  m_NoText : ExM K a.NoText ([.ref a.NoText, .ref a.MillError])
  e_NoWidth : ExK K a.NoWidth
  t_NoWidth : ExC K a.NoWidth
  g_NoWidth : mg "NoWidth" = some (.ref a.NoWidth)
  m_NoWidth : ExM K a.NoWidth ([.ref a.NoWidth, .ref a.MillError])
  e_Twice : ExK K a.Twice
  t_Twice : ExC K a.Twice
  g_Twice : mg "Twice" = some (.ref a.Twice)
  m_Twice : ExM K a.Twice ([.ref a.Twice, .ref a.MillError])
  c_MOST_ROWS : CV mg "MOST_ROWS" (.int 4)
  z_range : mg "range" = none
  z_len : mg "len" = none
  z_abs : mg "abs" = none
  z_isinstance : mg "isinstance" = none
  z_enumerate : mg "enumerate" = none
  z_ValueError : mg "ValueError" = none
  ex_nd : [a.MillError, a.Full, a.NoDeed, a.NoLine, a.NoMachine, a.NoName, a.NoPaper, a.NoSize, a.NoSuch, a.NoText, a.NoWidth, a.Twice].Nodup
section
variable {P : Program} {w : World} {K : PySem.W.Frag} {mg : Str → Option Value} {base : Heap} {a : Ad}
theorem sc_l_mixed : FnScope ["_law_cell", "_law_k", "_law_rest", "_law_number"] ["_law_cell", "_law_k"] (defScope s_l_mixed) := ⟨rfl, rfl, rfl, by decide +kernel, rfl, by decide +kernel, by decide +kernel⟩
/-- a number from 0 below 2147483587 -/
def sp_mixed : Sp := fun vs H Q _ => match vs with
  | [.int _, .int k] => (0 ≤ k ∧ k ≤ 1000) ∧ ∀ (n : Int), 0 ≤ n → n < 2147483587 → Q (.int n) H
  | _ => False
theorem ok_l_mixed (T : Tx K mg a) : FnOk P w K mg base CX0 1 a.l_mixed a.l_mixed_d ["_law_cell", "_law_k"] (sp_mixed) := by
  refine T.f_l_mixed.ok sc_l_mixed (fun vs H Q E h => ?_) (fun cdv A outer s H vs Q E hr h => ?_)
  · unfold sp_mixed at h
    split at h
    · rfl
    · exact h.elim
  · unfold sp_mixed at h
    split at h
    · have nd := sc_l_mixed.nd
      have hu := hu_of hr
      rename_i c k
      refine ⟨_, (pss_cons (ps_set (i := 2) nd rfl (by first | exact Or.inl rfl | exact Or.inr rfl) (pe_op q_mod (qv 0) (pe_op q_pow pe_int pe_int)))
    (pss_cons (ps_set (i := 3) nd rfl (by first | exact Or.inl rfl | exact Or.inr rfl) (pe_op q_mod (pe_op q_mul (pe_op q_add (pe_op q_add (pe_op q_add (pe_op q_mul (qv 2) (qv 2)) (pe_op q_mul pe_int (qv 2))) (pe_op q_mul pe_int (qv 1))) pe_int) pe_int) pe_int))
    (pss_one (ps_ret (pe_op q_mod (pe_op q_add (pe_op q_mul (qv 3) (qv 3)) pe_int) pe_int))))), ?_⟩
      walk_at "w"
      refine ⟨cpow (by decide), fun p hp _ => ?_⟩
      have hp : p = 1000000000000000 := by rw [hp]; decide
      walk_at "w"
      refine ⟨by show (0 : Int) < _; omega, fun r _ ⟨r0, r1⟩ => ?_⟩
      walk_at "w"
      refine ⟨.inl ⟨by omega, by omega⟩, fun m1 _ _ => ?_⟩
      walk_at "w"
      refine ⟨.inl ⟨by omega, by omega⟩, fun m2 _ _ => ?_⟩
      walk_at "w"
      refine ⟨.inl ⟨by omega, by omega⟩, fun m3 _ _ => ?_⟩
      walk_at "w"
      refine ⟨.inr ⟨by omega, by omega⟩, fun m4 _ _ => ?_⟩
      walk_at "w"
      refine ⟨by show (0 : Int) < _; decide, fun m5 _ ⟨a0, a1⟩ => ?_⟩
      walk_at "w"
      refine ⟨.inl ⟨by omega, by omega⟩, fun m6 _ _ => ?_⟩
      walk_at "w"
      refine ⟨by show (0 : Int) < _; decide, fun m7 _ ⟨b0, b1⟩ => ?_⟩
      exact h.2 _ b0 b1
    · exact h.elim
theorem sc_l_draw : FnScope ["_law_purse_here", "_law_out_of", "_law_drawn"] ["_law_purse_here", "_law_out_of"] (defScope s_l_draw) := ⟨rfl, rfl, rfl, by decide +kernel, rfl, by decide +kernel, by decide +kernel⟩
/-- a number from 0 below k; the purse's first number turns -/
def sp_draw : Sp := fun vs H Q _ => match vs with
  | [.ref b, .int k] => (0 < k ∧ k.natAbs.log2 < 9000) ∧ ∃ n m, H b = some (.lst [.int n, .int m]) ∧ ∀ d n' : Int, 0 ≤ d → d < k → Q (.int d) (upd H b (.lst [.int n', .int m]))
  | _ => False
theorem ok_l_draw (T : Tx K mg a) : FnOk P w K mg base CX0 1 a.l_draw a.l_draw_d ["_law_purse_here", "_law_out_of"] (sp_draw) := by
  refine T.f_l_draw.ok sc_l_draw (fun vs H Q E h => ?_) (fun cdv A outer s H vs Q E hr h => ?_)
  · unfold sp_draw at h
    split at h
    · rfl
    · exact h.elim
  · unfold sp_draw at h
    split at h
    · have nd := sc_l_draw.nd
      have hu := hu_of hr
      rename_i b k
      obtain ⟨hk, n, m, hb, h⟩ := h
      refine ⟨_, (pss_cons (ps_c (pt_c q_eq (pe_ix (q_ixLK (K := K) rfl) (qv 0) pe_int (fun _ _ => rfl)) pe_int) (pss_one (ps_asg (pe_ix (q_ixLK (K := K) rfl) (qv 0) pe_int (fun _ _ => rfl)) (pg_sub (qv 0) pe_int q_setL))) pss_nil)
    (pss_cons (ps_set (i := 2) nd rfl (by first | exact Or.inl rfl | exact Or.inr rfl) (pe_op q_mod (pe_ix (q_ixLK (K := K) rfl) (qv 0) pe_int (fun _ _ => rfl)) (qv 1)))
    (pss_cons (ps_asg (pe_op q_fdiv (pe_ix (q_ixLK (K := K) rfl) (qv 0) pe_int (fun _ _ => rfl)) (qv 1)) (pg_sub (qv 0) pe_int q_setL))
    (pss_one (ps_ret (qv 2)))))), ?_⟩
      walk_at "w"
      refine ⟨_, _, SqL.of hb, rfl, ?_⟩
      walk_at "w"
      have fin : ∀ (n1 : Int) (H1 : Hp), H1 b = some (.lst [.int n1, .int m]) → (∀ n', upd H1 b (.lst [.int n', .int m]) = upd H b (.lst [.int n', .int m])) →
          ∃ xs v, SqL K H1 b xs ∧ atI xs 0 = some v ∧ (cL CMod (fun i j => i % j) fun _ j m => 0 ≤ m ∧ m < j) v (.int k) H1 fun x H2 =>
            ∃ xs v, SqL K H2 b xs ∧ atI xs 0 = some v ∧ (cL CFdiv (fun i j => i / j) fun _ _ _ => True) v (.int k) H2 fun y H3 => cSetL (.ref b) (.int 0) y H3 fun H4 => Q x H4 := by
        intro n1 H1 h1 he
        refine ⟨_, _, SqL.of h1, rfl, hk.1, fun d _ ⟨d0, d1⟩ => ⟨_, _, SqL.of h1, rfl, hk, fun q _ _ => ⟨_, 0, h1, rfl, ?_⟩⟩⟩
        show Q (.int d) (upd H1 b (.lst [.int q, .int m]))
        rw [he]
        exact h d q d0 d1
      refine ifB.mk (fun _ => ?_) (fun _ => ?_)
      · walk_at "w"
        refine ⟨_, _, SqL.of hb, rfl, ?_⟩
        walk_at "w"
        refine ⟨_, 0, hb, rfl, ?_⟩
        exact fin m _ upd_same fun n' => upd_upd
      · exact fin n H hb fun n' => rfl
    · exact h.elim
theorem sc_l_purse : FnScope ["_law_script", "_law_cells", "_law_number", "_law_k"] ["_law_script"] (defScope s_l_purse) := ⟨rfl, rfl, rfl, by decide +kernel, rfl, by decide +kernel, by decide +kernel⟩
/-- a new list of two numbers -/
def sp_purse (K : PySem.W.Frag) : Sp := fun vs H Q _ => match vs with
  | [.ref b] => ∃ ns : List Int, SqL K H b (ns.map V.int) ∧ ns.length ≤ 63 ∧ ∀ (p : Addr) (H' : Hp) (n m : Int), Sub H H' → H p = none → H' p = some (.lst [.int n, .int m]) → Q (.ref p) H'
  | _ => False
theorem cut63 (ns : List Int) : ∃ ms : List Int, cutV (ns.map V.int) none (some 63) = ms.map V.int ∧ ms.length ≤ 63 := by
  unfold cutV
  rw [List.length_map]
  refine ⟨(ns.drop (HT.sIx ns.length 0 none)).take (HT.sIx ns.length ns.length (some 63) - HT.sIx ns.length 0 none), ?_, ?_⟩
  · rw [List.map_take, List.map_drop]
  · rw [List.length_take]
    have : HT.sIx ns.length ns.length (some ((63 : Nat) : Int)) = min 63 ns.length := HT.sIx_nat _ _ _
    have e : ((63 : Nat) : Int) = (63 : Int) := rfl
    rw [e] at this
    rw [this]
    omega
theorem atI_mod {vs : List V} {ns : List Int} (e : vs = ns.map V.int) {i : Int} (h0 : 0 ≤ i) (h1 : i < vs.length) : ∃ n : Int, atI vs i = some (.int n) := by
  subst e
  unfold atI ixN
  rw [if_pos h0, if_pos h1, Option.bind_some]
  have hl : i.toNat < ns.length := by rw [List.length_map] at h1; omega
  exact ⟨ns[i.toNat], by rw [List.getElem?_map, List.getElem?_eq_getElem hl]; rfl⟩
theorem ok_l_purse (T : Tx K mg a) : FnOk P w K mg base CX0 2 a.l_purse a.l_purse_d ["_law_script"] (sp_purse K) := by
  have G_l_mixed := ok_l_mixed (P := P) (w := w) (base := base) T
  refine T.f_l_purse.ok sc_l_purse (fun vs H Q E h => ?_) (fun cdv A outer s H vs Q E hr h => ?_)
  · unfold sp_purse at h
    split at h
    · rfl
    · exact h.elim
  · unfold sp_purse at h
    split at h
    · have nd := sc_l_purse.nd
      have hu := hu_of hr
      rename_i b
      obtain ⟨ns, hS, hlen, h⟩ := h
      obtain ⟨ms, hms, hml⟩ := cut63 ns
      refine ⟨_, (pss_cons (ps_set (i := 1) nd rfl (by first | exact Or.inl rfl | exact Or.inr rfl) (pe_op q_cat (pe_slice (q_slLK (K := K) rfl) (qv 0) po_none (qo_some pe_int)) (pe_lst (pa_cons pe_int pa_nil))))
    (pss_cons (ps_set (i := 2) nd rfl (by first | exact Or.inl rfl | exact Or.inr rfl) pe_int)
    (pss_cons (ps_for PassesOwn.never rfl (qi_range1 rfl T.z_range (pa_cons pe_int pa_nil)) (pg_name (i := 3) nd rfl (by first | exact Or.inl rfl | exact Or.inr rfl)) (pss_one (ps_set (i := 2) nd rfl (by first | exact Or.inl rfl | exact Or.inr rfl) (pe_op q_add (pe_op q_mul (qv 2) pe_int) (pe_call G_l_mixed (hr.mono (by decide)) rfl T.g_l_mixed T.f_l_mixed.kp T.b_l_mixed .nil pass0 (pa_cons (pe_ix (q_ixLK (K := K) rfl) (qv 1) (pe_op q_mod (qv 3) (pe_callB (q_lenK (K := K) rfl) rfl T.z_len bt_len (pa_cons (qv 1) pa_nil))) (fun _ _ => rfl)) (pa_cons (qv 3) pa_nil)))))))
    (pss_cons (ps_c (pt_c q_ge (pe_callB q_abs rfl T.z_abs bt_abs (pa_cons (pe_ix (q_ixLK (K := K) rfl) (qv 1) pe_int (fun _ _ => rfl)) pa_nil)) (pe_op q_pow pe_int pe_int)) (pss_one (ps_ret (pe_lst (pa_cons (pe_callB q_abs rfl T.z_abs bt_abs (pa_cons (pe_ix (q_ixLK (K := K) rfl) (qv 1) pe_int (fun _ _ => rfl)) pa_nil)) (pa_cons (qv 2) pa_nil))))) pss_nil)
    (pss_one (ps_ret (pe_lst (pa_cons (qv 2) (pa_cons (qv 2) pa_nil))))))))), ?_⟩
      walk_at "w"
      refine ⟨_, hS, fun p1 n1 => ?_⟩
      rw [hms]
      walk_at "w"
      refine ⟨by show 1 ≤ sizeLine; decide, fun p2 n2 => ?_⟩
      walk_at "w"
      refine ⟨_, _, keepN upd_same n2, upd_same, by rw [List.length_map]; show ms.length + 1 ≤ sizeLine; exact Nat.le_trans (Nat.add_le_add_right hml 1) (by decide), fun p3 n3 => ?_⟩
      have e3 : ms.map V.int ++ [.int 0] = (ms ++ [0]).map V.int := by rw [List.map_append]; rfl
      have el : ((ms ++ [0]).map V.int).length = ms.length + 1 := by simp
      rw [e3]
      have sub3 : Sub H (upd (upd (upd H p1 (.lst (ms.map V.int))) p2 (.lst [.int 0])) p3 (.lst ((ms ++ [0]).map V.int))) :=
        ((Sub.new n1).trans (Sub.new n2)).trans (Sub.new n3)
      have h3 : (upd (upd (upd H p1 (.lst (ms.map V.int))) p2 (.lst [.int 0])) p3 (.lst ((ms ++ [0]).map V.int))) p3 = some (.lst ((ms ++ [0]).map V.int)) := upd_same
      generalize (upd (upd (upd H p1 (.lst (ms.map V.int))) p2 (.lst [.int 0])) p3 (.lst ((ms ++ [0]).map V.int))) = H3 at sub3 h3 ⊢
      walk_at "w"
      refine ⟨⟨by decide, by decide⟩, ?_⟩
      refine for_range (lo := 0) (n := (64 : Int).toNat) (fun _ σ H4 => ∃ (n : Int) (v : Option V), σ = [some (.ref b), some (.ref p3), some (.int n), v] ∧ H4 = H3) ⟨1, none, rfl, rfl⟩ ?_ ?_
      · rintro i σ H4 hi ⟨n, v, rfl, rfl⟩
        have hi : i < 64 := hi
        walk_at "w"
        refine ⟨.inr ⟨by decide, by decide⟩, fun m1 _ _ => ?_⟩
        walk_at "w"
        refine ⟨_, .inl (SqL.of h3), ?_⟩
        walk_at "w"
        rw [el]
        refine ⟨by show (0 : Int) < _; omega, fun r _ ⟨r0, r1⟩ => ?_⟩
        obtain ⟨c, hc⟩ := atI_mod (i := r) (rfl : (ms ++ [0]).map V.int = _) r0 (by rw [el]; omega)
        walk_at "w"
        refine ⟨_, _, SqL.of h3, hc, ?_⟩
        walk_at "w"
        refine ⟨⟨by omega, by omega⟩, fun k _ _ => ?_⟩
        exact ⟨_, _, rfl, rfl⟩
      · rintro σ H4 ⟨n, v, rfl, rfl⟩
        obtain ⟨c, hc⟩ := atI_mod (i := 0) (rfl : (ms ++ [0]).map V.int = _) (by decide) (by rw [el]; omega)
        walk_at "w"
        refine ⟨_, _, SqL.of h3, hc, ?_⟩
        walk_at "w"
        intro m1 _
        walk_at "w"
        refine ⟨cpow (by decide), fun m2 _ _ => ?_⟩
        walk_at "w"
        refine ifB.mk (fun _ => ?_) (fun _ => ?_)
        · walk_at "w"
          refine ⟨_, _, SqL.of h3, hc, ?_⟩
          walk_at "w"
          intro m3 _
          walk_at "w"
          refine ⟨by show 2 ≤ sizeLine; decide, fun p4 n4 => ?_⟩
          exact h p4 _ _ _ (sub3.trans (Sub.new n4)) (sub3.free n4) upd_same
        · walk_at "w"
          refine ⟨by show 2 ≤ sizeLine; decide, fun p4 n4 => ?_⟩
          exact h p4 _ _ _ (sub3.trans (Sub.new n4)) (sub3.free n4) upd_same
    · exact h.elim
theorem sc_l_kinds : FnScope ["_law_one", "_law_found"] ["_law_one"] (defScope s_l_kinds) := ⟨rfl, rfl, rfl, by decide +kernel, rfl, by decide +kernel, by decide +kernel⟩
def eleven (a : Ad) : List Addr := [a.Full, a.NoDeed, a.NoLine, a.NoMachine, a.NoName, a.NoPaper, a.NoSize, a.NoSuch, a.NoText, a.NoWidth, a.Twice]
/-- what is of a class of our own: which of the eleven it is, in a new list -/
def sp_kinds (K : PySem.W.Frag) (a : Ad) : Sp := fun vs H Q _ => match vs with
  | [.ref b] => ∃ C : Addr, H b = some (HO.exc b C) ∧ ExC K C ∧ (∀ D ∈ eleven a, PySem.W.kitOne K (.ref C) (.ref D) = some (decide (C = D))) ∧
      ∀ (p : Addr) (H' : Hp), Sub H H' → H p = none → H' p = some (.lst ((eleven a).map fun D => V.bl (decide (C = D)))) → Q (.ref p) H'
  | _ => False
theorem ok_l_kinds (T : Tx K mg a) : FnOk P w K mg base CX0 1 a.l_kinds a.l_kinds_d ["_law_one"] (sp_kinds K a) := by
  refine T.f_l_kinds.ok sc_l_kinds (fun vs H Q E h => ?_) (fun cdv A outer s H vs Q E hr h => ?_)
  · unfold sp_kinds at h
    split at h
    · rfl
    · exact h.elim
  · unfold sp_kinds at h
    split at h
    · have nd := sc_l_kinds.nd
      have hu := hu_of hr
      rename_i b
      obtain ⟨C, hb, hC, hk, h⟩ := h
      refine ⟨_, (pss_cons (ps_set (i := 1) nd rfl (by first | exact Or.inl rfl | exact Or.inr rfl) (pe_lst (pa_cons (pe_callB (q_isiK (K := K) rfl) rfl T.z_isinstance bt_isinstance (pa_cons (qv 0) (pa_cons (pe_glob (v := V.ref a.Full) rfl T.g_Full rfl) pa_nil))) (pa_cons (pe_callB (q_isiK (K := K) rfl) rfl T.z_isinstance bt_isinstance (pa_cons (qv 0) (pa_cons (pe_glob (v := V.ref a.NoDeed) rfl T.g_NoDeed rfl) pa_nil))) (pa_cons (pe_callB (q_isiK (K := K) rfl) rfl T.z_isinstance bt_isinstance (pa_cons (qv 0) (pa_cons (pe_glob (v := V.ref a.NoLine) rfl T.g_NoLine rfl) pa_nil))) (pa_cons (pe_callB (q_isiK (K := K) rfl) rfl T.z_isinstance bt_isinstance (pa_cons (qv 0) (pa_cons (pe_glob (v := V.ref a.NoMachine) rfl T.g_NoMachine rfl) pa_nil))) pa_nil))))))
    (pss_cons (ps_set (i := 1) nd rfl (by first | exact Or.inl rfl | exact Or.inr rfl) (pe_op q_cat (qv 1) (pe_lst (pa_cons (pe_callB (q_isiK (K := K) rfl) rfl T.z_isinstance bt_isinstance (pa_cons (qv 0) (pa_cons (pe_glob (v := V.ref a.NoName) rfl T.g_NoName rfl) pa_nil))) (pa_cons (pe_callB (q_isiK (K := K) rfl) rfl T.z_isinstance bt_isinstance (pa_cons (qv 0) (pa_cons (pe_glob (v := V.ref a.NoPaper) rfl T.g_NoPaper rfl) pa_nil))) (pa_cons (pe_callB (q_isiK (K := K) rfl) rfl T.z_isinstance bt_isinstance (pa_cons (qv 0) (pa_cons (pe_glob (v := V.ref a.NoSize) rfl T.g_NoSize rfl) pa_nil))) pa_nil))))))
    (pss_cons (ps_set (i := 1) nd rfl (by first | exact Or.inl rfl | exact Or.inr rfl) (pe_op q_cat (qv 1) (pe_lst (pa_cons (pe_callB (q_isiK (K := K) rfl) rfl T.z_isinstance bt_isinstance (pa_cons (qv 0) (pa_cons (pe_glob (v := V.ref a.NoSuch) rfl T.g_NoSuch rfl) pa_nil))) (pa_cons (pe_callB (q_isiK (K := K) rfl) rfl T.z_isinstance bt_isinstance (pa_cons (qv 0) (pa_cons (pe_glob (v := V.ref a.NoText) rfl T.g_NoText rfl) pa_nil))) (pa_cons (pe_callB (q_isiK (K := K) rfl) rfl T.z_isinstance bt_isinstance (pa_cons (qv 0) (pa_cons (pe_glob (v := V.ref a.NoWidth) rfl T.g_NoWidth rfl) pa_nil))) pa_nil))))))
    (pss_one (ps_ret (pe_op q_cat (qv 1) (pe_lst (pa_cons (pe_callB (q_isiK (K := K) rfl) rfl T.z_isinstance bt_isinstance (pa_cons (qv 0) (pa_cons (pe_glob (v := V.ref a.Twice) rfl T.g_Twice rfl) pa_nil))) pa_nil)))))))), ?_⟩
      walk_at "w"
      refine ⟨_, _, .exc hb hC, rfl, hk a.Full (by simp [eleven]), ?_⟩
      walk_at "w"
      refine ⟨_, _, .exc hb hC, rfl, hk a.NoDeed (by simp [eleven]), ?_⟩
      walk_at "w"
      refine ⟨_, _, .exc hb hC, rfl, hk a.NoLine (by simp [eleven]), ?_⟩
      walk_at "w"
      refine ⟨_, _, .exc hb hC, rfl, hk a.NoMachine (by simp [eleven]), ?_⟩
      walk_at "w"
      refine ⟨by show 4 ≤ sizeLine; decide, ?_⟩
      intro p1 n1
      generalize hU1 : upd _ p1 _ = H1
      obtain ⟨S1, e1⟩ := upd_sub n1 hU1
      clear hU1
      have T1 := S1
      have b1 := T1 _ _ hb
      walk_at "w"
      refine ⟨_, _, .exc b1 hC, rfl, hk a.NoName (by simp [eleven]), ?_⟩
      walk_at "w"
      refine ⟨_, _, .exc b1 hC, rfl, hk a.NoPaper (by simp [eleven]), ?_⟩
      walk_at "w"
      refine ⟨_, _, .exc b1 hC, rfl, hk a.NoSize (by simp [eleven]), ?_⟩
      walk_at "w"
      refine ⟨by show 3 ≤ sizeLine; decide, ?_⟩
      intro p2 n2
      generalize hU2 : upd _ p2 _ = H2
      obtain ⟨S2, e2⟩ := upd_sub n2 hU2
      clear hU2
      have T2 := T1.trans S2
      walk_at "w"
      refine ⟨_, _, S2 _ _ e1, e2, by show 7 ≤ sizeLine; decide, ?_⟩
      intro p3 n3
      generalize hU3 : upd _ p3 _ = H3
      obtain ⟨S3, e3⟩ := upd_sub n3 hU3
      clear hU3
      have T3 := T2.trans S3
      have b3 := T3 _ _ hb
      walk_at "w"
      refine ⟨_, _, .exc b3 hC, rfl, hk a.NoSuch (by simp [eleven]), ?_⟩
      walk_at "w"
      refine ⟨_, _, .exc b3 hC, rfl, hk a.NoText (by simp [eleven]), ?_⟩
      walk_at "w"
      refine ⟨_, _, .exc b3 hC, rfl, hk a.NoWidth (by simp [eleven]), ?_⟩
      walk_at "w"
      refine ⟨by show 3 ≤ sizeLine; decide, ?_⟩
      intro p4 n4
      generalize hU4 : upd _ p4 _ = H4
      obtain ⟨S4, e4⟩ := upd_sub n4 hU4
      clear hU4
      have T4 := T3.trans S4
      walk_at "w"
      refine ⟨_, _, S4 _ _ e3, e4, by show 10 ≤ sizeLine; decide, ?_⟩
      intro p5 n5
      generalize hU5 : upd _ p5 _ = H5
      obtain ⟨S5, e5⟩ := upd_sub n5 hU5
      clear hU5
      have T5 := T4.trans S5
      have b5 := T5 _ _ hb
      walk_at "w"
      refine ⟨_, _, .exc b5 hC, rfl, hk a.Twice (by simp [eleven]), ?_⟩
      walk_at "w"
      refine ⟨by show 1 ≤ sizeLine; decide, ?_⟩
      intro p6 n6
      generalize hU6 : upd _ p6 _ = H6
      obtain ⟨S6, e6⟩ := upd_sub n6 hU6
      clear hU6
      have T6 := T5.trans S6
      walk_at "w"
      refine ⟨_, _, S6 _ _ e5, e6, by show 11 ≤ sizeLine; decide, ?_⟩
      intro p7 n7
      generalize hU7 : upd _ p7 _ = H7
      obtain ⟨S7, e7⟩ := upd_sub n7 hU7
      clear hU7
      have T7 := T6.trans S7
      exact h p7 _ T7 (T6.free n7) e7
    · exact h.elim
theorem sc_is_machine : FnScope ["machine", "rows", "signs"] ["machine"] (defScope s_is_machine) := ⟨rfl, rfl, rfl, by decide +kernel, rfl, by decide +kernel, by decide +kernel⟩
/-- of five rows and more: no -/
def sp_is_machine (K : PySem.W.Frag) : Sp := fun vs H Q _ => match vs with
  | [.ref b] => ∃ xs : List V, SqL K H b xs ∧ 5 ≤ xs.length ∧ Q (.bl false) H
  | _ => False
theorem ok_is_machine (T : Tx K mg a) : FnOk P w K mg base CX0 1 a.is_machine a.is_machine_d ["machine"] (sp_is_machine K) := by
  refine T.f_is_machine.ok sc_is_machine (fun vs H Q E h => ?_) (fun cdv A outer s H vs Q E hr h => ?_)
  · unfold sp_is_machine at h
    split at h
    · rfl
    · exact h.elim
  · unfold sp_is_machine at h
    split at h
    · have nd := sc_is_machine.nd
      have hu := hu_of hr
      rename_i b
      obtain ⟨xs, hb, h5, h⟩ := h
      refine ⟨_, (pss_cons (ps_set (i := 1) nd rfl (by first | exact Or.inl rfl | exact Or.inr rfl) (pe_callB (q_lenK (K := K) rfl) rfl T.z_len bt_len (pa_cons (qv 0) pa_nil)))
    (pss_cons (ps_c (pt_not (pt_ch q_le q_le pe_int (qv 1) (pe_cv rfl T.c_MOST_ROWS))) (pss_one (ps_ret pe_bl)) pss_nil)
    pss_never)), ?_⟩
      walk_at "w"
      refine ⟨_, .inl hb, ?_⟩
      walk_at "w"
      refine ifB.yes (by simp; omega) ?_
      walk_at "w"
      refine ifB.yes (by simp; omega) ?_
      exact h
    · exact h.elim
theorem sc_must_machine : FnScope ["machine"] ["machine"] (defScope s_must_machine) := ⟨rfl, rfl, rfl, by decide +kernel, rfl, by decide +kernel, by decide +kernel⟩
/-- of five rows and more: refused -/
def sp_must_machine (K : PySem.W.Frag) (a : Ad) : Sp := fun vs H _ E => match vs with
  | [.ref b] => ∃ xs : List V, SqL K H b xs ∧ 5 ≤ xs.length ∧ E (.ref a.NoMachine) none H
  | _ => False
theorem ok_must_machine (T : Tx K mg a) : FnOk P w K mg base (CXE P w) 2 a.must_machine a.must_machine_d ["machine"] (sp_must_machine K a) := by
  have G_is_machine := ok_is_machine (P := P) (w := w) (base := base) T
  refine T.f_must_machine.okE sc_must_machine (fun vs H Q E h => ?_) (fun cdv A outer s H vs Q E hr h => ?_)
  · unfold sp_must_machine at h
    split at h
    · rfl
    · exact h.elim
  · unfold sp_must_machine at h
    split at h
    · have nd := sc_must_machine.nd
      have hu := hu_of hr
      rename_i b
      obtain ⟨xs, hb, h5, h⟩ := h
      refine ⟨_, (pss_one (ps_c (pt_not (pt_e (pe_call G_is_machine (hr.mono (by decide)) rfl T.g_is_machine T.f_is_machine.kp T.b_is_machine .nil pass0 (pa_cons (qv 0) pa_nil)))) (pss_one (ps_raise rfl T.e_NoMachine rfl T.g_NoMachine wants_fn (pa_cons pe_str pa_nil))) pss_nil)), ?_⟩
      walk_at "w"
      refine ⟨_, hb, h5, ?_⟩
      walk_at "w"
      refine ifB.yes rfl ?_
      walk_at "w"
      exact ⟨by decide, h⟩
    · exact h.elim
theorem sc_begun : FnScope ["machine"] ["machine"] (defScope s_begun) := ⟨rfl, rfl, rfl, by decide +kernel, rfl, by decide +kernel, by decide +kernel⟩
theorem ok_begun (T : Tx K mg a) : FnOk P w K mg base (CXE P w) 3 a.begun a.begun_d ["machine"] (sp_must_machine K a) := by
  have G_must_machine := ok_must_machine (P := P) (w := w) (base := base) T
  refine T.f_begun.okE sc_begun (fun vs H Q E h => ?_) (fun cdv A outer s H vs Q E hr h => ?_)
  · unfold sp_must_machine at h
    split at h
    · rfl
    · exact h.elim
  · unfold sp_must_machine at h
    split at h
    · have nd := sc_begun.nd
      have hu := hu_of hr
      rename_i b
      obtain ⟨xs, hb, h5, h⟩ := h
      refine ⟨_, (pss_cons (ps_expr (pe_call G_must_machine (hr.mono (by decide)) rfl T.g_must_machine T.f_must_machine.kp T.b_must_machine .nil passes_fn (pa_cons (qv 0) pa_nil)))
    pss_never), ?_⟩
      walk_at "w"
      exact ⟨_, hb, h5, h⟩
    · exact h.elim
theorem sc_run : FnScope ["machine", "most", "walk", "steps", "word"] ["machine", "most"] (defScope s_run) := ⟨rfl, rfl, rfl, by decide +kernel, rfl, by decide +kernel, by decide +kernel⟩
def sp_run (K : PySem.W.Frag) (a : Ad) : Sp := fun vs H _ E => match vs with
  | [.ref b, _] => ∃ xs : List V, SqL K H b xs ∧ 5 ≤ xs.length ∧ E (.ref a.NoMachine) none H
  | _ => False
theorem ok_run (T : Tx K mg a) : FnOk P w K mg base (CXE P w) 4 a.run a.run_d ["machine", "most"] (sp_run K a) := by
  have G_begun := ok_begun (P := P) (w := w) (base := base) T
  refine T.f_run.okE sc_run (fun vs H Q E h => ?_) (fun cdv A outer s H vs Q E hr h => ?_)
  · unfold sp_run at h
    split at h
    · rfl
    · exact h.elim
  · unfold sp_run at h
    split at h
    · have nd := sc_run.nd
      have hu := hu_of hr
      rename_i b v
      obtain ⟨xs, hb, h5, h⟩ := h
      refine ⟨_, (pss_cons (ps_set (i := 2) nd rfl (by first | exact Or.inl rfl | exact Or.inr rfl) (pe_call G_begun (hr.mono (by decide)) rfl T.g_begun T.f_begun.kp T.b_begun .nil passes_fn (pa_cons (qv 0) pa_nil)))
    pss_never), ?_⟩
      walk_at "w"
      exact ⟨_, hb, h5, h⟩
    · exact h.elim
theorem sc_law : FnScope ["_law_script", "_law_purse_here", "_law_signs", "_law_text", "_law_bare", "_law_told", "_law_some", "_law_k", "_law_one", "_law_due", "_law_caught", "e"] ["_law_script"] (defScope s_law) := ⟨rfl, rfl, rfl, by decide +kernel, rfl, by decide +kernel, by decide +kernel⟩
def sp_law (K : PySem.W.Frag) : Sp := fun vs H Q _ => match vs with
  | [.ref b] => ∃ ns : List Int, SqL K H b (ns.map V.int) ∧ ns.length ≤ 63 ∧ ∀ H', Q (.bl true) H'
  | _ => False
theorem exf (T : Tx K mg a) {C : Addr} (h : C ∈ eleven a) : ExC K C ∧ ExM K C [.ref C, .ref a.MillError] := by
  simp only [eleven, List.mem_cons, List.not_mem_nil, or_false] at h
  rcases h with rfl | rfl | rfl | rfl | rfl | rfl | rfl | rfl | rfl | rfl | rfl
  · exact ⟨T.t_Full, T.m_Full⟩
  · exact ⟨T.t_NoDeed, T.m_NoDeed⟩
  · exact ⟨T.t_NoLine, T.m_NoLine⟩
  · exact ⟨T.t_NoMachine, T.m_NoMachine⟩
  · exact ⟨T.t_NoName, T.m_NoName⟩
  · exact ⟨T.t_NoPaper, T.m_NoPaper⟩
  · exact ⟨T.t_NoSize, T.m_NoSize⟩
  · exact ⟨T.t_NoSuch, T.m_NoSuch⟩
  · exact ⟨T.t_NoText, T.m_NoText⟩
  · exact ⟨T.t_NoWidth, T.m_NoWidth⟩
  · exact ⟨T.t_Twice, T.m_Twice⟩
theorem nd11 (T : Tx K mg a) : a.MillError ∉ eleven a ∧ (eleven a).Nodup := List.nodup_cons.1 T.ex_nd
theorem kit11 (T : Tx K mg a) {C : Addr} (h : C ∈ eleven a) : ∀ D ∈ eleven a, PySem.W.kitOne K (.ref C) (.ref D) = some (decide (C = D)) := by
  intro D hD
  rw [kit_own (exf T h).2 (exf T hD).2 (by simp)]
  have hM : D ≠ a.MillError := fun e => (nd11 T).1 (e ▸ hD)
  by_cases e : C = D
  · subst e; simp
  · have e' : ¬ D = C := fun q => e q.symm
    simp [e, e', hM]
theorem kit11M (T : Tx K mg a) {C : Addr} (h : C ∈ eleven a) : PySem.W.kitOne K (.ref C) (.ref a.MillError) = some true := by
  rw [kit_own (exf T h).2 T.m_MillError (by simp)]
  simp
theorem kitM (T : Tx K mg a) : ∀ D ∈ eleven a, PySem.W.kitOne K (.ref a.MillError) (.ref D) = some (decide (a.MillError = D)) := by
  intro D hD
  rw [kit_own T.m_MillError (exf T hD).2 (by simp)]
  have hM : D ≠ a.MillError := fun e => (nd11 T).1 (e ▸ hD)
  have hM' : ¬ a.MillError = D := fun e => hM e.symm
  simp [hM, hM']
theorem where_in {C : Addr} : ∀ {l : List Addr} {j : Nat}, l.Nodup → l[j]? = some C → l.map (fun D => decide (C = D)) = (List.range l.length).map fun t => decide (((t : Nat) : Int) = (j : Int)) := by
  intro l j nd hj
  apply List.ext_getElem?
  intro i
  rw [List.getElem?_map, List.getElem?_map]
  by_cases hi : i < l.length
  · rw [List.getElem?_range hi, List.getElem?_eq_getElem hi]
    obtain ⟨hj', hjc⟩ := List.getElem?_eq_some_iff.1 hj
    simp only [Option.map_some, Option.some.injEq, decide_eq_decide]
    rw [← hjc, List.getElem_inj nd]
    omega
  · rw [List.getElem?_eq_none (by omega), List.getElem?_eq_none (by rw [List.length_range]; omega)]
    rfl
theorem dens_bl {H : Hp} : ∀ bs : List Bool, Dens H (bs.map V.bl) (bs.map DD.bl)
  | [] => by rw [List.map_nil, List.map_nil, Dens]
  | b :: bs => by rw [List.map_cons, List.map_cons, Dens]; exact ⟨_, _, rfl, by rw [Den], dens_bl bs⟩
theorem dep_bl : ∀ bs : List Bool, dep (.lst (bs.map DD.bl)) ≤ 60 := by
  intro bs
  rw [dep]
  have : depL (bs.map DD.bl) = 0 := by
    induction bs with
    | nil => rw [List.map_nil, depL]
    | cons b bs ih => rw [List.map_cons, depL, ih]; rfl
  omega
theorem den_bl {H : Hp} {p : Addr} {bs : List Bool} (hp : H p = some (.lst (bs.map V.bl))) : Den H (.ref p) (.lst (bs.map DD.bl)) := by
  rw [Den]; exact ⟨_, _, rfl, hp, dens_bl bs⟩
theorem mill_none (T : Tx K mg a) : ((eleven a).map fun D => V.bl (decide (a.MillError = D))) = List.replicate 11 (V.bl false) := by
  have h := (nd11 T).1
  have : ∀ l : List Addr, a.MillError ∉ l → (l.map fun D => V.bl (decide (a.MillError = D))) = List.replicate l.length (V.bl false) := by
    intro l
    induction l with
    | nil => intro _; rfl
    | cons x l ih =>
      intro hn
      rw [List.map_cons, ih (fun z => hn (List.mem_cons_of_mem _ z)), List.length_cons, List.replicate_succ]
      have : ¬ a.MillError = x := fun e => hn (by rw [e]; simp)
      simp [this]
  exact this _ h
def Each (H : Hp) : List Addr → List Addr → Prop
  | [], [] => True
  | x :: xs, C :: cs => H x = some (HO.exc x C) ∧ Each H xs cs
  | _, _ => False
theorem Each.len {H : Hp} : ∀ {xs cs : List Addr}, Each H xs cs → xs.length = cs.length
  | [], [], _ => rfl
  | _ :: _, _ :: _, h => congrArg (· + 1) (Each.len h.2)
  | [], _ :: _, h => h.elim
  | _ :: _, [], h => h.elim
theorem Each.at {H : Hp} : ∀ {xs cs : List Addr} {i : Nat} {x : Addr}, Each H xs cs → xs[i]? = some x → ∃ C, cs[i]? = some C ∧ H x = some (HO.exc x C)
  | _ :: _, _ :: _, 0, _, h, e => by cases e; exact ⟨_, rfl, h.1⟩
  | _ :: _, _ :: _, i + 1, _, h, e => Each.at (i := i) h.2 e
  | [], _, _, _, _, e => by simp at e
  | _ :: _, [], _, _, h, _ => h.elim
theorem Each.sub {G H : Hp} (S : Sub G H) : ∀ {xs cs : List Addr}, Each G xs cs → Each H xs cs
  | [], [], _ => trivial
  | _ :: _, _ :: _, h => ⟨S _ _ h.1, Each.sub S h.2⟩
  | [], _ :: _, h => h.elim
  | _ :: _, [], h => h.elim
theorem Each.lst {H : Hp} {p : Addr} {vs us : List V} (hp : H p = some (.lst vs)) : ∀ {xs cs : List Addr}, Each H xs cs → Each (upd H p (.lst us)) xs cs
  | [], [], _ => trivial
  | _ :: _, _ :: _, h => ⟨keepK h.1 hp (by intro q; cases q), Each.lst hp h.2⟩
  | [], _ :: _, h => h.elim
  | _ :: _, [], h => h.elim
/-- a list of eleven, each of its class -/
def Held (a : Ad) (H : Hp) (p : Addr) : Prop := ∃ xs : List Addr, H p = some (.lst (xs.map V.ref)) ∧ Each H xs (eleven a)
theorem Held.sub {a : Ad} {G H : Hp} {p : Addr} (S : Sub G H) : Held a G p → Held a H p := fun ⟨xs, h1, h2⟩ => ⟨xs, S _ _ h1, h2.sub S⟩
theorem atI_ex {α : Type} {xs : List α} {i : Int} (h0 : 0 ≤ i) (h1 : i < xs.length) : ∃ x, atI xs i = some x := by
  unfold atI ixN
  rw [if_pos h0, if_pos h1, Option.bind_some]
  have hl : i.toNat < xs.length := by omega
  exact ⟨xs[i.toNat], by rw [List.getElem?_eq_getElem hl]⟩
theorem letters : (Str.ofString "abcdefghijklmnopqrstuvwxyz").cps.toList.length = 26 := by decide +kernel
theorem strs_of (cs : List Str) : strsV (cs.map V.str) = some cs := by
  induction cs with
  | nil => rfl
  | cons c cs ih => show (strsV (cs.map V.str)).map _ = _; rw [ih]; rfl
theorem sum_ones {cs : List Str} (h : ∀ c ∈ cs, c.length = 1) : (cs.map (·.length)).sum = cs.length := by
  induction cs with
  | nil => rfl
  | cons c cs ih =>
    rw [List.map_cons, List.sum_cons, h c (by simp), ih fun x hx => h x (by simp [hx]), List.length_cons]
    omega
theorem ok_law (T : Tx K mg a) : FnOk P w K mg base CX0 5 a.law a.law_d ["_law_script"] (sp_law K) := by
  have G_l_purse := ok_l_purse (P := P) (w := w) (base := base) T
  have G_l_draw := ok_l_draw (P := P) (w := w) (base := base) T
  have G_l_kinds := ok_l_kinds (P := P) (w := w) (base := base) T
  have G_run := ok_run (P := P) (w := w) (base := base) T
  refine T.f_law.ok sc_law (fun vs H Q E h => ?_) (fun cdv A outer s H vs Q E hr h => ?_)
  · unfold sp_law at h
    split at h
    · rfl
    · exact h.elim
  · unfold sp_law at h
    split at h
    · have nd := sc_law.nd
      have hu := hu_of hr
      rename_i b
      obtain ⟨ns, hb, hl, h⟩ := h
      refine ⟨_, (pss_cons (ps_set (i := 1) nd rfl (by first | exact Or.inl rfl | exact Or.inr rfl) (pe_call G_l_purse (hr.mono (by decide)) rfl T.g_l_purse T.f_l_purse.kp T.b_l_purse .nil pass0 (pa_cons (qv 0) pa_nil)))
    (pss_cons (ps_set (i := 2) nd rfl (by first | exact Or.inl rfl | exact Or.inr rfl) pe_str)
    (pss_cons (ps_set (i := 3) nd rfl (by first | exact Or.inl rfl | exact Or.inr rfl) (pe_bm PySem.F.plainAttrs_str PySem.F.slot_str_join PySem.F.type_str_join (mt_joinK (K := K) rfl) pe_str (pa_cons (pe_lc (own := ["_law_k"]) (fr := [2, 1]) rfl (by walk_at "comp_ok") (qi_range1 rfl T.z_range (pa_cons (pe_op q_add pe_int (pe_call G_l_draw (hr.mono (by decide)) rfl T.g_l_draw T.f_l_draw.kp T.b_l_draw .nil pass0 (pa_cons (qv 1) (pa_cons pe_int pa_nil)))) pa_nil)) (fun _ _ _ _ => (pg_name (i := 0) (show List.Nodup (α := Str) ["_law_k", "_law_signs", "_law_purse_here"] from by decide +kernel) rfl (by first | exact Or.inl rfl | exact Or.inr rfl))) (fun _ _ _ _ => pts_nil) (fun _ _ _ _ => (pe_ix q_ixS (qv 1) (pe_call G_l_draw (hr.mono (by decide)) rfl T.g_l_draw T.f_l_draw.kp T.b_l_draw .nil pass0 (pa_cons (qv 2) (pa_cons pe_int pa_nil))) (fun _ _ => rfl)))) pa_nil)))
    (pss_cons (ps_set (i := 4) nd rfl (by first | exact Or.inl rfl | exact Or.inr rfl) (pe_lst (pa_cons (pe_exc0 rfl T.e_Full rfl T.g_Full) (pa_cons (pe_exc0 rfl T.e_NoDeed rfl T.g_NoDeed) (pa_cons (pe_exc0 rfl T.e_NoLine rfl T.g_NoLine) (pa_cons (pe_exc0 rfl T.e_NoMachine rfl T.g_NoMachine) (pa_cons (pe_exc0 rfl T.e_NoName rfl T.g_NoName) (pa_cons (pe_exc0 rfl T.e_NoPaper rfl T.g_NoPaper) (pa_cons (pe_exc0 rfl T.e_NoSize rfl T.g_NoSize) (pa_cons (pe_exc0 rfl T.e_NoSuch rfl T.g_NoSuch) (pa_cons (pe_exc0 rfl T.e_NoText rfl T.g_NoText) (pa_cons (pe_exc0 rfl T.e_NoWidth rfl T.g_NoWidth) pa_nil))))))))))))
    (pss_cons (ps_expr (pe_bm PySem.F.plainAttrs_list PySem.F.slot_list_append PySem.F.type_list_append q_app (qv 4) (pa_cons (pe_exc0 rfl T.e_Twice rfl T.g_Twice) pa_nil)))
    (pss_cons (ps_set (i := 5) nd rfl (by first | exact Or.inl rfl | exact Or.inr rfl) (pe_lst (pa_cons (pe_exc rfl T.e_Full rfl T.g_Full (pa_cons (qv 3) pa_nil)) (pa_cons (pe_exc rfl T.e_NoDeed rfl T.g_NoDeed (pa_cons (qv 3) pa_nil)) (pa_cons (pe_exc rfl T.e_NoLine rfl T.g_NoLine (pa_cons (qv 3) pa_nil)) (pa_cons (pe_exc rfl T.e_NoMachine rfl T.g_NoMachine (pa_cons (qv 3) pa_nil)) (pa_cons (pe_exc rfl T.e_NoName rfl T.g_NoName (pa_cons (qv 3) pa_nil)) (pa_cons (pe_exc rfl T.e_NoPaper rfl T.g_NoPaper (pa_cons (qv 3) pa_nil)) (pa_cons (pe_exc rfl T.e_NoSize rfl T.g_NoSize (pa_cons (qv 3) pa_nil)) pa_nil)))))))))
    (pss_cons (ps_set (i := 5) nd rfl (by first | exact Or.inl rfl | exact Or.inr rfl) (pe_op q_cat (qv 5) (pe_lst (pa_cons (pe_exc rfl T.e_NoSuch rfl T.g_NoSuch (pa_cons (qv 3) pa_nil)) (pa_cons (pe_exc rfl T.e_NoText rfl T.g_NoText (pa_cons (qv 3) pa_nil)) (pa_cons (pe_exc rfl T.e_NoWidth rfl T.g_NoWidth (pa_cons (qv 3) pa_nil)) (pa_cons (pe_exc rfl T.e_Twice rfl T.g_Twice (pa_cons (qv 3) pa_nil)) pa_nil)))))))
    (pss_cons (ps_for PassesOwn.never rfl (qi_listK (K := K) rfl (pe_lst (pa_cons (qv 4) (pa_cons (qv 5) pa_nil)))) (pg_name (i := 6) nd rfl (by first | exact Or.inl rfl | exact Or.inr rfl)) (pss_one (ps_for PassesOwn.never rfl (pi_enum rfl T.z_enumerate (pa_cons (qv 6) pa_nil)) (qg_tupK (K := K) (n := 2) rfl rfl (qgs_cons (pg_name (i := 7) nd rfl (by first | exact Or.inl rfl | exact Or.inr rfl)) (qgs_cons (pg_name (i := 8) nd rfl (by first | exact Or.inl rfl | exact Or.inr rfl)) qgs_nil))) (pss_cons (ps_lc (j := 9) rfl nd rfl (by first | exact Or.inl rfl | exact Or.inr rfl) (own := ["_law_j"]) (fr := [7]) (by walk_at "comp_ok") (qi_range1 rfl T.z_range (pa_cons pe_int pa_nil)) (fun _ _ _ _ => (pg_name (i := 0) (show List.Nodup (α := Str) ["_law_j", "_law_k"] from by decide +kernel) rfl (by first | exact Or.inl rfl | exact Or.inr rfl))) (fun _ _ _ _ => pts_nil) (fun _ _ _ _ => (pe_cmpR q_eq (qv 0) (qv 1) (by first | exact nomark _ | rfl))))
            (pss_one (ps_c (PW.pt (pw_orR (pt_c (op_neD hr) (pe_call G_l_kinds (hr.mono (by decide)) rfl T.g_l_kinds T.f_l_kinds.kp T.b_l_kinds .nil pass0 (pa_cons (qv 8) pa_nil)) (qv 9)) (pw_orR (pt_not (pt_e (pe_callB (q_isiK (K := K) rfl) rfl T.z_isinstance bt_isinstance (pa_cons (qv 8) (pa_cons (pe_glob (v := V.ref a.MillError) rfl T.g_MillError rfl) pa_nil))))) (qw_or1 (pt_not (pt_e (pe_callB (q_isiK (K := K) rfl) rfl T.z_isinstance bt_isinstance (pa_cons (qv 8) (pa_cons (pe_bltn (v := V.ty "ValueError") rfl T.z_ValueError bt_ValueError rfl) pa_nil))))))))) (pss_one (ps_ret pe_bl)) pss_nil))))))
    (pss_cons (ps_set (i := 10) nd rfl (by first | exact Or.inl rfl | exact Or.inr rfl) (pe_exc0 rfl T.e_MillError rfl T.g_MillError))
    (pss_cons (ps_try (i := 11) rfl rfl rfl rfl nd rfl rfl rfl T.g_MillError (fun _ _ => (pss_one (ps_expr (pe_callS G_run (hr.mono (by decide)) rfl T.g_run T.f_run.kp T.b_run .nil (passes_try rfl rfl) (pa_cons (pe_op q_rep (pe_lst (pa_cons (pe_lst (pa_cons (pe_tup pa_nil) (pa_cons (pe_tup pa_nil) pa_nil))) pa_nil)) pe_int) (pa_cons (pe_call G_l_draw (hr.mono (by decide)) rfl T.g_l_draw T.f_l_draw.kp T.b_l_draw .nil pass0 (pa_cons (qv 1) (pa_cons pe_int pa_nil))) pa_nil)))))) (fun _ _ => (pss_one (ps_set (i := 10) nd rfl (by first | exact Or.inl rfl | exact Or.inr rfl) (qv 11)))))
    (pss_cons (ps_c (pt_c (op_neD hr) (pe_call G_l_kinds (hr.mono (by decide)) rfl T.g_l_kinds T.f_l_kinds.kp T.b_l_kinds .nil pass0 (pa_cons (qv 10) pa_nil)) (pe_lc (own := ["_law_j"]) (fr := []) rfl (by walk_at "comp_ok") (qi_range1 rfl T.z_range (pa_cons pe_int pa_nil)) (fun _ _ _ _ => (pg_name (i := 0) (show List.Nodup (α := Str) ["_law_j"] from by decide +kernel) rfl (by first | exact Or.inl rfl | exact Or.inr rfl))) (fun _ _ _ _ => pts_nil) (fun _ _ _ _ => (pe_cmpR q_eq (qv 0) pe_int (by first | exact nomark _ | rfl))))) (pss_one (ps_ret pe_bl)) pss_nil)
    (pss_cons (ps_for PassesOwn.never rfl (qi_listK (K := K) rfl (pe_lst (pa_cons (pe_exc0 rfl T.e_MillError rfl T.g_MillError) (pa_cons (pe_exc rfl T.e_MillError rfl T.g_MillError (pa_cons (qv 3) pa_nil)) pa_nil)))) (pg_name (i := 8) nd rfl (by first | exact Or.inl rfl | exact Or.inr rfl)) (pss_one (ps_c (PW.pt (pw_orR (pt_not (pt_e (pe_callB (q_isiK (K := K) rfl) rfl T.z_isinstance bt_isinstance (pa_cons (qv 8) (pa_cons (pe_bltn (v := V.ty "ValueError") rfl T.z_ValueError bt_ValueError rfl) pa_nil))))) (qw_or1 (pt_c (q_inK (K := K) rfl) pe_bl (pe_call G_l_kinds (hr.mono (by decide)) rfl T.g_l_kinds T.f_l_kinds.kp T.b_l_kinds .nil pass0 (pa_cons (qv 8) pa_nil)))))) (pss_one (ps_ret pe_bl)) pss_nil)))
    (pss_one (ps_ret pe_bl)))))))))))))), ?_⟩
      walk_at "w"
      refine ⟨ns, hb, hl, fun pp H1 n m S1 n1 e1 => ?_⟩
      walk_at "w"
      refine ⟨rfl, ?_⟩
      walk_at "w"
      refine ⟨by decide, _, _, e1, fun d n2 d0 d1 => ?_⟩
      generalize hU2 : upd _ pp _ = H2
      have e2 : H2 pp = some (.lst [.int n2, .int m]) := by rw [← hU2]; exact upd_same
      walk_at "w"
      refine ⟨⟨by omega, by omega⟩, ?_⟩
      intro p3 n3
      generalize hU3 : upd _ p3 _ = H3
      obtain ⟨S3, e3⟩ := upd_sub n3 hU3
      clear hU3
      refine comp_range (lo := 0) (n := (1 + d).toNat) (fun i σ H4 => ∃ (v : Option V) (cs : List Str) (k3 : Int), σ = [v, some (.str (Str.ofString "abcdefghijklmnopqrstuvwxyz")), some (.ref pp)] ∧ cs.length = i ∧ (∀ c ∈ cs, c.length = 1) ∧ H4 p3 = some (.lst (cs.map V.str)) ∧ H4 pp = some (.lst [.int k3, .int m])) ?_ ?_ ?_
      · exact ⟨none, [], n2, rfl, rfl, by simp, e3, S3 _ _ e2⟩
      · rintro i σ H4 hi ⟨v, cs, k3, rfl, hc, h1, g1, g2⟩
        walk_at "w"
        have ne : p3 ≠ pp := (ne_of_none e2 n3).symm
        refine ⟨by decide, _, _, g2, fun d' k4 d0' d1' => ?_⟩
        obtain ⟨c, hcc⟩ := atI_ex (xs := (Str.ofString "abcdefghijklmnopqrstuvwxyz").cps.toList) d0' (by rw [letters]; exact d1')
        walk_at "w"
        refine ⟨c, by decide +kernel, hcc, _, (upd_ne ne).trans g1, by rw [List.length_map, hc]; exact Nat.lt_of_lt_of_le (show i < 7 by omega) (by decide), _, cs ++ [⟨#[c]⟩], k4, rfl, by simp [hc], ?_, ?_, ?_⟩
        · intro x hx
          rcases List.mem_append.1 hx with hx | hx
          · exact h1 x hx
          · rw [List.mem_singleton.1 hx]; rfl
        · rw [upd_same, List.map_append]; rfl
        · rw [upd_ne ne.symm, upd_same]
      · rintro σ H4 ⟨v, cs, k4, rfl, hc, h1, g1, g2⟩
        walk_at "w"
        refine ⟨_, cs, SqL.of g1, strs_of cs, by rw [sum_ones h1, hc]; show _ + _ * 0 ≤ _; omega, ?_⟩
        generalize Txt.join _ cs = z
        clear n1 e1 S1 S3 e3 g1 h1 hc e2 hU2
        walk_at "w"
        refine ⟨by decide, ?_⟩
        intro px0 nx0
        generalize hUx0 : upd _ px0 _ = Hx0
        obtain ⟨Sx0, ex0⟩ := upd_sub nx0 hUx0
        clear hUx0
        have Tx0 := Sx0
        walk_at "w"
        refine ⟨by decide, ?_⟩
        intro px1 nx1
        generalize hUx1 : upd _ px1 _ = Hx1
        obtain ⟨Sx1, ex1⟩ := upd_sub nx1 hUx1
        clear hUx1
        have Tx1 := Tx0.trans Sx1
        walk_at "w"
        refine ⟨by decide, ?_⟩
        intro px2 nx2
        generalize hUx2 : upd _ px2 _ = Hx2
        obtain ⟨Sx2, ex2⟩ := upd_sub nx2 hUx2
        clear hUx2
        have Tx2 := Tx1.trans Sx2
        walk_at "w"
        refine ⟨by decide, ?_⟩
        intro px3 nx3
        generalize hUx3 : upd _ px3 _ = Hx3
        obtain ⟨Sx3, ex3⟩ := upd_sub nx3 hUx3
        clear hUx3
        have Tx3 := Tx2.trans Sx3
        walk_at "w"
        refine ⟨by decide, ?_⟩
        intro px4 nx4
        generalize hUx4 : upd _ px4 _ = Hx4
        obtain ⟨Sx4, ex4⟩ := upd_sub nx4 hUx4
        clear hUx4
        have Tx4 := Tx3.trans Sx4
        walk_at "w"
        refine ⟨by decide, ?_⟩
        intro px5 nx5
        generalize hUx5 : upd _ px5 _ = Hx5
        obtain ⟨Sx5, ex5⟩ := upd_sub nx5 hUx5
        clear hUx5
        have Tx5 := Tx4.trans Sx5
        walk_at "w"
        refine ⟨by decide, ?_⟩
        intro px6 nx6
        generalize hUx6 : upd _ px6 _ = Hx6
        obtain ⟨Sx6, ex6⟩ := upd_sub nx6 hUx6
        clear hUx6
        have Tx6 := Tx5.trans Sx6
        walk_at "w"
        refine ⟨by decide, ?_⟩
        intro px7 nx7
        generalize hUx7 : upd _ px7 _ = Hx7
        obtain ⟨Sx7, ex7⟩ := upd_sub nx7 hUx7
        clear hUx7
        have Tx7 := Tx6.trans Sx7
        walk_at "w"
        refine ⟨by decide, ?_⟩
        intro px8 nx8
        generalize hUx8 : upd _ px8 _ = Hx8
        obtain ⟨Sx8, ex8⟩ := upd_sub nx8 hUx8
        clear hUx8
        have Tx8 := Tx7.trans Sx8
        walk_at "w"
        refine ⟨by decide, ?_⟩
        intro px9 nx9
        generalize hUx9 : upd _ px9 _ = Hx9
        obtain ⟨Sx9, ex9⟩ := upd_sub nx9 hUx9
        clear hUx9
        have Tx9 := Tx8.trans Sx9
        walk_at "w"
        refine ⟨by show 10 ≤ sizeLine; decide, ?_⟩
        intro plb nlb
        generalize hUlb : upd _ plb _ = Hlb
        obtain ⟨Slb, elb⟩ := upd_sub nlb hUlb
        clear hUlb
        have Tlb := Tx9.trans Slb
        walk_at "w"
        refine ⟨.inl ⟨rfl, _, SqL.of elb⟩, ?_⟩
        walk_at "w"
        refine ⟨by decide, ?_⟩
        intro px10 nx10
        generalize hUx10 : upd _ px10 _ = Hx10
        obtain ⟨Sx10, ex10⟩ := upd_sub nx10 hUx10
        clear hUx10
        have Tx10 := Tlb.trans Sx10
        walk_at "w"
        refine ⟨_, Sx10 _ _ elb, by show 10 < sizeLine; decide, ?_⟩
        have hx : Each Hx10 [px0, px1, px2, px3, px4, px5, px6, px7, px8, px9, px10] (eleven a) := by
          exact ⟨Sx10 _ _ (Slb _ _ (Sx9 _ _ (Sx8 _ _ (Sx7 _ _ (Sx6 _ _ (Sx5 _ _ (Sx4 _ _ (Sx3 _ _ (Sx2 _ _ (Sx1 _ _ (ex0))))))))))), Sx10 _ _ (Slb _ _ (Sx9 _ _ (Sx8 _ _ (Sx7 _ _ (Sx6 _ _ (Sx5 _ _ (Sx4 _ _ (Sx3 _ _ (Sx2 _ _ (ex1)))))))))), Sx10 _ _ (Slb _ _ (Sx9 _ _ (Sx8 _ _ (Sx7 _ _ (Sx6 _ _ (Sx5 _ _ (Sx4 _ _ (Sx3 _ _ (ex2))))))))), Sx10 _ _ (Slb _ _ (Sx9 _ _ (Sx8 _ _ (Sx7 _ _ (Sx6 _ _ (Sx5 _ _ (Sx4 _ _ (ex3)))))))), Sx10 _ _ (Slb _ _ (Sx9 _ _ (Sx8 _ _ (Sx7 _ _ (Sx6 _ _ (Sx5 _ _ (ex4))))))), Sx10 _ _ (Slb _ _ (Sx9 _ _ (Sx8 _ _ (Sx7 _ _ (Sx6 _ _ (ex5)))))), Sx10 _ _ (Slb _ _ (Sx9 _ _ (Sx8 _ _ (Sx7 _ _ (ex6))))), Sx10 _ _ (Slb _ _ (Sx9 _ _ (Sx8 _ _ (ex7)))), Sx10 _ _ (Slb _ _ (Sx9 _ _ (ex8))), Sx10 _ _ (Slb _ _ (ex9)), ex10, trivial⟩
        have gp := keepK (u := .lst ([V.ref px0, V.ref px1, V.ref px2, V.ref px3, V.ref px4, V.ref px5, V.ref px6, V.ref px7, V.ref px8, V.ref px9] ++ [V.ref px10])) (Tx10 _ _ g2) (Sx10 _ _ elb) (by intro q; cases q)
        have hx := hx.lst (us := ([V.ref px0, V.ref px1, V.ref px2, V.ref px3, V.ref px4, V.ref px5, V.ref px6, V.ref px7, V.ref px8, V.ref px9] ++ [V.ref px10])) (Sx10 _ _ elb)
        have hb0 : Held a (upd Hx10 plb (.lst ([V.ref px0, V.ref px1, V.ref px2, V.ref px3, V.ref px4, V.ref px5, V.ref px6, V.ref px7, V.ref px8, V.ref px9] ++ [V.ref px10]))) plb := ⟨[px0, px1, px2, px3, px4, px5, px6, px7, px8, px9, px10], upd_same, hx⟩
        clear hx
        walk_at "w"
        generalize upd Hx10 plb (HO.lst _) = Hm at gp hb0 ⊢
        clear Tx0 Tx1 Tx2 Tx3 Tx4 Tx5 Tx6 Tx7 Tx8 Tx9 Tlb Tx10
        clear Sx0 Sx1 Sx2 Sx3 Sx4 Sx5 Sx6 Sx7 Sx8 Sx9 Slb Sx10
        clear ex0 nx0 ex1 nx1 ex2 nx2 ex3 nx3 ex4 nx4 ex5 nx5 ex6 nx6 ex7 nx7 ex8 nx8 ex9 nx9 elb nlb ex10 nx10
        walk_at "w"
        refine ⟨by show 1 ≤ sizeLine; decide, ?_⟩
        intro py0 ny0
        generalize hUy0 : upd _ py0 _ = Hy0
        obtain ⟨Sy0, ey0⟩ := upd_sub ny0 hUy0
        clear hUy0
        have Ty0 := Sy0
        walk_at "w"
        refine ⟨by show 1 ≤ sizeLine; decide, ?_⟩
        intro py1 ny1
        generalize hUy1 : upd _ py1 _ = Hy1
        obtain ⟨Sy1, ey1⟩ := upd_sub ny1 hUy1
        clear hUy1
        have Ty1 := Ty0.trans Sy1
        walk_at "w"
        refine ⟨by show 1 ≤ sizeLine; decide, ?_⟩
        intro py2 ny2
        generalize hUy2 : upd _ py2 _ = Hy2
        obtain ⟨Sy2, ey2⟩ := upd_sub ny2 hUy2
        clear hUy2
        have Ty2 := Ty1.trans Sy2
        walk_at "w"
        refine ⟨by show 1 ≤ sizeLine; decide, ?_⟩
        intro py3 ny3
        generalize hUy3 : upd _ py3 _ = Hy3
        obtain ⟨Sy3, ey3⟩ := upd_sub ny3 hUy3
        clear hUy3
        have Ty3 := Ty2.trans Sy3
        walk_at "w"
        refine ⟨by show 1 ≤ sizeLine; decide, ?_⟩
        intro py4 ny4
        generalize hUy4 : upd _ py4 _ = Hy4
        obtain ⟨Sy4, ey4⟩ := upd_sub ny4 hUy4
        clear hUy4
        have Ty4 := Ty3.trans Sy4
        walk_at "w"
        refine ⟨by show 1 ≤ sizeLine; decide, ?_⟩
        intro py5 ny5
        generalize hUy5 : upd _ py5 _ = Hy5
        obtain ⟨Sy5, ey5⟩ := upd_sub ny5 hUy5
        clear hUy5
        have Ty5 := Ty4.trans Sy5
        walk_at "w"
        refine ⟨by show 1 ≤ sizeLine; decide, ?_⟩
        intro py6 ny6
        generalize hUy6 : upd _ py6 _ = Hy6
        obtain ⟨Sy6, ey6⟩ := upd_sub ny6 hUy6
        clear hUy6
        have Ty6 := Ty5.trans Sy6
        walk_at "w"
        refine ⟨by show 7 ≤ sizeLine; decide, ?_⟩
        intro pla nla
        generalize hUla : upd _ pla _ = Hla
        obtain ⟨Sla, ela⟩ := upd_sub nla hUla
        clear hUla
        have Tla := Ty6.trans Sla
        walk_at "w"
        refine ⟨by show 1 ≤ sizeLine; decide, ?_⟩
        intro py7 ny7
        generalize hUy7 : upd _ py7 _ = Hy7
        obtain ⟨Sy7, ey7⟩ := upd_sub ny7 hUy7
        clear hUy7
        have Ty7 := Tla.trans Sy7
        walk_at "w"
        refine ⟨by show 1 ≤ sizeLine; decide, ?_⟩
        intro py8 ny8
        generalize hUy8 : upd _ py8 _ = Hy8
        obtain ⟨Sy8, ey8⟩ := upd_sub ny8 hUy8
        clear hUy8
        have Ty8 := Ty7.trans Sy8
        walk_at "w"
        refine ⟨by show 1 ≤ sizeLine; decide, ?_⟩
        intro py9 ny9
        generalize hUy9 : upd _ py9 _ = Hy9
        obtain ⟨Sy9, ey9⟩ := upd_sub ny9 hUy9
        clear hUy9
        have Ty9 := Ty8.trans Sy9
        walk_at "w"
        refine ⟨by show 1 ≤ sizeLine; decide, ?_⟩
        intro py10 ny10
        generalize hUy10 : upd _ py10 _ = Hy10
        obtain ⟨Sy10, ey10⟩ := upd_sub ny10 hUy10
        clear hUy10
        have Ty10 := Ty9.trans Sy10
        walk_at "w"
        refine ⟨by show 4 ≤ sizeLine; decide, ?_⟩
        intro plc nlc
        generalize hUlc : upd _ plc _ = Hlc
        obtain ⟨Slc, elc⟩ := upd_sub nlc hUlc
        clear hUlc
        have Tlc := Ty10.trans Slc
        walk_at "w"
        refine ⟨_, _, Slc _ _ (Sy10 _ _ (Sy9 _ _ (Sy8 _ _ (Sy7 _ _ (ela))))), elc, by show 11 ≤ sizeLine; decide, ?_⟩
        intro plt nlt
        generalize hUlt : upd _ plt _ = Hlt
        obtain ⟨Slt, elt⟩ := upd_sub nlt hUlt
        clear hUlt
        have Tlt := Tlc.trans Slt
        have hy : Each Hlt [py0, py1, py2, py3, py4, py5, py6, py7, py8, py9, py10] (eleven a) := by
          exact ⟨Slt _ _ (Slc _ _ (Sy10 _ _ (Sy9 _ _ (Sy8 _ _ (Sy7 _ _ (Sla _ _ (Sy6 _ _ (Sy5 _ _ (Sy4 _ _ (Sy3 _ _ (Sy2 _ _ (Sy1 _ _ (ey0))))))))))))), Slt _ _ (Slc _ _ (Sy10 _ _ (Sy9 _ _ (Sy8 _ _ (Sy7 _ _ (Sla _ _ (Sy6 _ _ (Sy5 _ _ (Sy4 _ _ (Sy3 _ _ (Sy2 _ _ (ey1)))))))))))), Slt _ _ (Slc _ _ (Sy10 _ _ (Sy9 _ _ (Sy8 _ _ (Sy7 _ _ (Sla _ _ (Sy6 _ _ (Sy5 _ _ (Sy4 _ _ (Sy3 _ _ (ey2))))))))))), Slt _ _ (Slc _ _ (Sy10 _ _ (Sy9 _ _ (Sy8 _ _ (Sy7 _ _ (Sla _ _ (Sy6 _ _ (Sy5 _ _ (Sy4 _ _ (ey3)))))))))), Slt _ _ (Slc _ _ (Sy10 _ _ (Sy9 _ _ (Sy8 _ _ (Sy7 _ _ (Sla _ _ (Sy6 _ _ (Sy5 _ _ (ey4))))))))), Slt _ _ (Slc _ _ (Sy10 _ _ (Sy9 _ _ (Sy8 _ _ (Sy7 _ _ (Sla _ _ (Sy6 _ _ (ey5)))))))), Slt _ _ (Slc _ _ (Sy10 _ _ (Sy9 _ _ (Sy8 _ _ (Sy7 _ _ (Sla _ _ (ey6))))))), Slt _ _ (Slc _ _ (Sy10 _ _ (Sy9 _ _ (Sy8 _ _ (ey7))))), Slt _ _ (Slc _ _ (Sy10 _ _ (Sy9 _ _ (ey8)))), Slt _ _ (Slc _ _ (Sy10 _ _ (ey9))), Slt _ _ (Slc _ _ (ey10)), trivial⟩
        have ht0 : Held a Hlt plt := ⟨[py0, py1, py2, py3, py4, py5, py6, py7, py8, py9, py10], elt, hy⟩
        have hb0 := hb0.sub Tlt
        have gp := Tlt _ _ gp
        clear hy
        clear Ty0 Ty1 Ty2 Ty3 Ty4 Ty5 Ty6 Tla Ty7 Ty8 Ty9 Ty10 Tlc Tlt
        clear Sy0 Sy1 Sy2 Sy3 Sy4 Sy5 Sy6 Sla Sy7 Sy8 Sy9 Sy10 Slc Slt
        clear ey0 ny0 ey1 ny1 ey2 ny2 ey3 ny3 ey4 ny4 ey5 ny5 ey6 ny6 ela nla ey7 ny7 ey8 ny8 ey9 ny9 ey10 ny10 elc nlc elt nlt
        walk_at "w"
        refine ⟨by show 2 ≤ sizeLine; decide, ?_⟩
        intro plo nlo
        generalize hUlo : upd _ plo _ = Hlo
        obtain ⟨Slo, elo⟩ := upd_sub nlo hUlo
        clear hUlo
        have Tlo := Slo
        have hb0 := hb0.sub Slo
        have ht0 := ht0.sub Slo
        have gp := Slo _ _ gp
        walk_at "w"
        refine ⟨⟨_, SqL.of elo⟩, ?_⟩
        refine for_list (K := K) (a := plo) (xs := [.ref plb, .ref plt]) (fun i σ H5 => ∃ v6 v7 v8 v9 : Option V, σ = [some (.ref b), some (.ref pp), some (.str (Str.ofString "abcdefghijklmnopqrstuvwxyz")), some (.str z), some (.ref plb), some (.ref plt), v6, v7, v8, v9, none, none] ∧ Sub Hlo H5) ?_ ?_ ?_ ?_
        · exact ⟨none, none, none, none, rfl, Sub.refl⟩
        · rintro i σ H5 _ ⟨v6, v7, v8, v9, rfl, S5⟩
          exact SqL.of (S5 _ _ elo)
        · rintro i x σ H5 hi ⟨v6, v7, v8, v9, rfl, S5⟩
          obtain ⟨q, rfl, hq⟩ : ∃ q, x = .ref q ∧ Held a Hlo q := by
            match i, hi with
            | 0, hi => cases hi; exact ⟨_, rfl, hb0⟩
            | 1, hi => cases hi; exact ⟨_, rfl, ht0⟩
            | i + 2, hi => simp at hi
          obtain ⟨xs, hq1, hq2⟩ := hq
          walk_at "w"
          refine ⟨⟨_, SqL.of (S5 _ _ hq1)⟩, ?_⟩
          refine for_enum (K := K) (a := q) (xs := xs.map V.ref) (fun i σ H6 => ∃ v7 v8 v9 : Option V, σ = [some (.ref b), some (.ref pp), some (.str (Str.ofString "abcdefghijklmnopqrstuvwxyz")), some (.str z), some (.ref plb), some (.ref plt), some (.ref q), v7, v8, v9, none, none] ∧ Sub Hlo H6) ?_ ?_ ?_ ?_
          · exact ⟨v7, v8, v9, rfl, S5⟩
          · rintro j σ H6 _ ⟨v7, v8, v9, rfl, S6⟩
            exact SqL.of (S6 _ _ hq1)
          · rintro j x σ H6 pt hj ⟨v7, v8, v9, rfl, S6⟩ nt
            generalize hUt : upd _ pt _ = Ht
            obtain ⟨St, et⟩ := upd_sub nt hUt
            clear hUt
            rw [List.getElem?_map] at hj
            obtain ⟨x, hj1, rfl⟩ := Option.map_eq_some_iff.1 hj
            obtain ⟨C, hC, hx⟩ := hq2.at hj1
            have T6 := S6.trans St
            walk_at "w"
            refine ⟨_, SqT.of et, rfl, ?_⟩
            walk_at "w"
            refine ⟨⟨by decide, by decide⟩, fun pd nd1 => ?_⟩
            refine comp_range (lo := 0) (n := 11) (fun k σ H7 => ∃ v : Option V, σ = [v, some (.int j)] ∧ H7 = upd Ht pd (.lst ((List.range k).map fun t => V.bl (decide (((t : Nat) : Int) = (j : Int)))))) ?_ ?_ ?_
            · exact ⟨none, rfl, rfl⟩
            · rintro k σ H7 hk ⟨v, rfl, rfl⟩
              walk_at "w"
              refine ⟨_, upd_same, ?_, _, rfl, ?_⟩
              · rw [List.length_map, List.length_range]; exact Nat.lt_of_lt_of_le hk (by decide)
              · rw [upd_upd, List.range_succ, List.map_append]
                simp
            · rintro σ H7 ⟨v, rfl, rfl⟩
              have hCm : C ∈ eleven a := List.mem_of_getElem? hC
              have x8 := keepN (u := .lst ((List.range 11).map fun t => V.bl (decide (((t : Nat) : Int) = (j : Int))))) (T6 _ _ hx) nd1
              have d8 := @upd_same Ht pd (.lst ((List.range 11).map fun t => V.bl (decide (((t : Nat) : Int) = (j : Int)))))
              have S8 := T6.trans (Sub.new (o := .lst ((List.range 11).map fun t => V.bl (decide (((t : Nat) : Int) = (j : Int))))) nd1)
              walk_at "w"
              generalize upd Ht pd _ = H8 at x8 d8 S8 ⊢
              refine ⟨C, x8, (exf T hCm).1, kit11 T hCm, fun pk H9 S9 _ e9 => ?_⟩
              walk_at "w"
              have d9 : H9 pd = some (.lst (((eleven a).map fun D => decide (C = D)).map V.bl)) := by
                rw [where_in (nd11 T).2 hC, S9 _ _ d8, List.map_map]; rfl
              refine ⟨_, _, den_bl (bs := (eleven a).map fun D => decide (C = D)) (by rw [e9, List.map_map]; rfl), den_bl d9, dep_bl _, ?_⟩
              walk_at "w"
              refine ifB.no (by rw [eqD_refl]; rfl) ?_
              walk_at "w"
              refine ⟨_, _, .exc (S9 _ _ x8) (exf T hCm).1, rfl, kit11M T hCm, ?_⟩
              walk_at "w"
              refine ifB.no rfl ?_
              walk_at "w"
              refine ⟨_, _, .exc (S9 _ _ x8) (exf T hCm).1, rfl, kit_ve (exf T hCm).2, ?_⟩
              walk_at "w"
              refine ifB.no rfl ?_
              exact ⟨_, _, _, rfl, S8.trans S9⟩
          · rintro σ H6 ⟨v7, v8, v9, rfl, S6⟩
            exact ⟨_, v7, v8, v9, rfl, S6⟩
        · rintro σ H5 ⟨v6, v7, v8, v9, rfl, S5⟩
          walk_at "w"
          refine ⟨by decide, ?_⟩
          intro pm0 nm0
          generalize hUm0 : upd _ pm0 _ = Hm0
          obtain ⟨Sm0, em0⟩ := upd_sub nm0 hUm0
          clear hUm0
          have Tm0 := Sm0
          have gp := (S5.trans Sm0) _ _ gp
          walk_at "w"
          refine ⟨by show 0 ≤ sizeLine; decide, ?_⟩
          intro pt0 nt0
          generalize hUt0 : upd _ pt0 _ = Ht0
          obtain ⟨St0, et0⟩ := upd_sub nt0 hUt0
          clear hUt0
          have Tt0 := Tm0.trans St0
          walk_at "w"
          refine ⟨by show 0 ≤ sizeLine; decide, ?_⟩
          intro pt1 nt1
          generalize hUt1 : upd _ pt1 _ = Ht1
          obtain ⟨St1, et1⟩ := upd_sub nt1 hUt1
          clear hUt1
          have Tt1 := Tt0.trans St1
          walk_at "w"
          refine ⟨by show 2 ≤ sizeLine; decide, ?_⟩
          intro pl2 nl2
          generalize hUl2 : upd _ pl2 _ = Hl2
          obtain ⟨Sl2, el2⟩ := upd_sub nl2 hUl2
          clear hUl2
          have Tl2 := Tt1.trans Sl2
          walk_at "w"
          refine ⟨by show 1 ≤ sizeLine; decide, ?_⟩
          intro pl1 nl1
          generalize hUl1 : upd _ pl1 _ = Hl1
          obtain ⟨Sl1, el1⟩ := upd_sub nl1 hUl1
          clear hUl1
          have Tl1 := Tl2.trans Sl1
          walk_at "w"
          refine ⟨_, el1, by decide, by decide, by show 5 ≤ sizeLine; decide, ?_⟩
          intro pl5 nl5
          generalize hUl5 : upd _ pl5 _ = Hl5
          obtain ⟨Sl5, el5⟩ := upd_sub nl5 hUl5
          clear hUl5
          have Tl5 := Tl1.trans Sl5
          have gp := ((((St0.trans St1).trans Sl2).trans Sl1).trans Sl5) _ _ gp
          walk_at "w"
          refine ⟨by decide, _, _, gp, fun d5 n5 _ _ => ?_⟩
          have hl5 := keepK (u := .lst [.int n5, .int m]) el5 gp (by intro q; cases q)
          generalize upd _ pp _ = Hd at hl5 ⊢
          walk_at "w"
          refine ⟨_, SqL.of hl5, Nat.le_refl 5, _, rfl, (exm_own T.m_NoMachine T.m_MillError).trans (by simp), ?_⟩
          intro pex nex
          generalize hUex : upd _ pex _ = Hex
          obtain ⟨Sex, eex⟩ := upd_sub nex hUex
          clear hUex
          have Tex := Sex
          walk_at "w"
          have hNm : a.NoMachine ∈ eleven a := by simp [eleven]
          refine ⟨_, eex, (exf T hNm).1, kit11 T hNm, fun pk H9 S9 _ e9 => ?_⟩
          walk_at "w"
          refine ⟨⟨by decide, by decide⟩, fun pd nd1 => ?_⟩
          refine comp_range (lo := 0) (n := 11) (fun k σ H7 => ∃ v : Option V, σ = [v] ∧ H7 = upd H9 pd (.lst ((List.range k).map fun t => V.bl (decide (((t : Nat) : Int) = (3 : Int)))))) ?_ ?_ ?_
          · exact ⟨none, rfl, rfl⟩
          · rintro k σ H7 hk ⟨v, rfl, rfl⟩
            walk_at "w"
            refine ⟨_, upd_same, ?_, _, rfl, ?_⟩
            · rw [List.length_map, List.length_range]; exact Nat.lt_of_lt_of_le hk (by decide)
            · rw [upd_upd, List.range_succ, List.map_append]
              simp
          · rintro σ H7 ⟨v, rfl, rfl⟩
            have k8 := keepN (u := .lst ((List.range 11).map fun t => V.bl (decide (((t : Nat) : Int) = (3 : Int))))) e9 nd1
            have d8 := @upd_same H9 pd (.lst ((List.range 11).map fun t => V.bl (decide (((t : Nat) : Int) = (3 : Int)))))
            walk_at "w"
            generalize upd H9 pd _ = H8 at k8 d8 ⊢
            have d8 : H8 pd = some (.lst (((eleven a).map fun D => decide (a.NoMachine = D)).map V.bl)) := by
              rw [where_in (j := 3) (nd11 T).2 rfl, d8, List.map_map]; rfl
            refine ⟨_, _, den_bl (bs := (eleven a).map fun D => decide (a.NoMachine = D)) (by rw [k8, List.map_map]; rfl), den_bl d8, dep_bl _, ?_⟩
            walk_at "w"
            refine ifB.no (by rw [eqD_refl]; rfl) ?_
            walk_at "w"
            refine ⟨by decide, ?_⟩
            intro pw0 nw0
            generalize hUw0 : upd _ pw0 _ = Hw0
            obtain ⟨Sw0, ew0⟩ := upd_sub nw0 hUw0
            clear hUw0
            have Tw0 := Sw0
            walk_at "w"
            refine ⟨by show 1 ≤ sizeLine; decide, ?_⟩
            intro pw1 nw1
            generalize hUw1 : upd _ pw1 _ = Hw1
            obtain ⟨Sw1, ew1⟩ := upd_sub nw1 hUw1
            clear hUw1
            have Tw1 := Tw0.trans Sw1
            walk_at "w"
            refine ⟨by show 2 ≤ sizeLine; decide, ?_⟩
            intro pwl nwl
            generalize hUwl : upd _ pwl _ = Hwl
            obtain ⟨Swl, ewl⟩ := upd_sub nwl hUwl
            clear hUwl
            have Twl := Tw1.trans Swl
            walk_at "w"
            refine ⟨⟨_, SqL.of ewl⟩, ?_⟩
            refine for_list (K := K) (a := pwl) (xs := [.ref pw0, .ref pw1]) (fun i σ H5 => ∃ v8 : Option V, σ = [some (.ref b), some (.ref pp), some (.str (Str.ofString "abcdefghijklmnopqrstuvwxyz")), some (.str z), some (.ref plb), some (.ref plt), v6, v7, v8, v9, some (.ref pex), none] ∧ Sub Hwl H5) ?_ ?_ ?_ ?_
            · exact ⟨_, rfl, Sub.refl⟩
            · rintro i σ H5 _ ⟨v8, rfl, S5⟩
              exact SqL.of (S5 _ _ ewl)
            · rintro i x σ H5 hi ⟨v8, rfl, S5⟩
              obtain ⟨q, rfl, hq⟩ : ∃ q, x = .ref q ∧ Hwl q = some (HO.exc q a.MillError) := by
                match i, hi with
                | 0, hi => cases hi; exact ⟨_, rfl, (Sw1.trans Swl) _ _ ew0⟩
                | 1, hi => cases hi; exact ⟨_, rfl, Swl _ _ ew1⟩
                | i + 2, hi => simp at hi
              walk_at "w"
              refine ⟨_, _, .exc (S5 _ _ hq) T.t_MillError, rfl, kit_ve T.m_MillError, ?_⟩
              walk_at "w"
              refine ifB.no rfl ?_
              walk_at "w"
              refine ⟨_, S5 _ _ hq, T.t_MillError, kitM T, fun pk H9 S9 _ e9 => ?_⟩
              rw [mill_none T] at e9
              walk_at "w"
              refine ⟨_, .inl (SqL.of e9), rfl, rfl, ?_⟩
              walk_at "w"
              refine ifB.no rfl ?_
              exact ⟨_, rfl, S5.trans S9⟩
            · rintro σ H5 ⟨v8, rfl, S5⟩
              exact h _
    · exact h.elim
end
theorem all_mk {l : PySem.W.OpenLaw} {w : World} {K : PySem.W.Frag} {h : Heap} {mg : Str → Option Value} {fa : Addr} {tk_MOST_ROWS : Tok} {x_l_mixed x_l_draw x_l_purse x_l_kinds x_is_machine x_must_machine x_begun x_run x_law x_MillError x_Full x_NoDeed x_NoLine x_NoMachine x_NoName x_NoPaper x_NoSize x_NoSuch x_NoText x_NoWidth x_Twice : Addr} (X : K.In h) (G : h.Ns mainGlobals mg) (hfa : mg "law" = some (.ref fa))
    {od_l_mixed an_l_mixed od_l_draw an_l_draw od_l_purse an_l_purse od_l_kinds an_l_kinds od_is_machine an_is_machine od_must_machine an_must_machine od_begun an_begun od_run an_run od_law an_law : Option Addr} {sl_l_mixed sl_l_draw sl_l_purse sl_l_kinds sl_is_machine sl_must_machine sl_begun sl_run sl_law : Array (Option Value)} {oc_l_mixed kV_l_mixed dc_l_mixed pm_l_mixed cd_l_mixed ct_l_mixed oc_l_draw kV_l_draw dc_l_draw pm_l_draw cd_l_draw ct_l_draw oc_l_purse kV_l_purse dc_l_purse pm_l_purse cd_l_purse ct_l_purse oc_l_kinds kV_l_kinds dc_l_kinds pm_l_kinds cd_l_kinds ct_l_kinds oc_is_machine kV_is_machine dc_is_machine pm_is_machine cd_is_machine ct_is_machine oc_must_machine kV_must_machine dc_must_machine pm_must_machine cd_must_machine ct_must_machine oc_begun kV_begun dc_begun pm_begun cd_begun ct_begun oc_run kV_run dc_run pm_run cd_run ct_run oc_law kV_law dc_law pm_law cd_law ct_law : Value}
    {cx_MillError cx_Full cx_NoDeed cx_NoLine cx_NoMachine cx_NoName cx_NoPaper cx_NoSize cx_NoSuch cx_NoText cx_NoWidth cx_Twice : ClassData}
    (a_l_mixed : PySem.W.nsIn K mainGlobals "_law_mixed" = some (some (.ref x_l_mixed)))
    (l_l_mixed : K.lookup x_l_mixed = some ⟨oc_l_mixed, od_l_mixed, .func (PySem.W.fnOf "_law_mixed" "_law_mixed" (defArgs s_l_mixed) (defBody s_l_mixed) (defScope s_l_mixed) .none kV_l_mixed dc_l_mixed pm_l_mixed an_l_mixed cd_l_mixed ct_l_mixed), sl_l_mixed⟩)
    (c_l_mixed : PySem.W.codeIn K cd_l_mixed "_law_mixed" = true)
    (k_l_mixed : PySem.W.keepIn K (.ref x_l_mixed) = true)
    (a_l_draw : PySem.W.nsIn K mainGlobals "_law_draw" = some (some (.ref x_l_draw)))
    (l_l_draw : K.lookup x_l_draw = some ⟨oc_l_draw, od_l_draw, .func (PySem.W.fnOf "_law_draw" "_law_draw" (defArgs s_l_draw) (defBody s_l_draw) (defScope s_l_draw) .none kV_l_draw dc_l_draw pm_l_draw an_l_draw cd_l_draw ct_l_draw), sl_l_draw⟩)
    (c_l_draw : PySem.W.codeIn K cd_l_draw "_law_draw" = true)
    (k_l_draw : PySem.W.keepIn K (.ref x_l_draw) = true)
    (a_l_purse : PySem.W.nsIn K mainGlobals "_law_purse" = some (some (.ref x_l_purse)))
    (l_l_purse : K.lookup x_l_purse = some ⟨oc_l_purse, od_l_purse, .func (PySem.W.fnOf "_law_purse" "_law_purse" (defArgs s_l_purse) (defBody s_l_purse) (defScope s_l_purse) .none kV_l_purse dc_l_purse pm_l_purse an_l_purse cd_l_purse ct_l_purse), sl_l_purse⟩)
    (c_l_purse : PySem.W.codeIn K cd_l_purse "_law_purse" = true)
    (k_l_purse : PySem.W.keepIn K (.ref x_l_purse) = true)
    (a_l_kinds : PySem.W.nsIn K mainGlobals "_law_kinds" = some (some (.ref x_l_kinds)))
    (l_l_kinds : K.lookup x_l_kinds = some ⟨oc_l_kinds, od_l_kinds, .func (PySem.W.fnOf "_law_kinds" "_law_kinds" (defArgs s_l_kinds) (defBody s_l_kinds) (defScope s_l_kinds) .none kV_l_kinds dc_l_kinds pm_l_kinds an_l_kinds cd_l_kinds ct_l_kinds), sl_l_kinds⟩)
    (c_l_kinds : PySem.W.codeIn K cd_l_kinds "_law_kinds" = true)
    (k_l_kinds : PySem.W.keepIn K (.ref x_l_kinds) = true)
    (a_is_machine : PySem.W.nsIn K mainGlobals "is_machine" = some (some (.ref x_is_machine)))
    (l_is_machine : K.lookup x_is_machine = some ⟨oc_is_machine, od_is_machine, .func (PySem.W.fnOf "is_machine" "is_machine" (defArgs s_is_machine) (defBody s_is_machine) (defScope s_is_machine) .none kV_is_machine dc_is_machine pm_is_machine an_is_machine cd_is_machine ct_is_machine), sl_is_machine⟩)
    (c_is_machine : PySem.W.codeIn K cd_is_machine "is_machine" = true)
    (k_is_machine : PySem.W.keepIn K (.ref x_is_machine) = true)
    (a_must_machine : PySem.W.nsIn K mainGlobals "must_machine" = some (some (.ref x_must_machine)))
    (l_must_machine : K.lookup x_must_machine = some ⟨oc_must_machine, od_must_machine, .func (PySem.W.fnOf "must_machine" "must_machine" (defArgs s_must_machine) (defBody s_must_machine) (defScope s_must_machine) .none kV_must_machine dc_must_machine pm_must_machine an_must_machine cd_must_machine ct_must_machine), sl_must_machine⟩)
    (c_must_machine : PySem.W.codeIn K cd_must_machine "must_machine" = true)
    (k_must_machine : PySem.W.keepIn K (.ref x_must_machine) = true)
    (a_begun : PySem.W.nsIn K mainGlobals "begun" = some (some (.ref x_begun)))
    (l_begun : K.lookup x_begun = some ⟨oc_begun, od_begun, .func (PySem.W.fnOf "begun" "begun" (defArgs s_begun) (defBody s_begun) (defScope s_begun) .none kV_begun dc_begun pm_begun an_begun cd_begun ct_begun), sl_begun⟩)
    (c_begun : PySem.W.codeIn K cd_begun "begun" = true)
    (k_begun : PySem.W.keepIn K (.ref x_begun) = true)
    (a_run : PySem.W.nsIn K mainGlobals "run" = some (some (.ref x_run)))
    (l_run : K.lookup x_run = some ⟨oc_run, od_run, .func (PySem.W.fnOf "run" "run" (defArgs s_run) (defBody s_run) (defScope s_run) .none kV_run dc_run pm_run an_run cd_run ct_run), sl_run⟩)
    (c_run : PySem.W.codeIn K cd_run "run" = true)
    (k_run : PySem.W.keepIn K (.ref x_run) = true)
    (a_law : PySem.W.nsIn K mainGlobals "law" = some (some (.ref x_law)))
    (l_law : K.lookup x_law = some ⟨oc_law, od_law, .func (PySem.W.fnOf "law" "law" (defArgs s_law) (defBody s_law) (defScope s_law) .none kV_law dc_law pm_law an_law cd_law ct_law), sl_law⟩)
    (c_law : PySem.W.codeIn K cd_law "law" = true)
    (k_law : PySem.W.keepIn K (.ref x_law) = true)
    (gt : PySem.W.specialIn K (.builtin "object.__class__") "__get__" = some (some (.builtin "getset_descriptor.__get__")))
    (tk : PySem.W.takesIn K (.builtin "object.__class__") = some true)
    (a_MillError : PySem.W.nsIn K mainGlobals "MillError" = some (some (.ref x_MillError)))
    (i_MillError : PySem.W.excIn K x_MillError veMro "ValueError.__new__" = true)
    (k_MillError : PySem.W.keepIn K (.ref x_MillError) = true)
    (ga_MillError : PySem.W.findIn K (.ref x_MillError) "__getattribute__" = some (some (.builtin "BaseException.__getattribute__")))
    (na_MillError : PySem.W.findIn K (.ref x_MillError) "__getattr__" = some none)
    (cl_MillError : PySem.W.findIn K (.ref x_MillError) "__class__" = some (some (.builtin "object.__class__")))
    (mo_MillError : PySem.W.mroIn K x_MillError (.type "object") = some true)
    (mb_MillError : PySem.W.mroIn K x_MillError (.type "BaseException") = some true)
    (ci_MillError : PySem.W.clsIn K x_MillError = some cx_MillError)
    (mr_MillError : cx_MillError.mro = [.ref x_MillError] ++ veMro)
    (ty_MillError : PySem.W.typeIn K (.ref x_MillError) = some (.type "type"))
    (a_Full : PySem.W.nsIn K mainGlobals "Full" = some (some (.ref x_Full)))
    (i_Full : PySem.W.excIn K x_Full veMro "ValueError.__new__" = true)
    (k_Full : PySem.W.keepIn K (.ref x_Full) = true)
    (ga_Full : PySem.W.findIn K (.ref x_Full) "__getattribute__" = some (some (.builtin "BaseException.__getattribute__")))
    (na_Full : PySem.W.findIn K (.ref x_Full) "__getattr__" = some none)
    (cl_Full : PySem.W.findIn K (.ref x_Full) "__class__" = some (some (.builtin "object.__class__")))
    (mo_Full : PySem.W.mroIn K x_Full (.type "object") = some true)
    (mb_Full : PySem.W.mroIn K x_Full (.type "BaseException") = some true)
    (ci_Full : PySem.W.clsIn K x_Full = some cx_Full)
    (mr_Full : cx_Full.mro = [.ref x_Full, .ref x_MillError] ++ veMro)
    (ty_Full : PySem.W.typeIn K (.ref x_Full) = some (.type "type"))
    (a_NoDeed : PySem.W.nsIn K mainGlobals "NoDeed" = some (some (.ref x_NoDeed)))
    (i_NoDeed : PySem.W.excIn K x_NoDeed veMro "ValueError.__new__" = true)
    (k_NoDeed : PySem.W.keepIn K (.ref x_NoDeed) = true)
    (ga_NoDeed : PySem.W.findIn K (.ref x_NoDeed) "__getattribute__" = some (some (.builtin "BaseException.__getattribute__")))
    (na_NoDeed : PySem.W.findIn K (.ref x_NoDeed) "__getattr__" = some none)
    (cl_NoDeed : PySem.W.findIn K (.ref x_NoDeed) "__class__" = some (some (.builtin "object.__class__")))
    (mo_NoDeed : PySem.W.mroIn K x_NoDeed (.type "object") = some true)
    (mb_NoDeed : PySem.W.mroIn K x_NoDeed (.type "BaseException") = some true)
    (ci_NoDeed : PySem.W.clsIn K x_NoDeed = some cx_NoDeed)
    (mr_NoDeed : cx_NoDeed.mro = [.ref x_NoDeed, .ref x_MillError] ++ veMro)
    (ty_NoDeed : PySem.W.typeIn K (.ref x_NoDeed) = some (.type "type"))
    (a_NoLine : PySem.W.nsIn K mainGlobals "NoLine" = some (some (.ref x_NoLine)))
    (i_NoLine : PySem.W.excIn K x_NoLine veMro "ValueError.__new__" = true)
    (k_NoLine : PySem.W.keepIn K (.ref x_NoLine) = true)
    (ga_NoLine : PySem.W.findIn K (.ref x_NoLine) "__getattribute__" = some (some (.builtin "BaseException.__getattribute__")))
    (na_NoLine : PySem.W.findIn K (.ref x_NoLine) "__getattr__" = some none)
    (cl_NoLine : PySem.W.findIn K (.ref x_NoLine) "__class__" = some (some (.builtin "object.__class__")))
    (mo_NoLine : PySem.W.mroIn K x_NoLine (.type "object") = some true)
    (mb_NoLine : PySem.W.mroIn K x_NoLine (.type "BaseException") = some true)
    (ci_NoLine : PySem.W.clsIn K x_NoLine = some cx_NoLine)
    (mr_NoLine : cx_NoLine.mro = [.ref x_NoLine, .ref x_MillError] ++ veMro)
    (ty_NoLine : PySem.W.typeIn K (.ref x_NoLine) = some (.type "type"))
    (a_NoMachine : PySem.W.nsIn K mainGlobals "NoMachine" = some (some (.ref x_NoMachine)))
    (i_NoMachine : PySem.W.excIn K x_NoMachine veMro "ValueError.__new__" = true)
    (k_NoMachine : PySem.W.keepIn K (.ref x_NoMachine) = true)
    (ga_NoMachine : PySem.W.findIn K (.ref x_NoMachine) "__getattribute__" = some (some (.builtin "BaseException.__getattribute__")))
    (na_NoMachine : PySem.W.findIn K (.ref x_NoMachine) "__getattr__" = some none)
    (cl_NoMachine : PySem.W.findIn K (.ref x_NoMachine) "__class__" = some (some (.builtin "object.__class__")))
    (mo_NoMachine : PySem.W.mroIn K x_NoMachine (.type "object") = some true)
    (mb_NoMachine : PySem.W.mroIn K x_NoMachine (.type "BaseException") = some true)
    (ci_NoMachine : PySem.W.clsIn K x_NoMachine = some cx_NoMachine)
    (mr_NoMachine : cx_NoMachine.mro = [.ref x_NoMachine, .ref x_MillError] ++ veMro)
    (ty_NoMachine : PySem.W.typeIn K (.ref x_NoMachine) = some (.type "type"))
    (a_NoName : PySem.W.nsIn K mainGlobals "NoName" = some (some (.ref x_NoName)))
    (i_NoName : PySem.W.excIn K x_NoName veMro "ValueError.__new__" = true)
    (k_NoName : PySem.W.keepIn K (.ref x_NoName) = true)
    (ga_NoName : PySem.W.findIn K (.ref x_NoName) "__getattribute__" = some (some (.builtin "BaseException.__getattribute__")))
    (na_NoName : PySem.W.findIn K (.ref x_NoName) "__getattr__" = some none)
    (cl_NoName : PySem.W.findIn K (.ref x_NoName) "__class__" = some (some (.builtin "object.__class__")))
    (mo_NoName : PySem.W.mroIn K x_NoName (.type "object") = some true)
    (mb_NoName : PySem.W.mroIn K x_NoName (.type "BaseException") = some true)
    (ci_NoName : PySem.W.clsIn K x_NoName = some cx_NoName)
    (mr_NoName : cx_NoName.mro = [.ref x_NoName, .ref x_MillError] ++ veMro)
    (ty_NoName : PySem.W.typeIn K (.ref x_NoName) = some (.type "type"))
    (a_NoPaper : PySem.W.nsIn K mainGlobals "NoPaper" = some (some (.ref x_NoPaper)))
    (i_NoPaper : PySem.W.excIn K x_NoPaper veMro "ValueError.__new__" = true)
    (k_NoPaper : PySem.W.keepIn K (.ref x_NoPaper) = true)
    (ga_NoPaper : PySem.W.findIn K (.ref x_NoPaper) "__getattribute__" = some (some (.builtin "BaseException.__getattribute__")))
    (na_NoPaper : PySem.W.findIn K (.ref x_NoPaper) "__getattr__" = some none)
    (cl_NoPaper : PySem.W.findIn K (.ref x_NoPaper) "__class__" = some (some (.builtin "object.__class__")))
    (mo_NoPaper : PySem.W.mroIn K x_NoPaper (.type "object") = some true)
    (mb_NoPaper : PySem.W.mroIn K x_NoPaper (.type "BaseException") = some true)
    (ci_NoPaper : PySem.W.clsIn K x_NoPaper = some cx_NoPaper)
    (mr_NoPaper : cx_NoPaper.mro = [.ref x_NoPaper, .ref x_MillError] ++ veMro)
    (ty_NoPaper : PySem.W.typeIn K (.ref x_NoPaper) = some (.type "type"))
    (a_NoSize : PySem.W.nsIn K mainGlobals "NoSize" = some (some (.ref x_NoSize)))
    (i_NoSize : PySem.W.excIn K x_NoSize veMro "ValueError.__new__" = true)
    (k_NoSize : PySem.W.keepIn K (.ref x_NoSize) = true)
    (ga_NoSize : PySem.W.findIn K (.ref x_NoSize) "__getattribute__" = some (some (.builtin "BaseException.__getattribute__")))
    (na_NoSize : PySem.W.findIn K (.ref x_NoSize) "__getattr__" = some none)
    (cl_NoSize : PySem.W.findIn K (.ref x_NoSize) "__class__" = some (some (.builtin "object.__class__")))
    (mo_NoSize : PySem.W.mroIn K x_NoSize (.type "object") = some true)
    (mb_NoSize : PySem.W.mroIn K x_NoSize (.type "BaseException") = some true)
    (ci_NoSize : PySem.W.clsIn K x_NoSize = some cx_NoSize)
    (mr_NoSize : cx_NoSize.mro = [.ref x_NoSize, .ref x_MillError] ++ veMro)
    (ty_NoSize : PySem.W.typeIn K (.ref x_NoSize) = some (.type "type"))
    (a_NoSuch : PySem.W.nsIn K mainGlobals "NoSuch" = some (some (.ref x_NoSuch)))
    (i_NoSuch : PySem.W.excIn K x_NoSuch veMro "ValueError.__new__" = true)
    (k_NoSuch : PySem.W.keepIn K (.ref x_NoSuch) = true)
    (ga_NoSuch : PySem.W.findIn K (.ref x_NoSuch) "__getattribute__" = some (some (.builtin "BaseException.__getattribute__")))
    (na_NoSuch : PySem.W.findIn K (.ref x_NoSuch) "__getattr__" = some none)
    (cl_NoSuch : PySem.W.findIn K (.ref x_NoSuch) "__class__" = some (some (.builtin "object.__class__")))
    (mo_NoSuch : PySem.W.mroIn K x_NoSuch (.type "object") = some true)
    (mb_NoSuch : PySem.W.mroIn K x_NoSuch (.type "BaseException") = some true)
    (ci_NoSuch : PySem.W.clsIn K x_NoSuch = some cx_NoSuch)
    (mr_NoSuch : cx_NoSuch.mro = [.ref x_NoSuch, .ref x_MillError] ++ veMro)
    (ty_NoSuch : PySem.W.typeIn K (.ref x_NoSuch) = some (.type "type"))
    (a_NoText : PySem.W.nsIn K mainGlobals "NoText" = some (some (.ref x_NoText)))
    (i_NoText : PySem.W.excIn K x_NoText veMro "ValueError.__new__" = true)
    (k_NoText : PySem.W.keepIn K (.ref x_NoText) = true)
    (ga_NoText : PySem.W.findIn K (.ref x_NoText) "__getattribute__" = some (some (.builtin "BaseException.__getattribute__")))
    (na_NoText : PySem.W.findIn K (.ref x_NoText) "__getattr__" = some none)
    (cl_NoText : PySem.W.findIn K (.ref x_NoText) "__class__" = some (some (.builtin "object.__class__")))
    (mo_NoText : PySem.W.mroIn K x_NoText (.type "object") = some true)
    (mb_NoText : PySem.W.mroIn K x_NoText (.type "BaseException") = some true)
    (ci_NoText : PySem.W.clsIn K x_NoText = some cx_NoText)
    (mr_NoText : cx_NoText.mro = [.ref x_NoText, .ref x_MillError] ++ veMro)
    (ty_NoText : PySem.W.typeIn K (.ref x_NoText) = some (.type "type"))
    (a_NoWidth : PySem.W.nsIn K mainGlobals "NoWidth" = some (some (.ref x_NoWidth)))
    (i_NoWidth : PySem.W.excIn K x_NoWidth veMro "ValueError.__new__" = true)
    (k_NoWidth : PySem.W.keepIn K (.ref x_NoWidth) = true)
    (ga_NoWidth : PySem.W.findIn K (.ref x_NoWidth) "__getattribute__" = some (some (.builtin "BaseException.__getattribute__")))
    (na_NoWidth : PySem.W.findIn K (.ref x_NoWidth) "__getattr__" = some none)
    (cl_NoWidth : PySem.W.findIn K (.ref x_NoWidth) "__class__" = some (some (.builtin "object.__class__")))
    (mo_NoWidth : PySem.W.mroIn K x_NoWidth (.type "object") = some true)
    (mb_NoWidth : PySem.W.mroIn K x_NoWidth (.type "BaseException") = some true)
    (ci_NoWidth : PySem.W.clsIn K x_NoWidth = some cx_NoWidth)
    (mr_NoWidth : cx_NoWidth.mro = [.ref x_NoWidth, .ref x_MillError] ++ veMro)
    (ty_NoWidth : PySem.W.typeIn K (.ref x_NoWidth) = some (.type "type"))
    (a_Twice : PySem.W.nsIn K mainGlobals "Twice" = some (some (.ref x_Twice)))
    (i_Twice : PySem.W.excIn K x_Twice veMro "ValueError.__new__" = true)
    (k_Twice : PySem.W.keepIn K (.ref x_Twice) = true)
    (ga_Twice : PySem.W.findIn K (.ref x_Twice) "__getattribute__" = some (some (.builtin "BaseException.__getattribute__")))
    (na_Twice : PySem.W.findIn K (.ref x_Twice) "__getattr__" = some none)
    (cl_Twice : PySem.W.findIn K (.ref x_Twice) "__class__" = some (some (.builtin "object.__class__")))
    (mo_Twice : PySem.W.mroIn K x_Twice (.type "object") = some true)
    (mb_Twice : PySem.W.mroIn K x_Twice (.type "BaseException") = some true)
    (ci_Twice : PySem.W.clsIn K x_Twice = some cx_Twice)
    (mr_Twice : cx_Twice.mro = [.ref x_Twice, .ref x_MillError] ++ veMro)
    (ty_Twice : PySem.W.typeIn K (.ref x_Twice) = some (.type "type"))
    (z_range : PySem.W.nsIn K mainGlobals "range" = some none)
    (z_len : PySem.W.nsIn K mainGlobals "len" = some none)
    (z_abs : PySem.W.nsIn K mainGlobals "abs" = some none)
    (z_isinstance : PySem.W.nsIn K mainGlobals "isinstance" = some none)
    (z_enumerate : PySem.W.nsIn K mainGlobals "enumerate" = some none)
    (z_ValueError : PySem.W.nsIn K mainGlobals "ValueError" = some none)
    (nd : [x_MillError, x_Full, x_NoDeed, x_NoLine, x_NoMachine, x_NoName, x_NoPaper, x_NoSize, x_NoSuch, x_NoText, x_NoWidth, x_Twice].Nodup)
    (q_MOST_ROWS : PySem.W.nsIn K mainGlobals "MOST_ROWS" = some (some (.int 4 tk_MOST_ROWS)))
    : ∃ fd : FuncData, (∀ (s : Shared) (v : Value), BindsTo s fd ⟨[v], []⟩ [("_law_script", v)]) ∧ ∀ base : Heap, K.In base → base.Ns mainGlobals mg → FnOk l.prog w K mg base CX0 5 fa fd ["_law_script"] (sp_law K) := by
  have e := hfa.symm.trans (PySem.W.mg_of X G a_law)
  have e' : x_law = fa := by cases e; rfl
  subst e'
  have F_l_mixed := fun_mk (st := s_l_mixed) l_l_mixed c_l_mixed k_l_mixed
  have b_l_mixed := F_l_mixed.binds (ps := ["_law_cell", "_law_k"]) fun _ _ _ _ _ _ us hl => match us, hl with | [_, _], _ => rfl
  have F_l_draw := fun_mk (st := s_l_draw) l_l_draw c_l_draw k_l_draw
  have b_l_draw := F_l_draw.binds (ps := ["_law_purse_here", "_law_out_of"]) fun _ _ _ _ _ _ us hl => match us, hl with | [_, _], _ => rfl
  have F_l_purse := fun_mk (st := s_l_purse) l_l_purse c_l_purse k_l_purse
  have b_l_purse := F_l_purse.binds (ps := ["_law_script"]) fun _ _ _ _ _ _ us hl => match us, hl with | [_], _ => rfl
  have F_l_kinds := fun_mk (st := s_l_kinds) l_l_kinds c_l_kinds k_l_kinds
  have b_l_kinds := F_l_kinds.binds (ps := ["_law_one"]) fun _ _ _ _ _ _ us hl => match us, hl with | [_], _ => rfl
  have F_is_machine := fun_mk (st := s_is_machine) l_is_machine c_is_machine k_is_machine
  have b_is_machine := F_is_machine.binds (ps := ["machine"]) fun _ _ _ _ _ _ us hl => match us, hl with | [_], _ => rfl
  have F_must_machine := fun_mk (st := s_must_machine) l_must_machine c_must_machine k_must_machine
  have b_must_machine := F_must_machine.binds (ps := ["machine"]) fun _ _ _ _ _ _ us hl => match us, hl with | [_], _ => rfl
  have F_begun := fun_mk (st := s_begun) l_begun c_begun k_begun
  have b_begun := F_begun.binds (ps := ["machine"]) fun _ _ _ _ _ _ us hl => match us, hl with | [_], _ => rfl
  have F_run := fun_mk (st := s_run) l_run c_run k_run
  have b_run := F_run.binds (ps := ["machine", "most"]) fun _ _ _ _ _ _ us hl => match us, hl with | [_, _], _ => rfl
  have F_law := fun_mk (st := s_law) l_law c_law k_law
  have b_law := F_law.binds (ps := ["_law_script"]) fun _ _ _ _ _ _ us hl => match us, hl with | [_], _ => rfl
  have T : Tx K mg ⟨x_l_mixed, _, x_l_draw, _, x_l_purse, _, x_l_kinds, _, x_is_machine, _, x_must_machine, _, x_begun, _, x_run, _, x_law, _, x_MillError, x_Full, x_NoDeed, x_NoLine, x_NoMachine, x_NoName, x_NoPaper, x_NoSize, x_NoSuch, x_NoText, x_NoWidth, x_Twice⟩ := ⟨F_l_mixed, b_l_mixed, PySem.W.mg_of X G a_l_mixed, F_l_draw, b_l_draw, PySem.W.mg_of X G a_l_draw, F_l_purse, b_l_purse, PySem.W.mg_of X G a_l_purse, F_l_kinds, b_l_kinds, PySem.W.mg_of X G a_l_kinds, F_is_machine, b_is_machine, PySem.W.mg_of X G a_is_machine, F_must_machine, b_must_machine, PySem.W.mg_of X G a_must_machine, F_begun, b_begun, PySem.W.mg_of X G a_begun, F_run, b_run, PySem.W.mg_of X G a_run, F_law, b_law, PySem.W.mg_of X G a_law, ⟨i_MillError, k_MillError⟩, ⟨ga_MillError, na_MillError, cl_MillError, gt, tk, mo_MillError, mb_MillError, by rw [ci_MillError]; rfl⟩, PySem.W.mg_of X G a_MillError, ⟨⟨_, ci_MillError, mr_MillError⟩, ty_MillError⟩, ⟨i_Full, k_Full⟩, ⟨ga_Full, na_Full, cl_Full, gt, tk, mo_Full, mb_Full, by rw [ci_Full]; rfl⟩, PySem.W.mg_of X G a_Full, ⟨⟨_, ci_Full, mr_Full⟩, ty_Full⟩, ⟨i_NoDeed, k_NoDeed⟩, ⟨ga_NoDeed, na_NoDeed, cl_NoDeed, gt, tk, mo_NoDeed, mb_NoDeed, by rw [ci_NoDeed]; rfl⟩, PySem.W.mg_of X G a_NoDeed, ⟨⟨_, ci_NoDeed, mr_NoDeed⟩, ty_NoDeed⟩, ⟨i_NoLine, k_NoLine⟩, ⟨ga_NoLine, na_NoLine, cl_NoLine, gt, tk, mo_NoLine, mb_NoLine, by rw [ci_NoLine]; rfl⟩, PySem.W.mg_of X G a_NoLine, ⟨⟨_, ci_NoLine, mr_NoLine⟩, ty_NoLine⟩, ⟨i_NoMachine, k_NoMachine⟩, ⟨ga_NoMachine, na_NoMachine, cl_NoMachine, gt, tk, mo_NoMachine, mb_NoMachine, by rw [ci_NoMachine]; rfl⟩, PySem.W.mg_of X G a_NoMachine, ⟨⟨_, ci_NoMachine, mr_NoMachine⟩, ty_NoMachine⟩, ⟨i_NoName, k_NoName⟩, ⟨ga_NoName, na_NoName, cl_NoName, gt, tk, mo_NoName, mb_NoName, by rw [ci_NoName]; rfl⟩, PySem.W.mg_of X G a_NoName, ⟨⟨_, ci_NoName, mr_NoName⟩, ty_NoName⟩, ⟨i_NoPaper, k_NoPaper⟩, ⟨ga_NoPaper, na_NoPaper, cl_NoPaper, gt, tk, mo_NoPaper, mb_NoPaper, by rw [ci_NoPaper]; rfl⟩, PySem.W.mg_of X G a_NoPaper, ⟨⟨_, ci_NoPaper, mr_NoPaper⟩, ty_NoPaper⟩, ⟨i_NoSize, k_NoSize⟩, ⟨ga_NoSize, na_NoSize, cl_NoSize, gt, tk, mo_NoSize, mb_NoSize, by rw [ci_NoSize]; rfl⟩, PySem.W.mg_of X G a_NoSize, ⟨⟨_, ci_NoSize, mr_NoSize⟩, ty_NoSize⟩, ⟨i_NoSuch, k_NoSuch⟩, ⟨ga_NoSuch, na_NoSuch, cl_NoSuch, gt, tk, mo_NoSuch, mb_NoSuch, by rw [ci_NoSuch]; rfl⟩, PySem.W.mg_of X G a_NoSuch, ⟨⟨_, ci_NoSuch, mr_NoSuch⟩, ty_NoSuch⟩, ⟨i_NoText, k_NoText⟩, ⟨ga_NoText, na_NoText, cl_NoText, gt, tk, mo_NoText, mb_NoText, by rw [ci_NoText]; rfl⟩, PySem.W.mg_of X G a_NoText, ⟨⟨_, ci_NoText, mr_NoText⟩, ty_NoText⟩, ⟨i_NoWidth, k_NoWidth⟩, ⟨ga_NoWidth, na_NoWidth, cl_NoWidth, gt, tk, mo_NoWidth, mb_NoWidth, by rw [ci_NoWidth]; rfl⟩, PySem.W.mg_of X G a_NoWidth, ⟨⟨_, ci_NoWidth, mr_NoWidth⟩, ty_NoWidth⟩, ⟨i_Twice, k_Twice⟩, ⟨ga_Twice, na_Twice, cl_Twice, gt, tk, mo_Twice, mb_Twice, by rw [ci_Twice]; rfl⟩, PySem.W.mg_of X G a_Twice, ⟨⟨_, ci_Twice, mr_Twice⟩, ty_Twice⟩, ⟨_, PySem.W.mg_of X G q_MOST_ROWS, ⟨_, rfl⟩⟩, PySem.W.mg_none_of X G z_range, PySem.W.mg_none_of X G z_len, PySem.W.mg_none_of X G z_abs, PySem.W.mg_none_of X G z_isinstance, PySem.W.mg_none_of X G z_enumerate, PySem.W.mg_none_of X G z_ValueError, nd⟩
  exact ⟨_, fun s v => .of_eq rfl, fun base _ _ => ok_law T⟩
theorem walk {l : PySem.W.OpenLaw} {q : Program} {loose : List Str} {XP : (Str → Option Value) → Heap → Prop} {YP : World → Heap → Prop} {d : DefRec} {K : Params → PySem.W.Frag} (hn : l.most = some 63) (hdf : d.params.defaults = [])
    (hY : ∀ (w : World) (h : Heap), YP w h → (K w.params).In h)
    (F : ∀ (w : World) (mg : Str → Option Value) (fa : Addr) (h : Heap), (K w.params).In h → h.Ns mainGlobals mg → mg d.name = some (.ref fa) →
      ∃ fd : FuncData, (∀ (s : Shared) (u : Value), BindsTo s fd ⟨[u], []⟩ [("_law_script", u)]) ∧ ∀ base : Heap, (K w.params).In base → base.Ns mainGlobals mg → FnOk l.prog w (K w.params) mg base CX0 5 fa fd ["_law_script"] (sp_law (K w.params))) :
    PySem.W.WalkO q loose XP YP l.row.toRowW d [] (fun f vs => PySem.call f vs) :=
  L2.walk_of (n := 63) (k := 5) (x := "_law_script") (CX := fun _ => CX0) (sp := fun w => sp_law (K w.params)) hn (by decide) hdf ⟨rfl, by decide, by decide⟩ hY F (fun _ _ a ns hl _ hS => ⟨ns, hS, hl, fun _ => rfl⟩) fun _ _ _ _ _ z => z
end Law
open PySem PySem.W PyProof.Rows
set_option maxRecDepth 100000 in
set_option maxHeartbeats 0 in
theorem PySem.Challenge.cw_endnever_k07_refusals_made_holds : PySem.Challenge.rw_endnever_k07_refusals_made.Holds := by
  w_on; o_law; k_head; (case hw => w_witness2)
  k_fill
  refine Law.walk (l := PySem.Challenge.rw_endnever_k07_refusals_made) rfl rfl (fun w h Y => PySem.W.kIn_of Y) ?F
  case F =>
    intro w mg fa h KX G hmg
    refine' Law.all_mk KX G hmg ?a_l_mixed ?l_l_mixed ?c_l_mixed ?k_l_mixed ?a_l_draw ?l_l_draw ?c_l_draw ?k_l_draw ?a_l_purse ?l_l_purse ?c_l_purse ?k_l_purse ?a_l_kinds ?l_l_kinds ?c_l_kinds ?k_l_kinds ?a_is_machine ?l_is_machine ?c_is_machine ?k_is_machine ?a_must_machine ?l_must_machine ?c_must_machine ?k_must_machine ?a_begun ?l_begun ?c_begun ?k_begun ?a_run ?l_run ?c_run ?k_run ?a_law ?l_law ?c_law ?k_law ?gt ?tk ?a_MillError ?i_MillError ?k_MillError ?ga_MillError ?na_MillError ?cl_MillError ?mo_MillError ?mb_MillError ?ci_MillError ?mr_MillError ?ty_MillError ?a_Full ?i_Full ?k_Full ?ga_Full ?na_Full ?cl_Full ?mo_Full ?mb_Full ?ci_Full ?mr_Full ?ty_Full ?a_NoDeed ?i_NoDeed ?k_NoDeed ?ga_NoDeed ?na_NoDeed ?cl_NoDeed ?mo_NoDeed ?mb_NoDeed ?ci_NoDeed ?mr_NoDeed ?ty_NoDeed ?a_NoLine ?i_NoLine ?k_NoLine ?ga_NoLine ?na_NoLine ?cl_NoLine ?mo_NoLine ?mb_NoLine ?ci_NoLine ?mr_NoLine ?ty_NoLine ?a_NoMachine ?i_NoMachine ?k_NoMachine ?ga_NoMachine ?na_NoMachine ?cl_NoMachine ?mo_NoMachine ?mb_NoMachine ?ci_NoMachine ?mr_NoMachine ?ty_NoMachine ?a_NoName ?i_NoName ?k_NoName ?ga_NoName ?na_NoName ?cl_NoName ?mo_NoName ?mb_NoName ?ci_NoName ?mr_NoName ?ty_NoName ?a_NoPaper ?i_NoPaper ?k_NoPaper ?ga_NoPaper ?na_NoPaper ?cl_NoPaper ?mo_NoPaper ?mb_NoPaper ?ci_NoPaper ?mr_NoPaper ?ty_NoPaper ?a_NoSize ?i_NoSize ?k_NoSize ?ga_NoSize ?na_NoSize ?cl_NoSize ?mo_NoSize ?mb_NoSize ?ci_NoSize ?mr_NoSize ?ty_NoSize ?a_NoSuch ?i_NoSuch ?k_NoSuch ?ga_NoSuch ?na_NoSuch ?cl_NoSuch ?mo_NoSuch ?mb_NoSuch ?ci_NoSuch ?mr_NoSuch ?ty_NoSuch ?a_NoText ?i_NoText ?k_NoText ?ga_NoText ?na_NoText ?cl_NoText ?mo_NoText ?mb_NoText ?ci_NoText ?mr_NoText ?ty_NoText ?a_NoWidth ?i_NoWidth ?k_NoWidth ?ga_NoWidth ?na_NoWidth ?cl_NoWidth ?mo_NoWidth ?mb_NoWidth ?ci_NoWidth ?mr_NoWidth ?ty_NoWidth ?a_Twice ?i_Twice ?k_Twice ?ga_Twice ?na_Twice ?cl_Twice ?mo_Twice ?mb_Twice ?ci_Twice ?mr_Twice ?ty_Twice ?z_range ?z_len ?z_abs ?z_isinstance ?z_enumerate ?z_ValueError ?nd ?q_MOST_ROWS
    (case a_l_mixed => k_is)
    (case l_l_mixed => k_is)
    (case c_l_mixed => k_is)
    (case k_l_mixed => k_is)
    (case a_l_draw => k_is)
    (case l_l_draw => k_is)
    (case c_l_draw => k_is)
    (case k_l_draw => k_is)
    (case a_l_purse => k_is)
    (case l_l_purse => k_is)
    (case c_l_purse => k_is)
    (case k_l_purse => k_is)
    (case a_l_kinds => k_is)
    (case l_l_kinds => k_is)
    (case c_l_kinds => k_is)
    (case k_l_kinds => k_is)
    (case a_is_machine => k_is)
    (case l_is_machine => k_is)
    (case c_is_machine => k_is)
    (case k_is_machine => k_is)
    (case a_must_machine => k_is)
    (case l_must_machine => k_is)
    (case c_must_machine => k_is)
    (case k_must_machine => k_is)
    (case a_begun => k_is)
    (case l_begun => k_is)
    (case c_begun => k_is)
    (case k_begun => k_is)
    (case a_run => k_is)
    (case l_run => k_is)
    (case c_run => k_is)
    (case k_run => k_is)
    (case a_law => k_is)
    (case l_law => k_is)
    (case c_law => k_is)
    (case k_law => k_is)
    (case gt => k_is)
    (case tk => k_is)
    (case a_MillError => k_is)
    (case i_MillError => k_exc)
    (case k_MillError => k_is)
    (case ga_MillError => k_is)
    (case na_MillError => k_is)
    (case cl_MillError => k_is)
    (case mo_MillError => k_is)
    (case mb_MillError => k_is)
    (case ci_MillError => k_is)
    (case mr_MillError => rfl)
    (case ty_MillError => k_is)
    (case a_Full => k_is)
    (case i_Full => k_exc)
    (case k_Full => k_is)
    (case ga_Full => k_is)
    (case na_Full => k_is)
    (case cl_Full => k_is)
    (case mo_Full => k_is)
    (case mb_Full => k_is)
    (case ci_Full => k_is)
    (case mr_Full => rfl)
    (case ty_Full => k_is)
    (case a_NoDeed => k_is)
    (case i_NoDeed => k_exc)
    (case k_NoDeed => k_is)
    (case ga_NoDeed => k_is)
    (case na_NoDeed => k_is)
    (case cl_NoDeed => k_is)
    (case mo_NoDeed => k_is)
    (case mb_NoDeed => k_is)
    (case ci_NoDeed => k_is)
    (case mr_NoDeed => rfl)
    (case ty_NoDeed => k_is)
    (case a_NoLine => k_is)
    (case i_NoLine => k_exc)
    (case k_NoLine => k_is)
    (case ga_NoLine => k_is)
    (case na_NoLine => k_is)
    (case cl_NoLine => k_is)
    (case mo_NoLine => k_is)
    (case mb_NoLine => k_is)
    (case ci_NoLine => k_is)
    (case mr_NoLine => rfl)
    (case ty_NoLine => k_is)
    (case a_NoMachine => k_is)
    (case i_NoMachine => k_exc)
    (case k_NoMachine => k_is)
    (case ga_NoMachine => k_is)
    (case na_NoMachine => k_is)
    (case cl_NoMachine => k_is)
    (case mo_NoMachine => k_is)
    (case mb_NoMachine => k_is)
    (case ci_NoMachine => k_is)
    (case mr_NoMachine => rfl)
    (case ty_NoMachine => k_is)
    (case a_NoName => k_is)
    (case i_NoName => k_exc)
    (case k_NoName => k_is)
    (case ga_NoName => k_is)
    (case na_NoName => k_is)
    (case cl_NoName => k_is)
    (case mo_NoName => k_is)
    (case mb_NoName => k_is)
    (case ci_NoName => k_is)
    (case mr_NoName => rfl)
    (case ty_NoName => k_is)
    (case a_NoPaper => k_is)
    (case i_NoPaper => k_exc)
    (case k_NoPaper => k_is)
    (case ga_NoPaper => k_is)
    (case na_NoPaper => k_is)
    (case cl_NoPaper => k_is)
    (case mo_NoPaper => k_is)
    (case mb_NoPaper => k_is)
    (case ci_NoPaper => k_is)
    (case mr_NoPaper => rfl)
    (case ty_NoPaper => k_is)
    (case a_NoSize => k_is)
    (case i_NoSize => k_exc)
    (case k_NoSize => k_is)
    (case ga_NoSize => k_is)
    (case na_NoSize => k_is)
    (case cl_NoSize => k_is)
    (case mo_NoSize => k_is)
    (case mb_NoSize => k_is)
    (case ci_NoSize => k_is)
    (case mr_NoSize => rfl)
    (case ty_NoSize => k_is)
    (case a_NoSuch => k_is)
    (case i_NoSuch => k_exc)
    (case k_NoSuch => k_is)
    (case ga_NoSuch => k_is)
    (case na_NoSuch => k_is)
    (case cl_NoSuch => k_is)
    (case mo_NoSuch => k_is)
    (case mb_NoSuch => k_is)
    (case ci_NoSuch => k_is)
    (case mr_NoSuch => rfl)
    (case ty_NoSuch => k_is)
    (case a_NoText => k_is)
    (case i_NoText => k_exc)
    (case k_NoText => k_is)
    (case ga_NoText => k_is)
    (case na_NoText => k_is)
    (case cl_NoText => k_is)
    (case mo_NoText => k_is)
    (case mb_NoText => k_is)
    (case ci_NoText => k_is)
    (case mr_NoText => rfl)
    (case ty_NoText => k_is)
    (case a_NoWidth => k_is)
    (case i_NoWidth => k_exc)
    (case k_NoWidth => k_is)
    (case ga_NoWidth => k_is)
    (case na_NoWidth => k_is)
    (case cl_NoWidth => k_is)
    (case mo_NoWidth => k_is)
    (case mb_NoWidth => k_is)
    (case ci_NoWidth => k_is)
    (case mr_NoWidth => rfl)
    (case ty_NoWidth => k_is)
    (case a_Twice => k_is)
    (case i_Twice => k_exc)
    (case k_Twice => k_is)
    (case ga_Twice => k_is)
    (case na_Twice => k_is)
    (case cl_Twice => k_is)
    (case mo_Twice => k_is)
    (case mb_Twice => k_is)
    (case ci_Twice => k_is)
    (case mr_Twice => rfl)
    (case ty_Twice => k_is)
    (case z_range => k_is)
    (case z_len => k_is)
    (case z_abs => k_is)
    (case z_isinstance => k_is)
    (case z_enumerate => k_is)
    (case z_ValueError => k_is)
    (case nd => decide)
    (case q_MOST_ROWS => k_is)
