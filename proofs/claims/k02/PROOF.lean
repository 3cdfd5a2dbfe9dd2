import PyProof.Rows.All
import Wide.All
import OpenK.AllK
import Wide.FinOn
import Lean
import PyProof.EqAt
import PyProof.EqKinds
import PyProof.TupleCall
import PyProof.StrLawsRepr
import PyProof.ZipIter
import PySem.Challenge.RW_woolyears_k02_sales_that_hold
import PyProof.StationsW
import PyProof.ExcBaseAll.ValueError
-- CHANGE: your row's module here, as the last of these rows
set_option Elab.async false
set_option linter.all false
set_option maxRecDepth 100000
/-! THE HAND LAYER, for ints, bools, texts, own classes, LISTS and tuples (index, slices, in, append, pop ..), calls, loops. Paste it whole ahead of your own text; what your proof does not reach may be deleted. -/
namespace L2
open PySem PySem.Spec PyProof.Rows

/-- a key: an int or a str -/
abbrev Key := Sum Int Str
def keyIs : Key → Value → Bool
  | .inl k, v => Value.isInt k v
  | .inr x, v => Value.isStrOf x v
def keyH (w : World) : Key → Int
  | .inl k => hashInt k
  | .inr x => hashStr w x
theorem keyIs_shape : ∀ {k : Key} {v : Value}, keyIs k v = true → (∃ i t, k = Sum.inl i ∧ v = Value.int i t) ∨ (∃ x t, k = Sum.inr x ∧ v = Value.str x t)
  | .inl i, v, h => by
    obtain ⟨t, e⟩ := Value.isInt_shape (k := i) (v := v) h
    exact .inl ⟨i, t, rfl, e⟩
  | .inr x, v, h => by
    obtain ⟨t, e⟩ := Value.isStrOf_shape (x := x) (v := v) h
    exact .inr ⟨x, t, rfl, e⟩
theorem keyIs_int (i : Int) (t : Tok) : keyIs (.inl i) (.int i t) = true := by simp [keyIs, Value.isInt]
theorem keyIs_str (x : Str) (t : Tok) : keyIs (.inr x) (.str x t) = true := by simp [keyIs, Value.isStrOf]
theorem key_ll (a b : Int) : decide ((Sum.inl a : Key) = Sum.inl b) = (a == b) := by
  by_cases e : a = b
  · subst e; simp
  · have h : ¬ (Sum.inl a : Key) = Sum.inl b := fun q => e (Sum.inl.inj q)
    rw [decide_eq_false h]
    exact (beq_eq_false_iff_ne.mpr e).symm
theorem key_rr (a b : Str) : decide ((Sum.inr a : Key) = Sum.inr b) = decide (a = b) := by
  by_cases e : a = b
  · subst e; simp
  · have h : ¬ (Sum.inr a : Key) = Sum.inr b := fun q => e (Sum.inr.inj q)
    rw [decide_eq_false h, decide_eq_false e]
theorem key_lr (a : Int) (b : Str) : decide ((Sum.inl a : Key) = Sum.inr b) = false := decide_eq_false (fun q => nomatch q)
theorem key_rl (a : Str) (b : Int) : decide ((Sum.inr a : Key) = Sum.inl b) = false := decide_eq_false (fun q => nomatch q)

def mixKind (prog : Program) (w : World) : PySem.KeyKind prog w Key where
  is := keyIs
  hash := keyH w
  inj := fun v a b ha hb => by
    rcases keyIs_shape ha with ⟨i, t, rfl, rfl⟩ | ⟨x, t, rfl, rfl⟩
    · rcases keyIs_shape hb with ⟨j, u, rfl, e⟩ | ⟨y, u, rfl, e⟩
      · injection e with e1 _; rw [e1]
      · exact nomatch e
    · rcases keyIs_shape hb with ⟨j, u, rfl, e⟩ | ⟨y, u, rfl, e⟩
      · exact nomatch e
      · injection e with e1 _; rw [e1]
  byValue := fun k v h => by
    rcases keyIs_shape h with ⟨i, t, rfl, rfl⟩ | ⟨x, t, rfl, rfl⟩ <;> rfl
  pyHash := fun hv h => by
    rcases keyIs_shape hv with ⟨i, t, rfl, rfl⟩ | ⟨x, t, rfl, rfl⟩
    · exact wpAny_pyHash_int h
    · exact wpAny_pyHash_str h
  eqBool := fun hu hv h => by
    rcases keyIs_shape hu with ⟨i, t, rfl, rfl⟩ | ⟨x, t, rfl, rfl⟩
    · rcases keyIs_shape hv with ⟨j, u, rfl, rfl⟩ | ⟨y, u, rfl, rfl⟩
      · rw [key_ll] at h; exact wpAny_eqBool_int h
      · rw [key_lr] at h; exact SeqAt.EqAt.int_str i t y u _ _ _ _ h
    · rcases keyIs_shape hv with ⟨j, u, rfl, rfl⟩ | ⟨y, u, rfl, rfl⟩
      · rw [key_rl] at h; exact SeqAt.EqAt.str_int x t j u _ _ _ _ h
      · rw [key_rr] at h; exact wpAny_eqBool_str h
  «strs» := fun k x t v h => by
    rcases keyIs_shape h with ⟨i, u, rfl, e⟩ | ⟨y, u, rfl, e⟩
    · exact nomatch e
    · injection e with e1 _
      subst e1
      cases v <;> rfl

theorem mixKind_int (prog : Program) (w : World) (i : Int) (t : Tok) : (mixKind prog w).is (.inl i) (.int i t) = true := keyIs_int i t
theorem mixKind_str (prog : Program) (w : World) (x : Str) (t : Tok) : (mixKind prog w).is (.inr x) (.str x t) = true := keyIs_str x t
end L2

namespace L2
open PySem PySem.Spec PyProof.Rows

/-- a value, without the heap -/
inductive V where
  | non | bl (b : Bool) | int (i : Int) | str (x : Str) | byt (b : Array UInt8) | flt (b : UInt64) | ref (a : Addr) | ty (n : String)
  deriving DecidableEq

def RelV : V → Value → Prop
  | .non, u => u = Value.none
  | .bl b, u => u = Value.bool b
  | .int i, u => ∃ t, u = Value.int i t
  | .str x, u => ∃ t, u = Value.str x t
  | .byt b, u => ∃ t, u = Value.bytes b t
  | .flt b, u => ∃ t, u = Value.float b t
  | .ref a, u => u = Value.ref a
  | .ty n, u => u = Value.type n

abbrev Vals : List V → List Value → Prop := Paired RelV
theorem Vals.length {xs : List V} {us : List Value} (r : Vals xs us) : xs.length = us.length := Paired.length r
theorem Vals.get : ∀ {xs : List V} {us : List Value} {i : Nat} {x : V}, Vals xs us → xs[i]? = some x → ∃ u, us[i]? = some u ∧ RelV x u
  | _, _, _, _, .nil, e => by simp at e
  | _, _, 0, _, .cons r _, e => by simp at e; subst e; exact ⟨_, rfl, r⟩
  | _, _, i + 1, x, .cons _ t, e => by
    obtain ⟨u, h1, h2⟩ := Vals.get (i := i) (x := x) t (by simpa using e)
    exact ⟨u, by simpa using h1, h2⟩
theorem Vals.set {x : V} {u : Value} (r : RelV x u) : ∀ {xs : List V} {us : List Value} (i : Nat), Vals xs us → Vals (xs.set i x) (us.set i u)
  | _, _, _, .nil => .nil
  | _, _, 0, .cons _ t => .cons r t
  | _, _, i + 1, .cons q t => .cons q (Vals.set r i t)
theorem Vals.append : ∀ {xs ys : List V} {us ws : List Value}, Vals xs us → Vals ys ws → Vals (xs ++ ys) (us ++ ws)
  | _, _, _, _, .nil, s => s
  | _, _, _, _, .cons r t, s => .cons r (Vals.append t s)
theorem Vals.take : ∀ {xs : List V} {us : List Value} (n : Nat), Vals xs us → Vals (xs.take n) (us.take n)
  | _, _, 0, _ => .nil
  | _, _, _ + 1, .nil => .nil
  | _, _, n + 1, .cons r t => .cons r (Vals.take n t)
theorem Vals.drop : ∀ {xs : List V} {us : List Value} (n : Nat), Vals xs us → Vals (xs.drop n) (us.drop n)
  | _, _, 0, r => r
  | _, _, _ + 1, .nil => .nil
  | _, _, n + 1, .cons _ t => Vals.drop n t

def RelO : Option V → Option Value → Prop
  | some v, some u => RelV v u
  | none, none => True
  | _, _ => False
def KV {κ : Type} : List (κ × V) → List (κ × Value) → Prop := Paired fun (p : κ × V) (q : κ × Value) => p.1 = q.1 ∧ RelV p.2 q.2

/-- a key of a dict (00_mix): an int or a text -/
def kV : Key → V
  | .inl i => .int i
  | .inr x => .str x

/-- what stands at a tracked address -/
inductive HO where
  /-- a list -/
  | lst (xs : List V)
  /-- a tuple (never changes) -/
  | tup (xs : List V)
  /-- a dict whose keys are ints and texts; one whose keys are tuples of ints and texts (the empty one is both) -/
  | dK (kvs : List (Key × V)) | dT (kvs : List (List Key × V))
  /-- a set of ints: its members, its size -/
  | set (S : Int → Bool) (n : Nat)
  /-- an instance of the class at C, its dict at dx, its attributes -/
  | ins (C dx : Addr) (fs : List (Str × V))
  /-- the dict of the instance at x -/
  | own (x : Addr)
  /-- the dict of an exception -/
  | xd (fs : List (Str × V))
  /-- a bound method, f of x -/
  | met (f x : Addr)
  /-- a range object lo, lo + 1, .. below hi -/
  | rng (lo hi : Int)
  /-- a thing that is known to the object (the script; a dict while a loop walks it): read, never written while it is so -/
  | frz (o : Obj) (u : HO)
  /-- a code object's table -/
  | tbl (ps : Array Value)
  /-- any other thing, by what is true of its one object (a def of one's own: SetO a S n := HO.ext fun h => ..) -/
  | ext (φ : Heap → Prop)

abbrev Hp := Addr → Option HO
def upd (H : Hp) (a : Addr) (o : HO) : Hp := fun b => if b = a then some o else H b
theorem upd_same {H : Hp} {a : Addr} {o : HO} : upd H a o a = some o := by unfold upd; rw [if_pos rfl]
theorem upd_ne {H : Hp} {a b : Addr} {o : HO} (h : b ≠ a) : upd H a o b = H b := by unfold upd; rw [if_neg h]
/-- two objects of different content stand apart -/
theorem ne_of {H : Hp} {a b : Addr} {o u : HO} (h : H a = some o) (h' : H b = some u) (d : o ≠ u) : a ≠ b := by
  intro e; subst e; rw [h] at h'; exact d (Option.some.inj h')
theorem ne_of_none {H : Hp} {a b : Addr} {o : HO} (h : H a = some o) (h' : H b = none) : a ≠ b := by
  intro e; subst e; rw [h] at h'; cases h'

section
variable (P : Program) (w : World)
def ObjOk (H : Hp) (h : Heap) (a : Addr) : HO → Prop
  | .lst xs => xs.length ≤ sizeLine ∧ ∃ (its : List Value) (n : Nat), Vals xs its ∧ h.get? a = some { cls := .type "list", data := .seq its.toArray n }
  | .tup xs => xs.length ≤ sizeLine ∧ ∃ its : List Value, Vals xs its ∧ IsTup h a its.toArray
  | .dK kvs => kvs.length ≤ sizeLine ∧ (a == sysModules) = false ∧ ∃ vs, KV kvs vs ∧ h.DictOf (mixKind P w) a vs
  | .dT kvs => kvs.length ≤ sizeLine ∧ (a == sysModules) = false ∧ ∃ xs : List (List Key × Addr × Value),
      Paired (fun (p : List Key × V) (q : List Key × Addr × Value) => p.1 = q.1 ∧ H q.2.1 = some (.tup (p.1.map kV)) ∧ RelV p.2 q.2.2) kvs xs ∧
      ∃ o es ep, h.get? a = some o ∧ o.ExactDict ∧ o.data = .dict es ep ∧ es.toList = xs.map (entryOfKey (tupleKind (mixKind P w))) ∧ (xs.map (·.1)).Nodup
  | .set S n => h.SetOf (intKind P w) a S n
  | .ins C dx fs => H dx = some (.own a) ∧ fs.length ≤ 1000 ∧ dx ≠ a ∧ h.get? a = some (PySem.W.instObj C dx) ∧
      ∃ mA, h.Ns1 dx mA ∧ (∀ f, RelO (fs.lookup f) (mA f)) ∧ PySem.Within mA (fs.map (·.1))
  | .own _ => ∃ o, h.get? a = some o
  | .xd fs => ∃ mA, h.Ns1 a mA ∧ ∀ f, RelO (fs.lookup f) (mA f)
  | .rng lo hi => ∃ t u v, h.get? a = some { cls := .type "range", data := .fields #[.int lo t, .int hi u, .int 1 v] }
  | .frz o u => h.get? a = some o ∧ ObjOk H h a u
  | .tbl ps => h.get? a = some { cls := .none, data := .fields ps }
  | .met f x => h.get? a = some (PySem.W.methodObj (.ref f) (.ref x))
  | .ext φ => φ h ∧ (∃ o, h.get? a = some o) ∧ ∀ h1 h2 : Heap, φ h1 → (∀ o, h1.get? a = some o → h2.get? a = some o) → φ h2
/-- the abstract heap is held -/
def HOk (H : Hp) (h : Heap) : Prop := ∀ a o, H a = some o → ObjOk P w H h a o
end

section
variable {P : Program} {w : World} {H H' : Hp} {h h' : Heap} {a : Addr} {o : HO}
theorem ObjOk.lt (x : ObjOk P w H h a o) : a < h.objs.size := by
  cases o with
  | lst xs => obtain ⟨_, _, _, _, e⟩ := x; exact Heap.lt_size e
  | tup xs => obtain ⟨_, _, _, p⟩ := x; exact p.lt
  | dK kvs => obtain ⟨_, _, _, _, o, _, _, e, _⟩ := x; exact Heap.lt_size e
  | dT kvs => obtain ⟨_, _, _, _, o, _, _, e, _⟩ := x; exact Heap.lt_size e
  | set S n => obtain ⟨o, _, _, _, e, _⟩ := x; exact Heap.lt_size e
  | ins C dx fs => obtain ⟨_, _, _, e, _⟩ := x; exact Heap.lt_size e
  | own y => obtain ⟨_, e⟩ := x; exact Heap.lt_size e
  | xd fs => obtain ⟨_, ⟨_, _, _, e, _⟩, _⟩ := x; exact Heap.lt_size e
  | rng lo hi => obtain ⟨_, _, _, e⟩ := x; exact Heap.lt_size e
  | frz ob u => obtain ⟨e, _⟩ := x; exact Heap.lt_size e
  | tbl ps => exact Heap.lt_size (show h.get? a = some _ from x)
  | met f y => exact Heap.lt_size (show h.get? a = some _ from x)
  | ext φ => obtain ⟨_, ⟨_, e⟩, _⟩ := x; exact Heap.lt_size e
theorem Paired.mapP {α β : Type} {F G : α → β → Prop} : ∀ {l₁ : List α} {l₂ : List β}, Paired F l₁ l₂ → (∀ a b, F a b → G a b) → Paired G l₁ l₂
  | _, _, .nil, _ => .nil
  | _, _, .cons r t, f => .cons (f _ _ r) (Paired.mapP t f)
/-- what an object's description leans on: its own object, its own dict, the tuples -/
theorem ObjOk.stay (x : ObjOk P w H h a o) (k : ∀ b u, (b = a ∨ H b = some (.own a)) → h.get? b = some u → h'.get? b = some u)
    (ho : ∀ b, H b = some (.own a) → H' b = some (.own a)) (ht : ∀ b xs, H b = some (.tup xs) → H' b = some (.tup xs)) : ObjOk P w H' h' a o := by
  induction o with
  | lst xs => obtain ⟨z, its, n, r, e⟩ := x; exact ⟨z, its, n, r, k _ _ (.inl rfl) e⟩
  | tup xs => obtain ⟨z, its, r, ob, e, c⟩ := x; exact ⟨z, its, r, ob, k _ _ (.inl rfl) e, c⟩
  | dK kvs => obtain ⟨z, y, vs, r, ob, es, ep, e, c⟩ := x; exact ⟨z, y, vs, r, ob, es, ep, k _ _ (.inl rfl) e, c⟩
  | dT kvs =>
    obtain ⟨z, y, xs, r, ob, es, ep, e, c⟩ := x
    exact ⟨z, y, xs, Paired.mapP r fun p q z => ⟨z.1, ht _ _ z.2.1, z.2.2⟩, ob, es, ep, k _ _ (.inl rfl) e, c⟩
  | set S n => obtain ⟨ob, es, ep, t, e, c⟩ := x; exact ⟨ob, es, ep, t, k _ _ (.inl rfl) e, c⟩
  | ins C dx fs =>
    obtain ⟨d, z, ne, e, mA, ⟨od, es, ep, e2, c⟩, r⟩ := x
    exact ⟨ho _ d, z, ne, k _ _ (.inl rfl) e, mA, ⟨od, es, ep, k _ _ (.inr d) e2, c⟩, r⟩
  | own y => obtain ⟨ob, e⟩ := x; exact ⟨ob, k _ _ (.inl rfl) e⟩
  | xd fs => obtain ⟨mA, ⟨od, es, ep, e, c⟩, r⟩ := x; exact ⟨mA, ⟨od, es, ep, k _ _ (.inl rfl) e, c⟩, r⟩
  | rng lo hi => obtain ⟨t, u, v, e⟩ := x; exact ⟨t, u, v, k _ _ (.inl rfl) e⟩
  | frz ob u ih => obtain ⟨e, q⟩ := x; exact ⟨k _ _ (.inl rfl) e, ih q⟩
  | tbl ps =>
    have e : h.get? a = some { cls := .none, data := .fields ps } := x
    show h'.get? a = some { cls := .none, data := .fields ps }
    exact k a _ (.inl rfl) e
  | met f y =>
    have e : h.get? a = some (PySem.W.methodObj (.ref f) (.ref y)) := x
    show h'.get? a = some (PySem.W.methodObj (.ref f) (.ref y))
    exact k a _ (.inl rfl) e
  | ext φ => obtain ⟨p, ⟨o, e⟩, st⟩ := x; exact ⟨st _ _ p fun o q => k _ _ (.inl rfl) q, ⟨o, k _ _ (.inl rfl) e⟩, st⟩
theorem HOk.lt (x : HOk P w H h) (e : H a = some o) : a < h.objs.size := (x a o e).lt
theorem HOk.fresh (x : HOk P w H h) (e : h.objs.size ≤ a) : H a = none := by
  cases q : H a with
  | none => rfl
  | some u => exact absurd (Nat.lt_of_lt_of_le (x.lt q) e) (Nat.lt_irrefl _)
/-- every object of the heap is kept -/
theorem HOk.kept (x : HOk P w H h) (k : ∀ b u, h.get? b = some u → h'.get? b = some u) : HOk P w H h' := fun a o e =>
  (x a o e).stay (fun b u _ q => k b u q) (fun _ q => q) fun _ _ q => q
/-- a new object is laid and tracked -/
theorem HOk.laid (x : HOk P w H h) (k : ∀ b u, h.get? b = some u → h'.get? b = some u) (hp : h.objs.size ≤ a) (new : ObjOk P w (upd H a o) h' a o) : HOk P w (upd H a o) h' := fun b u e => by
  have hn := x.fresh hp
  by_cases hb : b = a
  · subst hb; rw [upd_same] at e; cases e; exact new
  · rw [upd_ne hb] at e
    exact (x b u e).stay (fun c v _ q => k c v q) (fun c q => by rw [upd_ne (ne_of_none q hn)]; exact q) fun c xs q => by rw [upd_ne (ne_of_none q hn)]; exact q
end

/-- what may be read as u: it is u, or a known u -/
def Rd (H : Hp) (a : Addr) (u : HO) : Prop := H a = some u ∨ ∃ o, H a = some (.frz o u)
theorem Rd.ok {P : Program} {w : World} {H : Hp} {h : Heap} {a : Addr} {u : HO} (r : Rd H a u) (x : HOk P w H h) : ObjOk P w H h a u := by
  rcases r with r | ⟨o, r⟩
  · exact x a u r
  · obtain ⟨_, q⟩ := x a _ r
    exact q
/-- what may be written -/
def Mut : Option HO → Prop
  | some (.lst _) => True
  | some (.dK _) => True
  | some (.dT _) => True
  | some (.set _ _) => True
  | some (.ins _ _ _) => True
  | some (.ext _) => True
  | _ => False
section
variable {P : Program} {w : World} {H : Hp} {h h' : Heap} {x e : Addr} {o' : HO}
/-- the object at e is changed: x itself, or the dict of the instance x -/
theorem HOk.write (ok : HOk P w H h) (mu : Mut (H x)) (he : e = x ∨ H e = some (.own x)) (k : ∀ b u, b ≠ e → h.get? b = some u → h'.get? b = some u) (heo : ∃ u, h'.get? e = some u)
    (new : ObjOk P w (upd H x o') h' x o') : HOk P w (upd H x o') h' := fun b u q => by
  have nown : ∀ c y, H c = some (.own y) → c ≠ x := fun c y r z => by subst z; rw [r] at mu; exact mu
  have ntup : ∀ c xs, H c = some (.tup xs) → c ≠ x := fun c xs r z => by subst z; rw [r] at mu; exact mu
  by_cases hb : b = x
  · subst hb; rw [upd_same] at q; cases q; exact new
  · rw [upd_ne hb] at q
    by_cases hbe : b = e
    · have q' : H b = some (.own x) := by
        rcases he with z | z
        · exact absurd (hbe.trans z) hb
        · rw [hbe]; exact z
      rw [q] at q'; cases q'
      obtain ⟨v, hv⟩ := heo
      exact ⟨v, by rw [hbe]; exact hv⟩
    · refine (ok b u q).stay (fun c v hc r => k c v ?_ r) (fun c r => by rw [upd_ne (nown c b r)]; exact r) fun c xs r => by rw [upd_ne (ntup c xs r)]; exact r
      rcases hc with rfl | hc
      · exact hbe
      · rintro rfl
        rcases he with z | z
        · exact nown c b hc z
        · rw [hc] at z; cases z; exact hb rfl
end

/-! ### kept unless tracked; of the frames at fs (the callers') the slots may change (an exception that passes writes there); of the records at ex (iterators) nothing is said -/
structure Un (fs ex : List Addr) (H H' : Hp) (h h' : Heap) : Prop where
  keep : ∀ b o, h.get? b = some o → H b = none → b ∉ fs → b ∉ ex → h'.get? b = some o
  slot : ∀ b o, h.get? b = some o → H b = none → b ∈ fs → b ∉ ex → ∃ sl, h'.get? b = some { o with slots := sl }
  free : ∀ b o, h.get? b = some o → H b = none → b ∉ ex → H' b = none
  there : ∀ b o, h.get? b = some o → b ∉ ex → ∃ o', h'.get? b = some o'
  tups : ∀ b xs, H b = some (.tup xs) → H' b = some (.tup xs)
  frzs : ∀ b o u, H b = some (.frz o u) → H' b = some (.frz o u)
  tbls : ∀ b ps, H b = some (.tbl ps) → ∃ more, H' b = some (.tbl (ps ++ more))
section
variable {fs fs' ex ex' : List Addr} {H H1 H2 : Hp} {h h1 h2 h' : Heap} {a x e : Addr} {o : HO}
theorem Un.any (u : Un fs ex H H1 h h1) {b : Addr} {ob : Obj} (q : h.get? b = some ob) (n : H b = none) (hx : b ∉ ex) : ∃ sl, h1.get? b = some { ob with slots := sl } := by
  by_cases hb : b ∈ fs
  · exact u.slot b ob q n hb hx
  · exact ⟨ob.slots, u.keep b ob q n hb hx⟩
theorem Un.kept (k : ∀ b u, h.get? b = some u → h'.get? b = some u) : Un fs ex H H h h' :=
  ⟨fun b ob q _ _ _ => k b ob q, fun b ob q _ _ _ => ⟨ob.slots, k b ob q⟩, fun _ _ _ n _ => n, fun b ob q _ => ⟨ob, k b ob q⟩, fun _ _ q => q, fun _ _ _ q => q, fun _ ps q => ⟨#[], by rw [q]; simp⟩⟩
theorem Un.refl : Un fs ex H H h h := Un.kept fun _ _ q => q
theorem Un.laid (k : ∀ b u, h.get? b = some u → h'.get? b = some u) (hp : h.objs.size ≤ a) (hn : H a = none) : Un fs ex H (upd H a o) h h' where
  keep := fun b u q _ _ _ => k b u q
  slot := fun b u q _ _ _ => ⟨u.slots, k b u q⟩
  free := fun b u q n _ => by rw [upd_ne (Nat.ne_of_lt (Nat.lt_of_lt_of_le (Heap.lt_size q) hp))]; exact n
  there := fun b u q _ => ⟨u, k b u q⟩
  tups := fun b xs q => by rw [upd_ne (ne_of_none q hn)]; exact q
  frzs := fun b u xs q => by rw [upd_ne (ne_of_none q hn)]; exact q
  tbls := fun b ps q => ⟨#[], by rw [upd_ne (ne_of_none q hn), q]; simp⟩
theorem Un.write (mu : Mut (H x)) (he : e = x ∨ H e = some (.own x)) (k : ∀ b u, b ≠ e → h.get? b = some u → h'.get? b = some u) (heo : ∃ u, h'.get? e = some u) : Un fs ex H (upd H x o) h h' := by
  have hx : ∀ b, H b = none → b ≠ x := fun b n z => by subst z; rw [n] at mu; exact mu
  have hb : ∀ b, H b = none → b ≠ e := fun b n z => by
    subst z
    rcases he with r | r
    · exact hx b n r
    · rw [n] at r; cases r
  have hm : ∀ b u, H b = some u → ¬ Mut (some u) → b ≠ x := fun b u q nm z => by subst z; rw [q] at mu; exact nm mu
  refine ⟨fun b u q n _ _ => k b u (hb b n) q, fun b u q n _ _ => ⟨u.slots, k b u (hb b n) q⟩, fun b u q n _ => by rw [upd_ne (hx b n)]; exact n, fun b u q _ => ?_,
    fun b xs q => by rw [upd_ne (hm b _ q fun z => z)]; exact q, fun b u xs q => by rw [upd_ne (hm b _ q fun z => z)]; exact q, fun b ps q => ⟨#[], by rw [upd_ne (hm b _ q fun z => z), q]; simp⟩⟩
  by_cases hbe : b = e
  · subst hbe; exact heo
  · exact ⟨u, k b u hbe q⟩
end

/-! ### the heap without what is tracked -/
def trk (h : Heap) (H : Hp) : List Addr := (List.range h.objs.size).filter fun a => (H a).isSome
def hidT (h : Heap) (H : Hp) : Heap := PySem.W.hideAll h (trk h H)
theorem hidT_size (h : Heap) (H : Hp) : (hidT h H).objs.size = h.objs.size := PySem.W.hideAll_size _ _
theorem hidT_get {h : Heap} {H : Hp} {b : Addr} {o : Obj} (e : h.get? b = some o) (n : H b = none) : (hidT h H).get? b = some o :=
  PySem.W.hideAll_get _ e fun hm => by
    have q : (H b).isSome = true := (List.mem_filter.mp hm).2
    rw [n] at q; simp at q
theorem of_hidT {h : Heap} {H : Hp} {b : Addr} {o : Obj} (e : (hidT h H).get? b = some o) : h.get? b = some o ∧ H b = none := by
  have e' : h.get? b = some o := PySem.W.of_hideAll (trk h H) e
  refine ⟨e', ?_⟩
  cases q : H b with
  | none => rfl
  | some x =>
    have hm : b ∈ trk h H := List.mem_filter.mpr ⟨List.mem_range.mpr (Heap.lt_size e'), by simp [q]⟩
    have z : (hidT h H).get? b = none := PySem.W.hideAll_none (trk h H) hm
    rw [z] at e; cases e

/-! ### OpenK's ledger, filled with every new object but one -/
end L2

namespace L2
open PySem PySem.Spec PyProof.Rows

/-- the module's facts, over the base: the heap at the law's entry without what is tracked there -/
structure Mod (K : PySem.W.Frag) (mg : Str → Option Value) (base : Heap) : Prop where
  kin : K.In base
  glob : base.Ns mainGlobals mg
  blt : ∃ mb, base.Ns builtinsNs mb ∧ ∀ x : Str, x ≠ "__name__" → mb x = bootBuiltins x
  nolimit : base.NoLimit

/-- the context: a def's body (or a comprehension's block) running. base: fixed through the whole law; s₀, H₀: the entry; outer: the frames whose slots others may change (a def's callers); stack: all frames that run;
   ex: iterators that were made ahead of the entry and are walked here (a comprehension's); fn: the names whose cells were made at the entry (a def: all; a comprehension's block: its own); calm: not within an except suite; pn: pins that every state bears; xe: what is wanted of an exception that leaves the code -/
structure Cx where
  prog : Program
  w : World
  K : PySem.W.Frag
  mg : Str → Option Value
  base : Heap
  A : Around
  N : List Str
  s₀ : Shared
  H₀ : Hp
  env : Env
  outer : List Env
  stack : List Env
  ex : List Addr
  fn : Str → Bool
  calm : Bool
  pn : List (Addr × Obj)
  xe : Value → Shared → Prop
/-- the callers' frames -/
def frs (l : List Env) : List Addr := l.filterMap (·.frame)
abbrev Cx.fs (X : Cx) : List Addr := frs X.outer

def Vis (sc : Scope) (x : Str) : Prop := sc.names.lookup x = some .local ∨ sc.names.lookup x = some .cell ∨ sc.names.lookup x = some .free
def Loc (sc : Scope) (x : Str) : Prop := sc.names.lookup x = some .local ∨ sc.names.lookup x = some .cell
def Look (env : Env) (h : Heap) (m : Str → Option Value) (x : Str) (u : Value) : Prop :=
  (env.kindOf x = some .local ∧ m x = some u) ∨ ((env.kindOf x = some .cell ∨ env.kindOf x = some .free) ∧ ∃ c, env.cells.lookup x = some c ∧ h.IsCell c (some u))

structure Cx.Ok (X : Cx) : Prop where
  mod : Mod X.K X.mg X.base
  kind : X.env.scope.kind = .function
  glob : X.env.globals = mainGlobals
  blt : X.env.builtins = builtinsNs
  above : X.s₀.heap.objs.size ≤ X.env.locals
  inj : ∀ x y c, X.env.cells.lookup x = some c → X.env.cells.lookup y = some c → x = y
  has : ∀ x, (X.env.kindOf x = some .cell ∨ X.env.kindOf x = some .free) → ∃ c, X.env.cells.lookup x = some c
  cab : ∀ x c, X.fn x = true → X.env.cells.lookup x = some c → X.s₀.heap.objs.size ≤ c
  hd : X.calm = true → X.A.handled = none
  frames : X.A.frames = some X.stack
  stk : X.stack = X.outer ∨ (X.stack = X.env :: X.outer ∧ X.env.frame = some X.env.locals)
  exf : ∀ b ∈ X.ex, b ≠ X.env.locals ∧ ∀ x c, X.env.cells.lookup x = some c → c ≠ b
  bs : ∀ b o, X.base.get? b = some o → X.s₀.heap.get? b = some o ∧ X.H₀ b = none
  bsz : X.base.objs.size ≤ X.s₀.heap.objs.size
  noex : ∀ b o, X.base.get? b = some o → b ∉ X.ex
  exfs : ∀ b ∈ X.ex, b ∉ X.fs
  funs : X.s₀.heap.FunFrames X.base X.outer
  frf : ∀ b ∈ X.fs, X.H₀ b = none

structure Inv (X : Cx) (pins : List (Addr × Obj)) (σ : List (Option V)) (H : Hp) (s : Shared) : Prop where
  ok : X.Ok
  os : s.os = X.s₀.os
  bare : AllBare s.gens
  base : Un X.fs X.ex X.H₀ H X.s₀.heap s.heap
  loc : ∃ m, s.heap.Ns X.env.locals m ∧ ∀ (i : Nat) (x : Str) (v : V), X.N[i]? = some x → σ[i]? = some (some v) → Vis X.env.scope x → ∃ u, RelV v u ∧ Look X.env s.heap m x u
  cell : ∀ x c, X.env.cells.lookup x = some c → ∃ v, s.heap.IsCell c v
  free : H X.env.locals = none
  freeC : ∀ x c, X.env.cells.lookup x = some c → H c = none
  pin : ∀ p ∈ X.pn ++ pins, s.heap.get? p.1 = some p.2 ∧ H p.1 = none ∧ p.1 ≠ X.env.locals ∧ p.1 ∉ X.fs ∧ ∀ v, p.2.data ≠ .cell v
  hok : HOk X.prog X.w H s.heap
  len : σ.length = X.N.length

section
variable {X : Cx} {pins : List (Addr × Obj)} {σ : List (Option V)} {H H' : Hp} {s : Shared} {h' : Heap}

theorem Cx.Ok.nofr (ok : X.Ok) {b : Addr} {o : Obj} (e : X.base.get? b = some o) : b ∉ X.fs := fun hb => by
  have := (ok.funs.mem hb).1
  rw [e] at this; cases this
theorem Inv.bs (I : Inv X pins σ H s) : ∀ b o, X.base.get? b = some o → s.heap.get? b = some o ∧ H b = none := fun b o e =>
  ⟨I.base.keep b o (I.ok.bs b o e).1 (I.ok.bs b o e).2 (I.ok.nofr e) (I.ok.noex b o e), I.base.free b o (I.ok.bs b o e).1 (I.ok.bs b o e).2 (I.ok.noex b o e)⟩
theorem Inv.bk (I : Inv X pins σ H s) : ∀ b o, X.base.get? b = some o → s.heap.get? b = some o := fun b o e => (I.bs b o e).1
theorem Inv.mod (I : Inv X pins σ H s) : Mod X.K X.mg X.base := I.ok.mod
theorem Inv.kIn (I : Inv X pins σ H s) : X.K.In s.heap := I.ok.mod.kin.keeps I.bk
theorem Inv.lt (I : Inv X pins σ H s) : X.env.locals < s.heap.objs.size := let ⟨_, hn, _⟩ := I.loc; hn.lt
theorem Inv.sz (I : Inv X pins σ H s) : X.s₀.heap.objs.size ≤ s.heap.objs.size := Nat.le_trans I.ok.above (Nat.le_of_lt I.lt)
theorem Inv.nofs (I : Inv X pins σ H s) {a : Addr} (h : s.heap.objs.size ≤ a) : a ∉ X.fs := fun hb => by
  obtain ⟨_, o, ho, _⟩ := I.ok.funs.mem hb
  exact absurd (Nat.lt_of_lt_of_le (Heap.lt_size ho) (Nat.le_trans I.sz h)) (Nat.lt_irrefl _)
theorem Inv.cne (I : Inv X pins σ H s) : ∀ x c, X.env.cells.lookup x = some c → c ≠ X.env.locals := fun x c e z => by
  obtain ⟨v, o, ho, hd⟩ := I.cell x c e
  obtain ⟨m, ⟨o', es, ep, ho', hd', _⟩, _⟩ := I.loc
  rw [z, ho'] at ho; cases ho; rw [hd'] at hd; cases hd
theorem Inv.funs (I : Inv X pins σ H s) : s.heap.FunFrames X.base X.outer := by
  have all : ∀ (l : List Env), (∀ b ∈ frs l, b ∈ X.fs) → X.s₀.heap.FunFrames X.base l → s.heap.FunFrames X.base l := by
    intro l
    induction l with
    | nil => intro _ _; trivial
    | cons env r ih =>
      intro hs hl
      obtain ⟨hk, ⟨L, o, hf, hn, ho, hd⟩, hr⟩ := hl
      have hL : L ∈ X.fs := hs L (by unfold frs; rw [List.filterMap_cons, hf]; exact List.mem_cons_self)
      obtain ⟨sl, e⟩ := I.base.slot L o ho (I.ok.frf L hL) hL fun z => I.ok.exfs L z hL
      exact ⟨hk, ⟨L, _, hf, hn, e, hd⟩, ih (fun b hb => hs b (by unfold frs; rw [List.filterMap_cons, hf]; exact List.mem_cons_of_mem _ hb)) hr⟩
  exact all X.outer (fun _ hb => hb) I.ok.funs

/-- the frames that run, for a call -/
theorem Inv.stack (I : Inv X pins σ H s) : s.heap.FunFrames X.base X.stack := by
  rcases I.ok.stk with e | ⟨e, hf⟩
  · rw [e]; exact I.funs
  · rw [e]
    obtain ⟨m, hn, _⟩ := I.loc
    refine .cons (by rw [I.ok.kind]; decide) hf hn ?_ I.funs
    exact Heap.get?_none_of_le (Nat.le_trans I.ok.bsz I.ok.above)
theorem Inv.stkSub (I : Inv X pins σ H s) : ∀ b ∈ frs X.stack, b ∈ X.env.locals :: X.fs := fun b hb => by
  rcases I.ok.stk with e | ⟨e, hf⟩
  · rw [e] at hb; exact List.mem_cons_of_mem _ hb
  · rw [e] at hb
    unfold frs at hb
    rw [List.filterMap_cons, hf] at hb
    exact hb
theorem Inv.stkFree (I : Inv X pins σ H s) : ∀ b ∈ frs X.stack, H b = none := fun b hb => by
  rcases List.mem_cons.mp (I.stkSub b hb) with e | hb
  · rw [e]; exact I.free
  · obtain ⟨_, o, ho, _⟩ := I.ok.funs.mem hb
    exact I.base.free b o ho (I.ok.frf b hb) fun z => I.ok.exfs b z hb

/-- THE STEP: the untracked objects but the frame and the records at ch are kept (the callers' frames up to slots), the frame's map is kept, the new abstract heap is held -/
theorem Inv.step {g' : Array GenState} {t' : Nat} {d' : Drawn} {ch : List Addr} (I : Inv X pins σ H s)
    (hch : ∀ b ∈ ch, (b ∈ X.ex ∨ X.s₀.heap.objs.size ≤ b) ∧ b ≠ X.env.locals ∧ (∀ x c, X.env.cells.lookup x = some c → c ≠ b) ∧ ∀ p ∈ X.pn ++ pins, p.1 ≠ b)
    (keep : ∀ b o, b ≠ X.env.locals → b ∉ X.fs → b ∉ ch → s.heap.get? b = some o → H b = none → h'.get? b = some o)
    (slot : ∀ b o, b ≠ X.env.locals → b ∈ X.fs → b ∉ ch → s.heap.get? b = some o → H b = none → ∃ sl, h'.get? b = some { o with slots := sl }) (free : ∀ b o, b ∉ ch → s.heap.get? b = some o → H b = none → H' b = none)
    (there : ∀ b o, b ∉ ch → s.heap.get? b = some o → ∃ o', h'.get? b = some o')
    (tups : ∀ b xs, H b = some (.tup xs) → H' b = some (.tup xs)) (frzs : ∀ b o u, H b = some (.frz o u) → H' b = some (.frz o u)) (tbls : ∀ b ps, H b = some (.tbl ps) → ∃ more, H' b = some (.tbl (ps ++ more)))
    (ns : ∀ m, s.heap.Ns X.env.locals m → h'.Ns X.env.locals m) (hok : HOk X.prog X.w H' h') (hg : AllBare g') :
    Inv X pins σ H' { s with heap := h', gens := g', drawn := d', toks := t' } := by
  have neL : ∀ b o, X.s₀.heap.get? b = some o → b ≠ X.env.locals := fun b o e => Nat.ne_of_lt (Nat.lt_of_lt_of_le (Heap.lt_size e) I.ok.above)
  have neC : ∀ b o, X.s₀.heap.get? b = some o → b ∉ X.ex → b ∉ ch := fun b o e hx hb => by
    rcases (hch b hb).1 with z | z
    · exact hx z
    · exact absurd (Nat.lt_of_lt_of_le (Heap.lt_size e) z) (Nat.lt_irrefl _)
  have cellK : ∀ x c, X.env.cells.lookup x = some c → ∀ v, s.heap.IsCell c v → h'.IsCell c v := fun x c e v ⟨o, ho, hd⟩ => by
    have nch : c ∉ ch := fun z => (hch c z).2.2.1 x c e rfl
    by_cases hc : c ∈ X.fs
    · obtain ⟨sl, q⟩ := slot c o (I.cne x c e) hc nch ho (I.freeC x c e)
      exact ⟨_, q, hd⟩
    · exact ⟨o, keep c o (I.cne x c e) hc nch ho (I.freeC x c e), hd⟩
  refine ⟨I.ok, I.os, hg, ⟨fun b o e n hb hx => ?_, fun b o e n hb hx => ?_, fun b o e n hx => ?_, fun b o e hx => ?_, fun b xs e => tups b xs (I.base.tups b xs e), fun b o xs e => frzs b o xs (I.base.frzs b o xs e), fun b ps e => ?_⟩, ?_, fun x c e => ?_, ?_, fun x c e => ?_, fun p hp => ?_, hok, I.len⟩
  · exact keep b o (neL b o e) hb (neC b o e hx) (I.base.keep b o e n hb hx) (I.base.free b o e n hx)
  · obtain ⟨sl, e1⟩ := I.base.slot b o e n hb hx
    obtain ⟨sl', e2⟩ := slot b _ (neL b o e) hb (neC b o e hx) e1 (I.base.free b o e n hx)
    exact ⟨sl', e2⟩
  · obtain ⟨o', e1⟩ := I.base.there b o e hx
    exact free b o' (neC b o e hx) e1 (I.base.free b o e n hx)
  · obtain ⟨o', e1⟩ := I.base.there b o e hx
    exact there b o' (neC b o e hx) e1
  · obtain ⟨m1, e1⟩ := I.base.tbls b ps e
    obtain ⟨m2, e2⟩ := tbls b _ e1
    exact ⟨m1 ++ m2, by rw [e2, Array.append_assoc]⟩
  · obtain ⟨m, hn, hl⟩ := I.loc
    refine ⟨m, ns m hn, fun i x v e1 e2 e3 => ?_⟩
    obtain ⟨u, r, l⟩ := hl i x v e1 e2 e3
    refine ⟨u, r, ?_⟩
    rcases l with l | ⟨k, c, e, z⟩
    · exact .inl l
    · exact .inr ⟨k, c, e, cellK x c e _ z⟩
  · obtain ⟨v, z⟩ := I.cell x c e
    exact ⟨v, cellK x c e v z⟩
  · obtain ⟨m, ⟨o, _, _, ho, _⟩, _⟩ := I.loc
    exact free _ o (fun z => (hch _ z).2.1 rfl) ho I.free
  · obtain ⟨v, o, ho, hd⟩ := I.cell x c e
    exact free c o (fun z => (hch c z).2.2.1 x c e rfl) ho (I.freeC x c e)
  · obtain ⟨e, n, ne, nf, d⟩ := I.pin p hp
    have nch : p.1 ∉ ch := fun z => (hch p.1 z).2.2.2 p hp rfl
    exact ⟨keep p.1 p.2 ne nf nch e n, free p.1 p.2 nch e n, ne, nf, d⟩
/-- .. where the frame's own object is kept too -/
theorem Inv.un {t' : Nat} (I : Inv X pins σ H s) (u : Un X.fs [] H H' s.heap h') (hok : HOk X.prog X.w H' h') : Inv X pins σ H' { s with heap := h', toks := t' } := by
  obtain ⟨m, ⟨o, es, ep, ho, r⟩, _⟩ := id I.loc
  obtain ⟨sl, hL⟩ := u.any ho I.free (by simp)
  exact I.step (g' := s.gens) (d' := s.drawn) (ch := []) (fun _ z => nomatch z) (fun b o _ hb _ e n => u.keep b o e n hb (by simp)) (fun b o _ hb _ e n => u.slot b o e n hb (by simp)) (fun b o _ e n => u.free b o e n (by simp)) (fun b o _ e => u.there b o e (by simp)) u.tups u.frzs u.tbls (fun m' hm => by
    obtain ⟨o', es', ep', ho', r'⟩ := hm
    rw [ho] at ho'; cases ho'
    exact ⟨_, es', ep', hL, r'⟩) hok I.bare
/-- behind a call (or a comprehension's block): the slots of this frame may have changed too, the records at ch may have turned -/
theorem Inv.call {g' : Array GenState} {t' : Nat} {d' : Drawn} {ch : List Addr} (I : Inv X pins σ H s) (u : Un (frs X.stack) ch H H' s.heap h') (hok : HOk X.prog X.w H' h') (hg : AllBare g')
    (hch : ∀ b ∈ ch, (b ∈ X.ex ∨ X.s₀.heap.objs.size ≤ b) ∧ b ≠ X.env.locals ∧ (∀ x c, X.env.cells.lookup x = some c → c ≠ b) ∧ ∀ p ∈ X.pn ++ pins, p.1 ≠ b) :
    Inv X pins σ H' { s with heap := h', gens := g', drawn := d', toks := t' } := by
  obtain ⟨m, ⟨o, es, ep, ho, r⟩, _⟩ := id I.loc
  obtain ⟨sl, hL⟩ := u.any ho I.free fun z => (hch _ z).2.1 rfl
  exact I.step (ch := ch) hch (fun b o hL hb hc e n => u.keep b o e n (fun z => (List.mem_cons.mp (I.stkSub b z)).elim hL hb) hc) (fun b o _ _ hc e n => u.any e n hc) (fun b o hc e n => u.free b o e n hc) (fun b o hc e => u.there b o e hc) u.tups u.frzs u.tbls (fun m' hm => by
    obtain ⟨o', es', ep', ho', r'⟩ := hm
    rw [ho] at ho'; cases ho'
    exact ⟨_, es', ep', hL, r'⟩) hok hg
/-- an untracked record of ours (an iterator) has turned -/
theorem Inv.turned {t' : Nat} {it : Addr} (I : Inv X pins σ H s) (k : ∀ b o, b ≠ it → s.heap.get? b = some o → h'.get? b = some o) (hn : H it = none) (hL : it ≠ X.env.locals)
    (h1 : it ∈ X.ex ∨ X.s₀.heap.objs.size ≤ it) (h2 : ∀ x c, X.env.cells.lookup x = some c → c ≠ it) (h3 : ∀ p ∈ X.pn ++ pins, p.1 ≠ it) : Inv X pins σ H { s with heap := h', toks := t' } := by
  have nit : ∀ b u, H b = some u → b ≠ it := fun b u e z => by rw [z, hn] at e; cases e
  refine I.step (g' := s.gens) (d' := s.drawn) (ch := [it]) (fun b hb => ?_) (fun b o _ _ hc e _ => k b o (fun z => hc (by simp [z])) e) (fun b o _ _ hc e _ => ⟨o.slots, k b o (fun z => hc (by simp [z])) e⟩) (fun _ _ _ _ n => n)
    (fun b o hc e => ⟨o, k b o (fun z => hc (by simp [z])) e⟩) (fun _ _ e => e) (fun _ _ _ e => e) (fun b ps e => ⟨#[], by rw [e]; simp⟩) (fun m hm => ?_) (fun b u e => ?_) I.bare
  · have e : b = it := by simpa using hb
    subst e
    exact ⟨h1, hL, h2, h3⟩
  · obtain ⟨o, es, ep, ho, r⟩ := hm
    exact ⟨o, es, ep, k _ o (Ne.symm hL) ho, r⟩
  · refine (I.hok b u e).stay (fun c v hc q => k c v ?_ q) (fun _ q => q) fun _ _ q => q
    rcases hc with z | z
    · rw [z]; exact nit b u e
    · exact nit c _ z
theorem Inv.tok (I : Inv X pins σ H s) (t : Nat) : Inv X pins σ H { s with toks := t } := I.un (h' := s.heap) (t' := t) Un.refl I.hok
/-- all objects kept -/
theorem Inv.kept {t' : Nat} (I : Inv X pins σ H s) (k : ∀ b u, s.heap.get? b = some u → h'.get? b = some u) : Inv X pins σ H { s with heap := h', toks := t' } := I.un (Un.kept k) (I.hok.kept k)
/-- a new object laid and tracked -/
theorem Inv.laid {a : Addr} {o : HO} {t' : Nat} (I : Inv X pins σ H s) (k : ∀ b u, s.heap.get? b = some u → h'.get? b = some u) (hp : s.heap.objs.size ≤ a) (new : ObjOk X.prog X.w (upd H a o) h' a o) :
    Inv X pins σ (upd H a o) { s with heap := h', toks := t' } := I.un (Un.laid k hp (I.hok.fresh hp)) (I.hok.laid k hp new)
/-- an object written -/
theorem Inv.write {x e : Addr} {o : HO} {t' : Nat} (I : Inv X pins σ H s) (mu : Mut (H x)) (he : e = x ∨ H e = some (.own x)) (k : ∀ b u, b ≠ e → s.heap.get? b = some u → h'.get? b = some u) (heo : ∃ u, h'.get? e = some u)
    (new : ObjOk X.prog X.w (upd H x o) h' x o) : Inv X pins σ (upd H x o) { s with heap := h', toks := t' } := I.un (Un.write mu he k heo) (I.hok.write mu he k heo new)
theorem Inv.pins_of {pins' : List (Addr × Obj)} (I : Inv X pins σ H s) (h : ∀ p ∈ pins', s.heap.get? p.1 = some p.2 ∧ H p.1 = none ∧ p.1 ≠ X.env.locals ∧ p.1 ∉ X.fs ∧ ∀ v, p.2.data ≠ .cell v) : Inv X pins' σ H s :=
  ⟨I.ok, I.os, I.bare, I.base, I.loc, I.cell, I.free, I.freeC, fun p hp => (List.mem_append.mp hp).elim (fun z => I.pin p (List.mem_append_left _ z)) (h p), I.hok, I.len⟩

theorem nodup_ix {N : List Str} (hN : N.Nodup) {i j : Nat} {x : Str} (a : N[i]? = some x) (b : N[j]? = some x) : i = j := by
  obtain ⟨h1, e1⟩ := List.getElem?_eq_some_iff.mp a
  obtain ⟨h2, e2⟩ := List.getElem?_eq_some_iff.mp b
  exact (List.getElem_inj hN).mp (e1.trans e2.symm)

/-- a name is stored; what changed -/
theorem store_ok2 {M : Model} {A : Around} {E : Value → Shared → Prop} {i : Nat} {x : Str} {v : V} {u : Value} {Q : Unit → Shared → Prop} (I : Inv X pins σ H s) (hN : X.N.Nodup) (hi : X.N[i]? = some x) (hx : Loc X.env.scope x) (r : RelV v u)
    (h : ∀ s', Inv X pins (σ.set i (some v)) H s' → (∃ a, Heap.SameBut a s.heap s'.heap ∧ (a = X.env.locals ∨ X.env.cells.lookup x = some a)) → Q () s') (hf : X.fn x = true ∨ X.env.scope.names.lookup x = some .local := by first | exact .inl rfl | exact .inr rfl | assumption) : wpAny M A (storeName X.env x u) Q E s := by
  obtain ⟨m, hn, hl⟩ := id I.loc
  have hcls : (X.env.scope.kind == .class || (X.env.scope.kind == .module && X.env.locals != X.env.globals)) = false := by rw [I.ok.kind]; rfl
  have hiσ : i < σ.length := by rw [I.len]; exact (List.getElem?_eq_some_iff.mp hi).1
  have cne := I.cne
  have tracked : ∀ {a : Addr} {h' : Heap}, (∃ o, s.heap.get? a = some o ∧ H a = none) → Heap.SameBut a s.heap h' → HOk X.prog X.w H h' := fun {a h'} ha hs b ob e => by
    obtain ⟨_, _, hfree⟩ := ha
    refine (I.hok b ob e).stay (fun c w' hc q => (hs.2 c ?_).trans q) (fun _ q => q) fun _ _ q => q
    rintro rfl
    rcases hc with rfl | hc
    · rw [hfree] at e; cases e
    · rw [hfree] at hc; cases hc
  rcases hx with hk | hk
  · refine wpAny_storeName_local hk hn (fun h' hn' hs => ?_) hcls
    obtain ⟨oL, _, _, hoL, _⟩ := id hn
    refine h _ ⟨I.ok, I.os, I.bare, ⟨fun b o e n hb hx => ?_, fun b o e n hb hx => ?_, I.base.free, fun b o e hx => ?_, I.base.tups, I.base.frzs, I.base.tbls⟩, ⟨_, hn', fun j y v' e1 e2 e3 => ?_⟩, fun y c e => ?_, I.free, I.freeC, fun p hp => ?_, tracked ⟨oL, hoL, I.free⟩ hs, by simpa using I.len⟩ ⟨_, hs, .inl rfl⟩
    · exact (hs.2 b (Nat.ne_of_lt (Nat.lt_of_lt_of_le (Heap.lt_size e) I.ok.above))).trans (I.base.keep b o e n hb hx)
    · obtain ⟨sl, e1⟩ := I.base.slot b o e n hb hx
      exact ⟨sl, (hs.2 b (Nat.ne_of_lt (Nat.lt_of_lt_of_le (Heap.lt_size e) I.ok.above))).trans e1⟩
    · obtain ⟨o', e1⟩ := I.base.there b o e hx
      exact ⟨o', (hs.2 b (Nat.ne_of_lt (Nat.lt_of_lt_of_le (Heap.lt_size e) I.ok.above))).trans e1⟩
    · by_cases hj : j = i
      · subst hj
        rw [hi] at e1; cases e1
        rw [List.getElem?_set_self hiσ] at e2
        cases e2
        exact ⟨u, r, .inl ⟨hk, by simp⟩⟩
      · rw [List.getElem?_set_ne (Ne.symm hj)] at e2
        obtain ⟨u', r', q⟩ := hl j y v' e1 e2 e3
        refine ⟨u', r', ?_⟩
        rcases q with ⟨k, e⟩ | ⟨k, c, e, z⟩
        · refine .inl ⟨k, ?_⟩
          have : y ≠ x := fun e => hj (nodup_ix hN e1 (e ▸ hi))
          simp [this, e]
        · exact .inr ⟨k, c, e, z.sameBut hs (cne y c e)⟩
    · obtain ⟨w', z⟩ := I.cell y c e
      exact ⟨w', z.sameBut hs (cne y c e)⟩
    · obtain ⟨e, n, ne, nf, d⟩ := I.pin p hp
      exact ⟨(hs.2 p.1 ne).trans e, n, ne, nf, d⟩
  · have hfn : X.fn x = true := by
      rcases hf with z | z
      · exact z
      · rw [z] at hk; cases hk
    obtain ⟨c, hc⟩ := I.ok.has x (.inl hk)
    obtain ⟨w', z⟩ := I.cell x c hc
    refine wpAny_storeName_cell I.ok.kind hk hc z (fun h' hc' hs => ?_)
    obtain ⟨oc, hoc, hocd⟩ := id z
    refine h { s with heap := h' } ⟨I.ok, I.os, I.bare, ⟨fun b o e n hb hx => ?_, fun b o e n hb hx => ?_, I.base.free, fun b o e hx => ?_, I.base.tups, I.base.frzs, I.base.tbls⟩, ⟨m, hn.sameBut hs (Ne.symm (cne x c hc)), fun j y v' e1 e2 e3 => ?_⟩, fun y c' e => ?_, I.free, I.freeC, fun p hp => ?_, tracked ⟨oc, hoc, I.freeC x c hc⟩ hs, by simpa using I.len⟩ ⟨c, hs, .inr hc⟩
    · exact (hs.2 b (Nat.ne_of_lt (Nat.lt_of_lt_of_le (Heap.lt_size e) (I.ok.cab x c hfn hc)))).trans (I.base.keep b o e n hb hx)
    · obtain ⟨sl, e1⟩ := I.base.slot b o e n hb hx
      exact ⟨sl, (hs.2 b (Nat.ne_of_lt (Nat.lt_of_lt_of_le (Heap.lt_size e) (I.ok.cab x c hfn hc)))).trans e1⟩
    · obtain ⟨o', e1⟩ := I.base.there b o e hx
      exact ⟨o', (hs.2 b (Nat.ne_of_lt (Nat.lt_of_lt_of_le (Heap.lt_size e) (I.ok.cab x c hfn hc)))).trans e1⟩
    · by_cases hj : j = i
      · subst hj
        rw [hi] at e1; cases e1
        rw [List.getElem?_set_self hiσ] at e2
        cases e2
        exact ⟨u, r, .inr ⟨.inl hk, c, hc, hc'⟩⟩
      · rw [List.getElem?_set_ne (Ne.symm hj)] at e2
        obtain ⟨u', r', q⟩ := hl j y v' e1 e2 e3
        refine ⟨u', r', ?_⟩
        rcases q with q | ⟨k, c', e, z'⟩
        · exact .inl q
        · refine .inr ⟨k, c', e, z'.sameBut hs ?_⟩
          rintro rfl
          exact hj (nodup_ix hN e1 (I.ok.inj _ _ _ e hc ▸ hi))
    · by_cases hcc : c' = c
      · subst hcc; exact ⟨_, hc'⟩
      · obtain ⟨w2, z2⟩ := I.cell y c' e
        exact ⟨w2, z2.sameBut hs hcc⟩
    · obtain ⟨e, n, ne, nf, d⟩ := I.pin p hp
      refine ⟨(hs.2 p.1 ?_).trans e, n, ne, nf, d⟩
      intro q
      rw [q, hoc] at e
      have q' : oc = p.2 := Option.some.inj e
      exact d w' (by rw [← q']; exact hocd)
theorem store_ok {M : Model} {A : Around} {E : Value → Shared → Prop} {i : Nat} {x : Str} {v : V} {u : Value} {Q : Unit → Shared → Prop} (I : Inv X pins σ H s) (hN : X.N.Nodup) (hi : X.N[i]? = some x) (hx : Loc X.env.scope x) (r : RelV v u)
    (h : ∀ s', Inv X pins (σ.set i (some v)) H s' → Q () s') (hf : X.fn x = true ∨ X.env.scope.names.lookup x = some .local := by first | exact .inl rfl | exact .inr rfl | assumption) : wpAny M A (storeName X.env x u) Q E s :=
  store_ok2 I hN hi hx r (fun s' I' _ => h s' I') hf
/-- behind a call or a block, the state as it is -/
theorem Inv.call' {s' : Shared} {ch : List Addr} (I : Inv X pins σ H s) (ho : s'.os = s.os) (u : Un (frs X.stack) ch H H' s.heap s'.heap) (hok : HOk X.prog X.w H' s'.heap) (hg : AllBare s'.gens)
    (hch : ∀ b ∈ ch, (b ∈ X.ex ∨ X.s₀.heap.objs.size ≤ b) ∧ b ≠ X.env.locals ∧ (∀ x c, X.env.cells.lookup x = some c → c ≠ b) ∧ ∀ p ∈ X.pn ++ pins, p.1 ≠ b) : Inv X pins σ H' s' := by
  obtain ⟨h', g', d', t', o'⟩ := s'
  have e : o' = s.os := ho
  subst e
  exact I.call (g' := g') (t' := t') (d' := d') u hok hg hch
end

/-! ### the judgements -/
/-- an exception: its class, its own dict's address (where it has one), the abstract heap behind it -/
abbrev XK := Value → Option Addr → Hp → Prop
abbrev St := List (Option V)
abbrev VK := V → Hp → Prop
/-- an expression's reading; a test's; an argument list's -/
abbrev TE := St → Hp → VK → Prop
abbrev TT := St → Hp → (Bool → Hp → Prop) → Prop
abbrev TA := St → Hp → (List V → Hp → Prop) → Prop
/-- what is wanted behind a statement -/
structure Ends where
  nx : St → Hp → Prop
  rt : VK
  bk : St → Hp → Prop := fun _ _ => False
  ct : St → Hp → Prop := fun _ _ => False
abbrev TS := Ends → St → Hp → Prop

def EP (X : Cx) (pins : List (Addr × Obj)) (σ : St) (Q : VK) (u : Value) (s' : Shared) : Prop := ∃ v H', Inv X pins σ H' s' ∧ RelV v u ∧ Q v H'
def TP (X : Cx) (pins : List (Addr × Obj)) (σ : St) (Q : Bool → Hp → Prop) (b : Bool) (s' : Shared) : Prop := ∃ H', Inv X pins σ H' s' ∧ Q b H'
def AP (X : Cx) (pins : List (Addr × Obj)) (σ : St) (Q : List V → Hp → Prop) (us : List Value) (s' : Shared) : Prop := ∃ vs H', Inv X pins σ H' s' ∧ Vals vs us ∧ Q vs H'
def SP (X : Cx) (pins : List (Addr × Obj)) (D : Ends) (f : Flow) (s' : Shared) : Prop :=
  match f with
  | .next => ∃ σ' H', Inv X pins σ' H' s' ∧ D.nx σ' H'
  | .brk => ∃ σ' H', Inv X pins σ' H' s' ∧ D.bk σ' H'
  | .cont => ∃ σ' H', Inv X pins σ' H' s' ∧ D.ct σ' H'
  | .ret u => ∃ v σ' H', Inv X pins σ' H' s' ∧ RelV v u ∧ D.rt v H'

def PE (X : Cx) (e : Expr) (t : TE) : Prop :=
  ∀ (pins : List (Addr × Obj)) (s : Shared) (σ : St) (H : Hp) (Q : VK), Inv X pins σ H s → t σ H Q → wpAny (model X.prog X.w) X.A (eval e X.env) (EP X pins σ Q) X.xe s
def PT (X : Cx) (e : Expr) (t : TT) : Prop :=
  ∀ (pins : List (Addr × Obj)) (s : Shared) (σ : St) (H : Hp) (Q : Bool → Hp → Prop), Inv X pins σ H s → t σ H Q → wpAny (model X.prog X.w) X.A (isTrue e X.env (eval e X.env)) (TP X pins σ Q) X.xe s
/-- a test whatever its 'whole' is (and, or) -/
def PW (X : Cx) (e : Expr) (t : TT) : Prop :=
  ∀ (whole : Sem Value) (pins : List (Addr × Obj)) (s : Shared) (σ : St) (H : Hp) (Q : Bool → Hp → Prop), Inv X pins σ H s → t σ H Q → wpAny (model X.prog X.w) X.A (isTrue e X.env whole) (TP X pins σ Q) X.xe s
theorem PW.pt {X : Cx} {e : Expr} {t : TT} (h : PW X e t) : PT X e t := h _
/-- an argument list (no star), from the left -/
def PA (X : Cx) (es : List Expr) (t : TA) : Prop :=
  ∀ (pos : Pos) (pins : List (Addr × Obj)) (s : Shared) (σ : St) (H : Hp) (Q : List V → Hp → Prop), Inv X pins σ H s → t σ H Q → wpAny (model X.prog X.w) X.A (spliced (backTo pos (starEach es X.env))) (AP X pins σ Q) X.xe s
def PS (X : Cx) (st : Stmt) (t : TS) : Prop :=
  ∀ (pins : List (Addr × Obj)) (s : Shared) (σ : St) (H : Hp) (D : Ends), Inv X pins σ H s → t D σ H → wpAny (model X.prog X.w) X.A (exec st X.env) (SP X pins D) X.xe s
def PSs (X : Cx) (st : List Stmt) (t : TS) : Prop :=
  ∀ (pins : List (Addr × Obj)) (s : Shared) (σ : St) (H : Hp) (D : Ends), Inv X pins σ H s → t D σ H → wpAny (model X.prog X.w) X.A (execs st X.env) (SP X pins D) X.xe s
/-- weaken the end -/
theorem thn {α : Type} {t : Sem α} {Q Q' : α → Shared → Prop} {M : Model} {A : Around} {E : Value → Shared → Prop} {s : Shared} (h : wpAny M A t Q E s) (hQ : ∀ a s, Q a s → Q' a s) : wpAny M A t Q' E s := wpAny_mono h hQ fun _ _ x => x
end L2

namespace L2
open PySem PySem.Spec PyProof.Rows
section
variable {X : Cx}

/-- two expressions in a row -/
theorem bin {a b : Expr} {ta tb : TE} (ha : PE X a ta) (hb : PE X b tb) {pins : List (Addr × Obj)} {s : Shared} {σ : St} {H : Hp} {R : V → V → Hp → Prop} (I : Inv X pins σ H s) (h : ta σ H fun x H1 => tb σ H1 fun y H2 => R x y H2)
    {α : Type} {Q : α → Shared → Prop} {f : Value → Value → Sem α}
    (hf : ∀ v u s2 x y H2, Inv X pins σ H2 s2 → RelV x v → RelV y u → R x y H2 → wpAny (model X.prog X.w) X.A (f v u) Q X.xe s2) :
    wpAny (model X.prog X.w) X.A (eval a X.env) (fun v s₁ => wpAny (model X.prog X.w) X.A (eval b X.env) (fun u s₂ => wpAny (model X.prog X.w) X.A (f v u) Q X.xe s₂) X.xe s₁) X.xe s := by
  refine thn (ha pins s σ H _ I h) fun v s1 ⟨x, H1, I1, r1, q1⟩ => ?_
  refine thn (hb pins s1 σ H1 _ I1 q1) fun u s2 ⟨y, H2, I2, r2, q2⟩ => ?_
  exact hf v u s2 x y H2 I2 r1 r2 q2

/-! ### names and constants -/
def tVar (i : Nat) : TE := fun σ H Q => ∃ v, σ[i]? = some (some v) ∧ Q v H
def tC (v : V) : TE := fun _ H Q => Q v H
theorem pe_var {i : Nat} {x : Str} {pos : Pos} (hN : X.N[i]? = some x) (hv : Vis X.env.scope x) (hd : (x == ("__debug__" : Str)) = false := by decide) (hcd : (x == ("__classdict__" : Str)) = false := by decide) : PE X (.Name x pos) (tVar i) := by
  intro pins s σ H Q I h
  obtain ⟨v, e, h⟩ := h
  obtain ⟨m, hn, hl⟩ := I.loc
  obtain ⟨u, r, l⟩ := hl i x v hN e hv
  have fin : EP X pins σ Q u s := ⟨v, H, I, r, h⟩
  rcases l with ⟨hk, hm⟩ | ⟨hk, c, hc, hcell⟩
  · exact wpAny_Name (wpAny_loadName_local I.ok.kind hk hn hm fin) hd
  · rcases hk with hk | hk
    · exact wpAny_Name (wpAny_loadName_cell I.ok.kind hk hc hcell fin) hd
    · exact wpAny_Name (wpAny_loadName_free I.ok.kind hk hc hcell fin hcd) hd
theorem pe_int {i j pos} : PE X (.Constant (.int i) j pos) (tC (.int i)) := fun _ _ _ H _ I h => wpAny_Constant_int ⟨.int i, H, I.tok _, ⟨_, rfl⟩, h⟩
theorem pe_bl {b j pos} : PE X (.Constant (.bool b) j pos) (tC (.bl b)) := fun _ _ _ H _ I h => Constant_bool ⟨.bl b, H, I, rfl, h⟩
theorem pe_non {j pos} : PE X (.Constant .none j pos) (tC .non) := fun _ _ _ H _ I h => Constant_none ⟨.non, H, I, rfl, h⟩
theorem pe_str {x j pos} : PE X (.Constant (.str x) j pos) (tC (.str x)) := fun _ _ _ H _ I h => Calls.Constant_str ⟨.str x, H, I.tok _, ⟨_, rfl⟩, h⟩

/-- a global name of the def -/
def Gl (X : Cx) (x : Str) : Prop := X.env.kindOf x = some .globalImplicit
theorem ld_glob {E : Value → Shared → Prop} {pins : List (Addr × Obj)} {s : Shared} {σ : St} {H : Hp} {x : Str} {u : Value} {pos : Pos} {Q : Value → Shared → Prop} (I : Inv X pins σ H s) (hg : Gl X x) (hm : X.mg x = some u) (h : Q u s)
    (hd : (x == ("__debug__" : Str)) = false := by decide) : wpAny (model X.prog X.w) X.A (eval (.Name x pos) X.env) Q E s :=
  Calls.Name_function_global I.ok.kind hg (Calls.loadGlobal_global (by rw [I.ok.glob]; exact I.mod.glob.keeps I.bk) hm h) hd
theorem ld_blt {E : Value → Shared → Prop} {pins : List (Addr × Obj)} {s : Shared} {σ : St} {H : Hp} {x : Str} {u : Value} {pos : Pos} {Q : Value → Shared → Prop} (I : Inv X pins σ H s) (hg : Gl X x) (hm : X.mg x = none) (hv : bootBuiltins x = some u) (h : Q u s)
    (hn : x ≠ "__name__" := by decide) (hd : (x == ("__debug__" : Str)) = false := by decide) : wpAny (model X.prog X.w) X.A (eval (.Name x pos) X.env) Q E s := by
  obtain ⟨mb, h1, h2⟩ := I.mod.blt
  exact Calls.Name_function_global I.ok.kind hg (Calls.loadGlobal_builtin (by rw [I.ok.glob]; exact I.mod.glob.keeps I.bk) hm (by rw [I.ok.blt]; exact h1.keeps I.bk) ((h2 x hn).trans hv) h) hd
/-- a module's constant, a class, a function, as a value -/
theorem pe_glob {x : Str} {v : V} {u : Value} {pos : Pos} (hg : Gl X x) (hm : X.mg x = some u) (r : RelV v u) (hd : (x == ("__debug__" : Str)) = false := by decide) : PE X (.Name x pos) (tC v) :=
  fun _ _ _ H _ I h => ld_glob I hg hm ⟨v, H, I, r, h⟩ hd
theorem pe_bltn {x : Str} {v : V} {u : Value} {pos : Pos} (hg : Gl X x) (hm : X.mg x = none) (hv : bootBuiltins x = some u) (r : RelV v u) (hn : x ≠ "__name__" := by decide) (hd : (x == ("__debug__" : Str)) = false := by decide) : PE X (.Name x pos) (tC v) :=
  fun _ _ _ H _ I h => ld_blt I hg hm hv ⟨v, H, I, r, h⟩ hn hd

/-! ### arithmetic -/
variable {a b : Expr} {ta tb : TE} {pos : Pos}

/-! ### comparisons -/
def PC (X : Cx) (op : CmpOp) (a b : Expr) (t : TE) : Prop :=
  ∀ (pins : List (Addr × Obj)) (s : Shared) (σ : St) (H : Hp) (Q : VK), Inv X pins σ H s → t σ H Q →
    wpAny (model X.prog X.w) X.A (eval a X.env) (fun v s₁ => wpAny (model X.prog X.w) X.A (eval b X.env) (fun u s₂ => wpAny (model X.prog X.w) X.A (compareOp op v u) (EP X pins σ Q) X.xe s₂) X.xe s₁) X.xe s
/-- a comparison as a value, as a test -/
def tB (t : TE) : TT := fun σ H Q => t σ H fun x H1 => ∃ c, x = .bl c ∧ Q c H1
theorem pt_cmp {op : CmpOp} {t : TE} (h : PC X op a b t) (h1 : behindInMarks op b = false := by first | exact nobehind _ (by decide) (by decide) | rfl) : PT X (.Compare a [op] [b] pos) (tB t) := by
  intro pins s σ H Q I hw
  refine wpAny_isTrue_Compare1 (thn (h pins s σ H _ I hw) fun v s1 h1 => thn h1 fun u s2 h2 => thn h2 fun c s3 ⟨x, H1, I1, r1, q1⟩ => ?_) h1
  obtain ⟨d, rfl, q⟩ := q1
  cases r1
  exact wpAny_truthy_bool ⟨H1, I1, q⟩
/-- an expression whose value is a bool, as a test -/
theorem pt_val {e : Expr} {t : TE} (h : PE X e t) (he : ∀ whole, isTrue e X.env whole = (do let v ← whole; standAt e.pos; holding [v] (truthy v)) := by intro _; rfl) : PT X e (tB t) := by
  intro pins s σ H Q I hw
  refine isTrue_plain (thn (h pins s σ H _ I hw) fun v s1 ⟨x, H1, I1, r1, q1⟩ => ?_) (he _)
  obtain ⟨d, rfl, q⟩ := q1
  cases r1
  exact wpAny_truthy_bool ⟨H1, I1, q⟩

/-! ### and, or, not -/
variable {tA tB' : TT} {rest : List Expr}
def tAnd (t u : TT) : TT := fun σ H Q => t σ H fun c H1 => if c = true then u σ H1 Q else Q false H1
def tOr (t u : TT) : TT := fun σ H Q => t σ H fun c H1 => if c = true then Q true H1 else u σ H1 Q
def tNot (t : TT) : TT := fun σ H Q => t σ H fun c H1 => Q (!c) H1
theorem pw_and1 (ha : PT X a tA) : PW X (.BoolOp .And [a] pos) tA := by
  intro wh pins s σ H Q I h
  refine isTrue_and (thn (ha pins s σ H Q I h) fun c s1 e => ?_)
  cases c with
  | true => exact isTrue_and_nil e
  | false => exact e
theorem pw_or1 (ha : PT X a tA) : PW X (.BoolOp .Or [a] pos) tA := by
  intro wh pins s σ H Q I h
  refine isTrue_or (thn (ha pins s σ H Q I h) fun c s1 e => ?_)
  cases c with
  | false => exact isTrue_or_nil e
  | true => exact e
theorem pw_and (ha : PT X a tA) (hb : PW X (.BoolOp .And (b :: rest) pos) tB') : PW X (.BoolOp .And (a :: b :: rest) pos) (tAnd tA tB') := by
  intro wh pins s σ H Q I h
  refine isTrue_and (thn (ha pins s σ H _ I h) fun c s1 ⟨H1, I1, q1⟩ => ?_)
  cases c with
  | true => exact hb wh pins s1 σ H1 Q I1 q1
  | false => exact ⟨H1, I1, q1⟩
theorem pw_or (ha : PT X a tA) (hb : PW X (.BoolOp .Or (b :: rest) pos) tB') : PW X (.BoolOp .Or (a :: b :: rest) pos) (tOr tA tB') := by
  intro wh pins s σ H Q I h
  refine isTrue_or (thn (ha pins s σ H _ I h) fun c s1 ⟨H1, I1, q1⟩ => ?_)
  cases c with
  | true => exact ⟨H1, I1, q1⟩
  | false => exact hb wh pins s1 σ H1 Q I1 q1
theorem pt_not (ha : PT X a tA) : PT X (.UnaryOp .Not a pos) (tNot tA) := by
  intro pins s σ H Q I h
  exact isTrue_not (ha pins s σ H (fun c H1 => Q (!c) H1) I h)
/-- .. as values (bools) -/
def tAndV (ta tb : TE) : TE := fun σ H Q => ta σ H fun x H1 => ∃ c, x = .bl c ∧ if c = true then tb σ H1 Q else Q (.bl false) H1
def tNotV (ta : TE) : TE := fun σ H Q => ta σ H fun x H1 => ∃ c, x = .bl c ∧ Q (.bl (!c)) H1
theorem pe_one {op} {t : TE} (h : PE X a t) : PE X (.BoolOp op [a] pos) t := fun pins s σ H Q I hw => BoolOp_one (h pins s σ H Q I hw)
theorem pe_and (ha : PE X a ta) (hb : PE X (.BoolOp .And (b :: rest) pos) tb) : PE X (.BoolOp .And (a :: b :: rest) pos) (tAndV ta tb) := by
  intro pins s σ H Q I h
  refine BoolOp_and (thn (ha pins s σ H _ I h) fun v s1 ⟨x, H1, I1, r1, q1⟩ => ?_)
  obtain ⟨c, rfl, q1⟩ := q1
  cases r1
  refine wpAny_truthy_bool ?_
  cases c with
  | true => exact hb pins s1 σ H1 Q I1 q1
  | false => exact ⟨.bl false, H1, I1, rfl, q1⟩
theorem pe_not (ha : PE X a ta) : PE X (.UnaryOp .Not a pos) (tNotV ta) := by
  intro pins s σ H Q I h
  refine UnaryOp_ (thn (ha pins s σ H _ I h) fun v s1 ⟨x, H1, I1, r1, q1⟩ => ?_)
  obtain ⟨c, rfl, q1⟩ := q1
  cases r1
  exact not_of (wpAny_truthy_bool ⟨.bl (!c), H1, I1, rfl, q1⟩)
/-- a if t else b -/
def tIf (t : TT) (ta tb : TE) : TE := fun σ H Q => t σ H fun c H1 => if c = true then ta σ H1 Q else tb σ H1 Q
theorem pe_ifExp {c : Expr} (hc : PT X c tA) (ha : PE X a ta) (hb : PE X b tb) : PE X (.IfExp c a b pos) (tIf tA ta tb) := by
  intro pins s σ H Q I h
  refine wpAny_IfExp (thn (hc pins s σ H _ I h) fun d s1 ⟨H1, I1, q1⟩ => ?_)
  cases d with
  | true => exact ha pins s1 σ H1 Q I1 q1
  | false => exact hb pins s1 σ H1 Q I1 q1
end
end L2

namespace L2
open PySem PySem.Spec PyProof.Rows

/-! ### a list, a tuple that is read: tracked, frozen, or an object of the module -/
def SqL (K : PySem.W.Frag) (H : Hp) (a : Addr) (xs : List V) : Prop :=
  Rd H a (.lst xs) ∨
    ∃ (o : Obj) (its : Array Value) (n : Nat), K.lookup a = some o ∧ o.cls = .type "list" ∧ o.dict = none ∧ o.data = .seq its n ∧ its.size ≤ sizeLine ∧ Vals xs its.toList
def SqT (K : PySem.W.Frag) (H : Hp) (a : Addr) (xs : List V) : Prop :=
  Rd H a (.tup xs) ∨
    ∃ (o : Obj) (its : Array Value) (n : Nat), K.lookup a = some o ∧ o.cls = .type "tuple" ∧ o.data = .seq its n ∧ its.size ≤ sizeLine ∧ Vals xs its.toList
def absV : Value → Option V
  | .none => some .non
  | .bool b => some (.bl b)
  | .int i _ => some (.int i)
  | .str x _ => some (.str x)
  | .bytes b _ => some (.byt b)
  | .float b _ => some (.flt b)
  | .ref a => some (.ref a)
  | .type n => some (.ty n)
  | _ => none
theorem RelV.abs {x : V} {u : Value} (r : RelV x u) : absV u = some x := by
  cases x with
  | non => cases r; rfl
  | bl _ => cases r; rfl
  | int _ => obtain ⟨t, rfl⟩ := r; rfl
  | str _ => obtain ⟨t, rfl⟩ := r; rfl
  | byt _ => obtain ⟨t, rfl⟩ := r; rfl
  | flt _ => obtain ⟨t, rfl⟩ := r; rfl
  | ref _ => cases r; rfl
  | ty _ => cases r; rfl
theorem RelV.inj {x y : V} {u : Value} (r : RelV x u) (q : RelV y u) : x = y := Option.some.inj (r.abs.symm.trans q.abs)
theorem Vals.inj : ∀ {xs ys : List V} {us : List Value}, Vals xs us → Vals ys us → xs = ys
  | _, _, _, .nil, .nil => rfl
  | _, _, _, .cons r t, .cons r' t' => by rw [r.inj r', Vals.inj t t']
section
variable {X : Cx} {pins : List (Addr × Obj)} {σ : St} {H : Hp} {s : Shared} {a : Addr} {xs ys : List V}
theorem SqL.of {K : PySem.W.Frag} (h : H a = some (.lst xs)) : SqL K H a xs := .inl (.inl h)
theorem SqT.of {K : PySem.W.Frag} (h : H a = some (.tup xs)) : SqT K H a xs := .inl (.inl h)
theorem Inv.list (I : Inv X pins σ H s) (h : SqL X.K H a xs) : ∃ its : List Value, Vals xs its ∧ PlainL s.heap a its.toArray ∧ xs.length ≤ sizeLine := by
  rcases h with h | ⟨o, its, n, hk, hc, hd, hs, hz, r⟩
  · obtain ⟨z, its, n, r, e⟩ := h.ok I.hok
    exact ⟨its, r, ⟨_, n, e, rfl, rfl, rfl⟩, z⟩
  · refine ⟨its.toList, r, ⟨o, n, I.kIn a o hk, hc, hd, by simpa using hs⟩, ?_⟩
    have e := r.length
    simp only [Array.length_toList] at e
    omega
theorem Inv.tuple (I : Inv X pins σ H s) (h : SqT X.K H a xs) : ∃ its : List Value, Vals xs its ∧ IsTup s.heap a its.toArray ∧ xs.length ≤ sizeLine := by
  rcases h with h | ⟨o, its, n, hk, hc, hs, hz, r⟩
  · obtain ⟨z, its, r, p⟩ := h.ok I.hok
    exact ⟨its, r, p, z⟩
  · refine ⟨its.toList, r, ⟨o, I.kIn a o hk, hc, n, by simpa using hs⟩, ?_⟩
    have e := r.length
    simp only [Array.length_toList] at e
    omega
theorem Inv.list_inj (I : Inv X pins σ H s) (h : SqL X.K H a xs) (h' : SqL X.K H a ys) : xs = ys := by
  obtain ⟨its, r, ⟨o, n, e, _, _, d⟩, _⟩ := I.list h
  obtain ⟨its', r', ⟨o', n', e', _, _, d'⟩, _⟩ := I.list h'
  rw [e] at e'; cases e'
  rw [d] at d'
  injection d' with d1 _
  have : its = its' := by simpa using congrArg Array.toList d1
  subst this
  exact r.inj r'
theorem Inv.tuple_inj (I : Inv X pins σ H s) (h : SqT X.K H a xs) (h' : SqT X.K H a ys) : xs = ys := by
  obtain ⟨its, r, ⟨o, e, _, n, d⟩, _⟩ := I.tuple h
  obtain ⟨its', r', ⟨o', e', _, n', d'⟩, _⟩ := I.tuple h'
  rw [e] at e'; cases e'
  rw [d] at d'
  injection d' with d1 _
  have : its = its' := by simpa using congrArg Array.toList d1
  subst this
  exact r.inj r'
end

/-! ### another wish about exceptions -/
abbrev Cx.wish (X : Cx) (E : Value → Shared → Prop) : Cx := { X with xe := E }
/-- no exception leaves -/
abbrev Cx.nox (X : Cx) : Cx := X.wish fun _ _ => False
theorem Cx.Ok.wish {X : Cx} (ok : X.Ok) (E : Value → Shared → Prop) : (X.wish E).Ok :=
  ⟨ok.mod, ok.kind, ok.glob, ok.blt, ok.above, ok.inj, ok.has, ok.cab, ok.hd, ok.frames, ok.stk, ok.exf, ok.bs, ok.bsz, ok.noex, ok.exfs, ok.funs, ok.frf⟩
theorem Cx.Ok.unwish {X : Cx} {E : Value → Shared → Prop} (ok : (X.wish E).Ok) : X.Ok :=
  ⟨ok.mod, ok.kind, ok.glob, ok.blt, ok.above, ok.inj, ok.has, ok.cab, ok.hd, ok.frames, ok.stk, ok.exf, ok.bs, ok.bsz, ok.noex, ok.exfs, ok.funs, ok.frf⟩
section
variable {X : Cx} {pins : List (Addr × Obj)} {σ : St} {H : Hp} {s : Shared} {E : Value → Shared → Prop}
theorem Inv.wish (I : Inv X pins σ H s) (E : Value → Shared → Prop) : Inv (X.wish E) pins σ H s := ⟨I.ok.wish E, I.os, I.bare, I.base, I.loc, I.cell, I.free, I.freeC, I.pin, I.hok, I.len⟩
theorem Inv.unwish (I : Inv (X.wish E) pins σ H s) : Inv X pins σ H s := ⟨I.ok.unwish, I.os, I.bare, I.base, I.loc, I.cell, I.free, I.freeC, I.pin, I.hok, I.len⟩
theorem SP.unwish {D : Ends} {f : Flow} {s' : Shared} (h : SP (X.wish E) pins D f s') : SP X pins D f s' := by
  cases f with
  | next => obtain ⟨σ', H', I, q⟩ := h; exact ⟨σ', H', I.unwish, q⟩
  | brk => obtain ⟨σ', H', I, q⟩ := h; exact ⟨σ', H', I.unwish, q⟩
  | cont => obtain ⟨σ', H', I, q⟩ := h; exact ⟨σ', H', I.unwish, q⟩
  | ret u => obtain ⟨v, σ', H', I, r, q⟩ := h; exact ⟨v, σ', H', I.unwish, r, q⟩
theorem PSs.nox {st : List Stmt} {t : TS} (h : PSs X.nox st t) : PSs X st t := fun pins s σ H D I hw =>
  wpAny_mono (h pins s σ H D (I.wish _) hw) (fun _ _ q => q.unwish) fun _ _ z => False.elim z
end

/-! ### blocks and small statements -/
section
variable {X : Cx} {st : Stmt} {rest : List Stmt} {t u : TS} {e : Expr} {te : TE} {pos : Pos}
def tNext : TS := fun D σ H => D.nx σ H
def tSeq (t u : TS) : TS := fun D σ H => t { D with nx := u D } σ H
theorem pss_nil : PSs X [] tNext := fun _ _ σ H _ I h => wpAny_execs_nil ⟨σ, H, I, h⟩
theorem pss_cons (h1 : PS X st t) (h2 : PSs X rest u) : PSs X (st :: rest) (tSeq t u) := by
  intro pins s σ H D I h
  refine wpAny_execs_cons (thn (h1 pins s σ H { D with nx := u D } I h) fun f s1 q => ?_)
  cases f with
  | next =>
    obtain ⟨σ', H', I', q⟩ := q
    exact h2 pins s1 σ' H' D I' q
  | ret v => exact q
  | brk => exact q
  | cont => exact q
theorem pss_one (h1 : PS X st t) : PSs X [st] t := by
  intro pins s σ H D I h
  refine wpAny_execs_cons (thn (h1 pins s σ H D I h) fun f s1 q => ?_)
  cases f with
  | next => exact wpAny_execs_nil q
  | ret v => exact q
  | brk => exact q
  | cont => exact q
/-- in a def's body nothing is shown -/
theorem Inv.quiet {pins : List (Addr × Obj)} {σ : St} {H : Hp} {s : Shared} (I : Inv X pins σ H s) : interactive X.env = false := by simp [interactive, I.ok.kind]
/-- an expression whose value is dropped -/
def tDrop (te : TE) : TS := fun D σ H => te σ H fun _ H1 => D.nx σ H1
theorem ps_expr (he : PE X e te) (hs : swapsWith e none pos.line X.env = pure false := by rfl) : PS X (.Expr e pos) (tDrop te) := by
  intro pins s σ H D I h
  exact wpAny_Expr_any (thn (he pins s σ H _ I h) fun v s1 ⟨x, H1, I1, r1, q1⟩ => ⟨σ, H1, I1, q1⟩) I.quiet hs
def tRet (te : TE) : TS := fun D σ H => te σ H D.rt
theorem ps_ret (he : PE X e te) : PS X (.Return (some e) pos) (tRet te) := by
  intro pins s σ H D I h
  exact wpAny_Return_some (thn (he pins s σ H _ I h) fun v s1 ⟨x, H1, I1, r1, q1⟩ => ⟨x, σ, H1, I1, r1, q1⟩)
def tIfS (c : TT) (t u : TS) : TS := fun D σ H => c σ H fun b H1 => if b = true then t D σ H1 else u D σ H1
theorem ps_if {c : Expr} {a b : List Stmt} {tc : TT} (hc : PT X c tc) (ha : PSs X a t) (hb : PSs X b u) : PS X (.If c a b pos) (tIfS tc t u) := by
  intro pins s σ H D I h
  refine wpAny_If (thn (hc pins s σ H _ I h) fun d s1 ⟨H1, I1, q1⟩ => ?_)
  cases d with
  | true => exact ha pins s1 σ H1 D I1 q1
  | false => exact hb pins s1 σ H1 D I1 q1
end

/-! ### targets -/
abbrev TG := V → St → Hp → (St → Hp → Prop) → Prop
abbrev TGs := List V → St → Hp → (St → Hp → Prop) → Prop
def PG (X : Cx) (target : Expr) (t : TG) : Prop :=
  ∀ (pins : List (Addr × Obj)) (s : Shared) (σ : St) (H : Hp) (v : V) (u : Value) (Q : St → Hp → Prop), Inv X pins σ H s → RelV v u → t v σ H Q →
    wpAny (model X.prog X.w) X.A (assign target X.env u) (fun _ s' => ∃ σ' H', Inv X pins σ' H' s' ∧ Q σ' H') X.xe s
/-- several targets, one after another -/
def PGs (X : Cx) (ts : List Expr) (t : TGs) : Prop :=
  ∀ (pins : List (Addr × Obj)) (s : Shared) (σ : St) (H : Hp) (vs : List V) (us : List Value) (Q : St → Hp → Prop), Inv X pins σ H s → Vals vs us → t vs σ H Q →
    wpAny (model X.prog X.w) X.A (assignInOrder ((assignEach ts X.env).map (·.2)) us) (fun _ s' => ∃ σ' H', Inv X pins σ' H' s' ∧ Q σ' H') X.xe s
/-- o[i] = v, by values -/
abbrev TSet := V → V → V → Hp → (Hp → Prop) → Prop
def PSet (X : Cx) (t : TSet) : Prop :=
  ∀ (pins : List (Addr × Obj)) (s : Shared) (σ : St) (H : Hp) (o i v : V) (ov iv u : Value) (Q : Hp → Prop), Inv X pins σ H s → RelV o ov → RelV i iv → RelV v u → t o i v H Q →
    wpAny (model X.prog X.w) X.A (setItem ov iv u) (fun _ s' => ∃ H', Inv X pins σ H' s' ∧ Q H') X.xe s
/-- a op= b, by values -/
abbrev TIp := V → V → Hp → VK → Prop
def PIp (X : Cx) (op : Operator) (t : TIp) : Prop :=
  ∀ (pins : List (Addr × Obj)) (s : Shared) (σ : St) (H : Hp) (x y : V) (v u : Value) (Q : VK), Inv X pins σ H s → RelV x v → RelV y u → t x y H Q →
    wpAny (model X.prog X.w) X.A (inplaceOp op v u) (EP X pins σ Q) X.xe s
section
variable {X : Cx} {pos : Pos}
def gName (i : Nat) : TG := fun v σ H Q => Q (σ.set i (some v)) H
theorem pg_name {i : Nat} {x : Str} (hN : X.N.Nodup) (hi : X.N[i]? = some x) (hx : Loc X.env.scope x) (hf : X.fn x = true ∨ X.env.scope.names.lookup x = some .local := by first | exact .inl rfl | exact .inr rfl | assumption) : PG X (.Name x pos) (gName i) := by
  intro pins s σ H v u Q I r h
  exact wpAny_assign_Name (store_ok I hN hi hx r (fun s' I' => ⟨_, H, I', h⟩) hf)
def gNil : TGs := fun vs σ H Q => vs = [] ∧ Q σ H
def gCons (t : TG) (u : TGs) : TGs := fun vs σ H Q => ∃ v r, vs = v :: r ∧ t v σ H fun σ' H' => u r σ' H' Q
theorem pgs_nil : PGs X [] gNil := by
  intro pins s σ H vs us Q I r h
  obtain ⟨e, h⟩ := h
  subst e
  cases r
  exact assignInOrder_nil ⟨σ, H, I, h⟩
theorem pgs_cons {e : Expr} {es : List Expr} {t : TG} {u : TGs} (h1 : PG X e t) (h2 : PGs X es u)
    (hs : (assignEach (e :: es) X.env).map (·.2) = assign e X.env :: (assignEach es X.env).map (·.2) := by rfl) : PGs X (e :: es) (gCons t u) := by
  intro pins s σ H vs us Q I r h
  obtain ⟨v, vr, e1, h⟩ := h
  subst e1
  cases r with
  | cons r rr =>
    rw [hs]
    refine assignInOrder_cons (thn (h1 pins s σ H _ _ _ I r h) fun _ s1 ⟨σ1, H1, I1, q1⟩ => ?_)
    exact h2 pins s1 σ1 H1 _ _ Q I1 rr q1
/-- (a, b, ..) = a tuple of that length -/
def gTup (K : PySem.W.Frag) (n : Nat) (t : TGs) : TG := fun v σ H Q => ∃ a xs, v = .ref a ∧ SqT K H a xs ∧ xs.length = n ∧ t xs σ H Q
theorem pg_tup {es : List Expr} {k : Nat} {t : TGs} {n : Nat} (hc : X.calm = true) (h : PGs X es t)
    (hn : (assignEach es X.env).length = n := by rfl) (hst : (assignEach es X.env).findIdx? (·.1) = none := by rfl) : PG X (.Tuple es k pos) (gTup X.K n t) := by
  intro pins s σ H v u Q I r hw
  obtain ⟨a, xs, e1, hq, hl, hw⟩ := hw
  subst e1
  cases r
  obtain ⟨its, rv, ht, hz⟩ := I.tuple hq
  refine assign_Tuple_tuple (I.ok.hd hc) ht (by simp [hn, ← hl, rv.length]) hst fun h' hx => ?_
  have I1 : Inv X pins σ H { s with heap := h' } := I.kept (t' := s.toks) fun b o e => hx b o (Nat.ne_of_lt (Heap.lt_size e)) e
  exact h pins _ σ H xs _ Q I1 (by simpa using rv) hw
/-- o[i] = .. -/
def gSub (to ti : TE) (t : TSet) : TG := fun v σ H Q => to σ H fun o H1 => ti σ H1 fun i H2 => t o i v H2 fun H3 => Q σ H3
theorem pg_sub {o i : Expr} {to ti : TE} {t : TSet} (ho : PE X o to) (hi : PE X i ti) (hs : PSet X t)
    (ha : ∀ v, assign (.Subscript o i pos) X.env v = (do
      let ov ← holding [v] (eval o X.env)
      let iv ← holding [v, ov] (eval i X.env)
      standAt pos
      holding [v, ov, iv] (setItem ov iv v)
      release [v, ov, iv] []) := by intro _; rfl) : PG X (.Subscript o i pos) (gSub to ti t) := by
  intro pins s σ H v u Q I r h
  rw [ha]
  refine wpAny_bind (wpAny_holding (thn (ho pins s σ H _ I h) fun ov s1 ⟨x, H1, I1, r1, q1⟩ => ?_))
  refine wpAny_bind (wpAny_holding (thn (hi pins s1 σ H1 _ I1 q1) fun iv s2 ⟨y, H2, I2, r2, q2⟩ => ?_))
  refine wpAny_bind (wpAny_standAt (wpAny_bind (wpAny_holding (thn (hs pins s2 σ H2 x y v ov iv u _ I2 r1 r2 r q2) fun _ s3 ⟨H3, I3, q3⟩ => ?_))))
  exact wpAny_release ⟨σ, H3, I3, q3⟩
/-- target = value -/
def tAsg (te : TE) (g : TG) : TS := fun D σ H => te σ H fun x H1 => g x σ H1 D.nx
theorem ps_asg {tg e : Expr} {te : TE} {g : TG} (he : PE X e te) (hg : PG X tg g) (hs : swapsWithSole [tg] e pos.line X.env = pure false := by rfl) (hw : swappedStores [tg] e X.env = pure none := by rfl)
    (h1 : (assignEach [tg] X.env).map (·.2) = [assign tg X.env] := by rfl) : PS X (.Assign [tg] e pos) (tAsg te g) := by
  intro pins s σ H D I h
  refine wpAny_Assign_stores (thn (he pins s σ H _ I h) fun v s1 ⟨x, H1, I1, r1, q1⟩ => ?_) hs hw
  rw [h1]
  exact thn (hg pins s1 σ H1 x v _ I1 r1 q1) fun _ s2 q => q
/-- name = value -/
theorem ps_set {i : Nat} {x : Str} {e : Expr} {te : TE} {pos' : Pos} (hN : X.N.Nodup) (hi : X.N[i]? = some x) (hx : Loc X.env.scope x) (he : PE X e te) (hs : swapsWith e (some (.Name x pos')) pos.line X.env = pure false := by rfl) (hf : X.fn x = true ∨ X.env.scope.names.lookup x = some .local := by first | exact .inl rfl | exact .inr rfl | assumption) :
    PS X (.Assign [.Name x pos'] e pos) (tAsg te (gName i)) := by
  intro pins s σ H D I h
  refine wpAny_Assign_Name (thn (he pins s σ H _ I h) fun v s1 ⟨y, H1, I1, r1, q1⟩ => ?_) hs
  exact store_ok I1 hN hi hx r1 (fun s2 I2 => ⟨_, H1, I2, q1⟩) hf
/-- a, b = x, y with plain local names: stored from the right; the pair itself is not tracked (the opening rows as in PyProof/Rows/TupAssign.lean:23) -/
def tPar (i j : Nat) (ta : TA) : TS := fun D σ H => ta σ H fun vs H1 => ∃ v w, vs = [v, w] ∧ D.nx ((σ.set i (some v)).set j (some w)) H1
theorem ps_par {i j : Nat} {x y : Str} {a b : Expr} {ta : TA} {px py pt : Pos} {kt k2 pt2} (hc : X.calm = true) (hN : X.N.Nodup) (hi : X.N[i]? = some x) (hj : X.N[j]? = some y) (hij : i ≠ j)
    (hx : X.env.scope.names.lookup x = some .local) (hy : X.env.scope.names.lookup y = some .local) (ha : PA X [a, b] ta)
    (hw : swappedStores [.Tuple [.Name x px, .Name y py] kt pt] (.Tuple [a, b] k2 pt2) X.env = pure (some [x, y]))
    (hs : swapsWithSole [.Tuple [.Name x px, .Name y py] kt pt] (.Tuple [a, b] k2 pt2) pos.line X.env = pure false := by rfl) :
    PS X (.Assign [.Tuple [.Name x px, .Name y py] kt pt] (.Tuple [a, b] k2 pt2) pos) (tPar i j ta) := by
  intro pins s σ H D I h
  rw [exec_Assign_arm]
  refine wpAny_bind (wpAny_standAt ?_)
  rw [hs]
  refine wpAny_bind (wpAny_pure ?_)
  rw [if_neg (by decide)]
  refine wpAny_bind (Tuple_ (thn (ha _ pins s σ H _ I h) fun us s1 ⟨vs, H1, I1, r1, q1⟩ => ?_))
  obtain ⟨v, w, e1, q1⟩ := q1
  subst e1
  obtain ⟨u1, u2, rfl, rv, rw'⟩ : ∃ u1 u2, us = [u1, u2] ∧ RelV v u1 ∧ RelV w u2 := by
    cases r1 with
    | cons p q =>
      cases q with
      | cons p' q' =>
        cases q'
        exact ⟨_, _, rfl, p, p'⟩
  refine wpAny_newObj_type ?_ (by show 2 ≤ sizeLine; decide)
  have I2 : Inv X pins σ H1 { s1 with heap := s1.heap.push { cls := .type "tuple", data := .seq [u1, u2].toArray } } := I1.kept (t' := s1.toks) fun b o e => Heap.get?_push_of_some _ e
  rw [hw]
  refine wpAny_bind (wpAny_pure ?_)
  show wpAny (model X.prog X.w) X.A (do rule "assign.swapped-stores"; let items ← unpackItems (.ref s1.heap.objs.size) 2 none; assignInOrder [fun v => bindName X.env y v, fun v => bindName X.env x v] items.reverse; pure Flow.next) _ _ _
  refine wpAny_bind (wpAny_rule (wpAny_bind (unpackItems_tuple (items := #[u1, u2]) (I.ok.hd hc) (IsTup.new s1.heap _) fun h' hx' => ?_)))
  have I3 := I2.kept (h' := h') (t' := s1.toks) fun b o e => hx' b o (Nat.ne_of_lt (Heap.lt_size e)) e
  show wpAny _ _ (assignInOrder [fun v => bindName X.env y v, fun v => bindName X.env x v] [u2, u1] >>= fun _ => pure Flow.next) _ _ _
  refine wpAny_bind (assignInOrder_cons (wpAny_bindName (store_ok I3 hN hj (.inl hy) rw' (fun s2 I4 => ?_) (.inr hy))))
  refine assignInOrder_cons (wpAny_bindName (store_ok I4 hN hi (.inl hx) rv (fun s3 I5 => assignInOrder_nil (wpAny_pure ?_)) (.inr hx)))
  rw [List.set_comm _ _ (Ne.symm hij)] at I5
  exact ⟨_, H1, I5, q1⟩
/-- o[i] op= e -/
def tAugS (to ti te : TE) (tget : V → V → Hp → VK → Prop) (tip : TIp) (tset : TSet) : TS := fun D σ H => to σ H fun o H1 => ti σ H1 fun i H2 => tget o i H2 fun x H3 => te σ H3 fun y H4 => tip x y H4 fun z H5 => tset o i z H5 fun H6 => D.nx σ H6
/-- o[i], by values -/
def PGet (X : Cx) (t : V → V → Hp → VK → Prop) : Prop :=
  ∀ (pins : List (Addr × Obj)) (s : Shared) (σ : St) (H : Hp) (o i : V) (ov iv : Value) (Q : VK), Inv X pins σ H s → RelV o ov → RelV i iv → t o i H Q →
    wpAny (model X.prog X.w) X.A (getItem ov iv) (EP X pins σ Q) X.xe s
theorem ps_augS {o i e : Expr} {to ti te : TE} {tget : V → V → Hp → VK → Prop} {tip : TIp} {tset : TSet} {op : Operator} {tpos : Pos} (ho : PE X o to) (hi : PE X i ti) (hg : PGet X tget) (he : PE X e te) (hp : PIp X op tip) (hs : PSet X tset)
    (ha : ∀ ov iv new, augStore i ov iv new = (do holding [new, ov, iv] (setItem ov iv new); release [new, ov, iv] []; pure .next) := by intros; rfl) : PS X (.AugAssign (.Subscript o i tpos) op e pos) (tAugS to ti te tget tip tset) := by
  intro pins s σ H D I h
  refine wpAny_AugAssign_SubscriptAny (thn (ho pins s σ H _ I h) fun ov s1 ⟨x1, H1, I1, r1, q1⟩ => ?_) ha
  refine thn (hi pins s1 σ H1 _ I1 q1) fun iv s2 ⟨x2, H2, I2, r2, q2⟩ => ?_
  refine thn (hg pins s2 σ H2 x1 x2 ov iv _ I2 r1 r2 q2) fun old s3 ⟨x3, H3, I3, r3, q3⟩ => ?_
  refine thn (he pins s3 σ H3 _ I3 q3) fun v s4 ⟨x4, H4, I4, r4, q4⟩ => ?_
  refine thn (hp pins s4 σ H4 x3 x4 old v _ I4 r3 r4 q4) fun new s5 ⟨x5, H5, I5, r5, q5⟩ => ?_
  exact thn (hs pins s5 σ H5 x1 x2 x5 ov iv new _ I5 r1 r2 r5 q5) fun _ s6 ⟨H6, I6, q6⟩ => ⟨σ, H6, I6, q6⟩
/-- ints -/
def ipI (f : Int → Int → Int) : TIp := fun x y H Q => ∃ i j, x = .int i ∧ y = .int j ∧ Q (.int (f i j)) H
theorem ip_add : PIp X .Add (ipI fun i j => i + j) := by
  intro pins s σ H x y v u Q I r1 r2 h
  obtain ⟨i, j, e1, e2, q⟩ := h
  subst e1; subst e2
  obtain ⟨t, rfl⟩ := r1
  obtain ⟨t', rfl⟩ := r2
  exact iadd_int ⟨.int _, H, I.tok _, ⟨_, rfl⟩, q⟩
theorem ip_sub : PIp X .Sub (ipI fun i j => i - j) := by
  intro pins s σ H x y v u Q I r1 r2 h
  obtain ⟨i, j, e1, e2, q⟩ := h
  subst e1; subst e2
  obtain ⟨t, rfl⟩ := r1
  obtain ⟨t', rfl⟩ := r2
  exact isub_int ⟨.int _, H, I.tok _, ⟨_, rfl⟩, q⟩
end

/-! ### while -/
section
variable {X : Cx} {pos : Pos}
end

/-! ### what a loop or a comprehension walks -/
/-- at turn i: it yields x (the heap may grow), or it stops -/
structure It where
  go : Nat → Hp → Prop
  yld : Nat → Hp → V → Hp → Prop
  stop : Nat → Hp → Prop
/-- the iterator's own objects may turn: they are not the frame's, not pinned, younger than the entry (or a comprehension's own) -/
def FpOk (X : Cx) (pins : List (Addr × Obj)) (H : Hp) (b : Addr) : Prop :=
  H b = none ∧ b ≠ X.env.locals ∧ b ∉ X.fs ∧ (b ∈ X.ex ∨ X.s₀.heap.objs.size ≤ b) ∧ (∀ x c, X.env.cells.lookup x = some c → c ≠ b) ∧ ∀ p ∈ X.pn ++ pins, p.1 ≠ b
theorem Inv.fpOk {X : Cx} {pins : List (Addr × Obj)} {σ : St} {H H' : Hp} {s : Shared} {b : Addr} (I : Inv X pins σ H s) (hb : s.heap.objs.size ≤ b) (hn : H' b = none) : FpOk X pins H' b := by
  refine ⟨hn, Nat.ne_of_gt (Nat.lt_of_lt_of_le I.lt hb), I.nofs hb, .inr (Nat.le_trans I.sz hb), fun x c e z => ?_, fun p hp z => ?_⟩
  · obtain ⟨v, q⟩ := I.cell x c e
    exact absurd (Nat.lt_of_lt_of_le q.lt (by rw [z]; exact hb)) (Nat.lt_irrefl _)
  · exact absurd (Nat.lt_of_lt_of_le (Heap.lt_size (I.pin p hp).1) (by rw [z]; exact hb)) (Nat.lt_irrefl _)
structure Turn (P : Program) (w : World) (K : PySem.W.Frag) (tg : Expr) (J : It) (fp : List Addr) (it : Addr) (tn : Nat → Heap → Prop) : Prop where
  mem : it ∈ fp
  obj : ∀ i h, tn i h → ∀ b ∈ fp, ∃ o, h.get? b = some o ∧ ∀ v, o.data ≠ .cell v
  keep : ∀ i h h', tn i h → (∀ b ∈ fp, ∀ o, h.get? b = some o → h'.get? b = some o) → tn i h'
  item : ∀ (X : Cx), X.prog = P → X.w = w → X.K = K → X.calm = true → ∀ (i : Nat) (pins : List (Addr × Obj)) (s : Shared) (σ : St) (H : Hp) (E : Value → Shared → Prop), Inv X pins σ H s → (∀ b ∈ fp, FpOk X pins H b) → tn i s.heap → J.go i H →
    wpAny (model P w) X.A (pyNext (.ref it)) (fun r s1 => ∃ u, r = some u ∧
      wpAny (model P w) X.A (letOwnedTupleGo tg (.ref it) u) (fun _ s2 => ∃ x H', Inv X pins σ H' s2 ∧ RelV x u ∧ J.yld i H x H' ∧ tn (i + 1) s2.heap ∧ ∀ b ∈ fp, H' b = none) E s1) E s
  done : ∀ (X : Cx), X.prog = P → X.w = w → X.K = K → X.calm = true → ∀ (i : Nat) (pins : List (Addr × Obj)) (s : Shared) (σ : St) (H : Hp) (E : Value → Shared → Prop), Inv X pins σ H s → (∀ b ∈ fp, FpOk X pins H b) → tn i s.heap → J.stop i H →
    wpAny (model P w) X.A (pyNext (.ref it)) (fun r s1 => r = none ∧ Inv X pins σ H s1) E s
  self : ∀ (A : Around) (i : Nat) (s : Shared) (Q : Value → Shared → Prop) (E : Value → Shared → Prop), tn i s.heap → Q (.ref it) s → wpAny (model P w) A (pyIter (.ref it)) Q E s
abbrev TI := St → Hp → (It → Hp → Prop) → Prop
/-- an iterator has come -/
def PIE (X : Cx) (pins : List (Addr × Obj)) (σ : St) (tg : Expr) (R : It → Hp → Prop) (itv : Value) (s2 : Shared) : Prop :=
  ∃ (it : Addr) (fp : List Addr) (tn : Nat → Heap → Prop) (J : It) (H' : Hp), itv = .ref it ∧ Inv X pins σ H' s2 ∧ Turn X.prog X.w X.K tg J fp it tn ∧ tn 0 s2.heap ∧ (∀ b ∈ fp, FpOk X pins H' b) ∧ R J H'
def PI (X : Cx) (tg iter : Expr) (wi : TI) : Prop :=
  ∀ (pins : List (Addr × Obj)) (s : Shared) (σ : St) (H : Hp) (R : It → Hp → Prop), Inv X pins σ H s → wi σ H R →
    wpAny (model X.prog X.w) X.A (eval iter X.env) (fun v s1 => wpAny (model X.prog X.w) X.A (pyIter v) (PIE X pins σ tg R) X.xe s1) X.xe s

/-- the step ahead of the store is nothing for an iterator that keeps no tuple -/
theorem go_of {M : Model} {A : Around} {E : Value → Shared → Prop} {s : Shared} {tg : Expr} {it : Addr} {u : Value} {o : Obj} {n : String} {vs : Array Value} {Q : Unit → Shared → Prop} (ho : s.heap.get? it = some o) (hc : o.cls = .type n) (hd : o.data = .fields vs)
    (hn : ["enumerate", "zip", "dict_itemiterator", "dict_reverseitemiterator", "odict_iterator", "itertools.zip_longest", "itertools.pairwise"].contains n = false) (hQ : Q () s) : wpAny M A (letOwnedTupleGo tg (.ref it) u) Q E s := by
  unfold letOwnedTupleGo
  cases tg <;> first
    | exact wpAny_pure hQ
    | (cases u <;> first
        | exact wpAny_pure hQ
        | (refine wpAny_bind (wpAny_load ho ?_)
           rw [hc, hd]
           show wpAny M A (if (["enumerate", "zip", "dict_itemiterator", "dict_reverseitemiterator", "odict_iterator", "itertools.zip_longest", "itertools.pairwise"].contains n && vs[0]? == some (rawInt _)) = true then _ else _) Q E s
           rw [if_neg (by intro h; rw [hn, Bool.false_and] at h; cases h)]
           exact wpAny_pure hQ))

/-- the list at a, as it stands at each turn (a loop may append to it) -/
def Itl (K : PySem.W.Frag) (a : Addr) : It :=
  ⟨fun i H => ∃ xs x, SqL K H a xs ∧ xs[i]? = some x, fun i H x H' => H' = H ∧ ∀ xs, SqL K H a xs → xs[i]? = some x, fun i H => ∃ xs, SqL K H a xs ∧ xs.length ≤ i⟩
def Itt (K : PySem.W.Frag) (a : Addr) : It :=
  ⟨fun i H => ∃ xs x, SqT K H a xs ∧ xs[i]? = some x, fun i H x H' => H' = H ∧ ∀ xs, SqT K H a xs → xs[i]? = some x, fun i H => ∃ xs, SqT K H a xs ∧ xs.length ≤ i⟩
/-- lo, lo + 1, .. (n of them) -/
def Itr (lo : Int) (n : Nat) : It := ⟨fun i _ => i < n, fun i H x H' => H' = H ∧ x = .int (lo + i), fun i _ => n ≤ i⟩
theorem turn_list {P : Program} {w : World} {K : PySem.W.Frag} {tg : Expr} (a it : Addr) : Turn P w K tg (Itl K a) [it] it (fun i h => h.IsListIter it a i) where
  mem := by simp
  obj := fun i h st b hb => by
    have e : b = it := by simpa using hb
    subst e
    obtain ⟨o, e, c, d⟩ := st
    exact ⟨o, e, fun v z => by rw [d] at z; cases z⟩
  keep := fun i h h' st k => st.at fun o e => k it (by simp) o e
  item := by
    intro X hP hw hK hc i pins s σ H E I hf st hg
    subst hP hw hK
    obtain ⟨xs, x, hq, hx⟩ := hg
    obtain ⟨its, rv, p, hz⟩ := I.list hq
    obtain ⟨u, hu, ru⟩ := rv.get hx
    obtain ⟨f0, f1, f2, f3, f4, f5⟩ := hf it (by simp)
    refine wpAny_pyNext_list_item st p.isList (x := u) (by simpa using hu) fun h' st' sb => ?_
    have I1 : Inv X pins σ H { s with heap := h' } := I.turned (t' := s.toks) (fun b o hb e => (sb.2 b hb).trans e) f0 f1 f3 f4 f5
    obtain ⟨o, e, c, d⟩ := id st'
    exact ⟨u, rfl, go_of (s := { s with heap := h' }) e c d (by decide) ⟨x, H, I1, ru, ⟨rfl, fun ys hy => by rw [I.list_inj hy hq]; exact hx⟩, st', fun b hb => (hf b hb).1⟩⟩
  done := by
    intro X hP hw hK hc i pins s σ H E I hf st hg
    subst hP hw hK
    obtain ⟨xs, hq, hx⟩ := hg
    obtain ⟨its, rv, p, hz⟩ := I.list hq
    obtain ⟨f0, f1, f2, f3, f4, f5⟩ := hf it (by simp)
    have hl := rv.length
    exact wpAny_pyNext_list_end (I.ok.hd hc) st p.isList (by simp; omega) fun h' eb => ⟨rfl, I.turned (t' := s.toks) (fun b o hb e => eb b o hb e) f0 f1 f3 f4 f5⟩
  self := fun _ _ _ _ _ st h => wpAny_pyIter_listiter st h
theorem turn_tuple {P : Program} {w : World} {K : PySem.W.Frag} {tg : Expr} (a it : Addr) : Turn P w K tg (Itt K a) [it] it (fun i h => h.IsTupleIter it a i) where
  mem := by simp
  obj := fun i h st b hb => by
    have e : b = it := by simpa using hb
    subst e
    obtain ⟨o, e, c, d⟩ := st
    exact ⟨o, e, fun v z => by rw [d] at z; cases z⟩
  keep := fun i h h' st k => st.at fun o e => k it (by simp) o e
  item := by
    intro X hP hw hK hc i pins s σ H E I hf st hg
    subst hP hw hK
    obtain ⟨xs, x, hq, hx⟩ := hg
    obtain ⟨its, rv, p, hz⟩ := I.tuple hq
    obtain ⟨u, hu, ru⟩ := rv.get hx
    obtain ⟨f0, f1, f2, f3, f4, f5⟩ := hf it (by simp)
    refine wpAny_pyNext_tuple_item st (show s.heap.IsTuple a its.toArray from p) (x := u) (by simpa using hu) fun h' st' sb => ?_
    have I1 : Inv X pins σ H { s with heap := h' } := I.turned (t' := s.toks) (fun b o hb e => (sb.2 b hb).trans e) f0 f1 f3 f4 f5
    obtain ⟨o, e, c, d⟩ := id st'
    exact ⟨u, rfl, go_of (s := { s with heap := h' }) e c d (by decide) ⟨x, H, I1, ru, ⟨rfl, fun ys hy => by rw [I.tuple_inj hy hq]; exact hx⟩, st', fun b hb => (hf b hb).1⟩⟩
  done := by
    intro X hP hw hK hc i pins s σ H E I hf st hg
    subst hP hw hK
    obtain ⟨xs, hq, hx⟩ := hg
    obtain ⟨its, rv, p, hz⟩ := I.tuple hq
    obtain ⟨f0, f1, f2, f3, f4, f5⟩ := hf it (by simp)
    have hl := rv.length
    exact wpAny_pyNext_tuple_end (I.ok.hd hc) st (show s.heap.IsTuple a its.toArray from p) (by simp; omega) fun h' eb => ⟨rfl, I.turned (t' := s.toks) (fun b o hb e => eb b o hb e) f0 f1 f3 f4 f5⟩
  self := fun _ _ _ _ _ st h => wpAny_pyIter_tupleiter st h
theorem turn_range {P : Program} {w : World} {K : PySem.W.Frag} {tg : Expr} (it : Addr) (lo : Int) (n : Nat) : Turn P w K tg (Itr lo n) [it] it (fun i h => IsRangeIter h it (lo + (i : Nat) * 1) ((n : Int) - (i : Nat)) 1) where
  mem := by simp
  obj := fun i h st b hb => by
    have e : b = it := by simpa using hb
    subst e
    exact ⟨_, st, fun v z => by
      have z' : Data.fields _ = Data.cell v := z
      cases z'⟩
  keep := fun i h h' st k => k it (by simp) _ st
  item := by
    intro X hP hw hK hc i pins s σ H E I hf st hg
    subst hP hw hK
    obtain ⟨f0, f1, f2, f3, f4, f5⟩ := hf it (by simp)
    have W := Walks.range (prog := X.prog) (w := X.w) (I.ok.hd hc) it lo 1 n
    refine W.item i s _ _ hg st fun v h' tk hv st' kk => ?_
    obtain ⟨t, rfl⟩ := hv
    have I1 : Inv X pins σ H { s with heap := h', toks := tk } := I.turned (fun b o hb e => kk b o (by simpa using hb) e) f0 f1 f3 f4 f5
    refine ⟨_, rfl, go_of (s := { s with heap := h', toks := tk }) (n := "range_iterator") st' rfl rfl (by decide) ⟨.int (lo + i), H, I1, ⟨t, ?_⟩, ⟨rfl, rfl⟩, st', fun b hb => (hf b hb).1⟩⟩
    rw [Int.mul_one]
  done := by
    intro X hP hw hK hc i pins s σ H E I hf st hg
    subst hP hw hK
    obtain ⟨f0, f1, f2, f3, f4, f5⟩ := hf it (by simp)
    exact wpAny_pyNext_range_end (I.ok.hd hc) st (by have : n ≤ i := hg; omega) fun h' eb => ⟨rfl, I.turned (t' := s.toks) (fun b o hb e => eb b o hb e) f0 f1 f3 f4 f5⟩
  self := fun _ _ _ _ _ st h => wpAny_pyIter_rangeiter st h
end L2

namespace L2
open PySem PySem.Spec PyProof.Rows
section
variable {X : Cx} {tg : Expr}
def iList (K : PySem.W.Frag) (tl : TE) : TI := fun σ H R => tl σ H fun x H1 => ∃ a, x = .ref a ∧ (∃ xs, SqL K H1 a xs) ∧ R (Itl K a) H1
def iTup (K : PySem.W.Frag) (tl : TE) : TI := fun σ H R => tl σ H fun x H1 => ∃ a, x = .ref a ∧ (∃ xs, SqT K H1 a xs) ∧ R (Itt K a) H1
theorem pi_list {l : Expr} {tl : TE} (hl : PE X l tl) : PI X tg l (iList X.K tl) := by
  intro pins s σ H R I h
  refine thn (hl pins s σ H _ I h) fun v s1 ⟨x, H1, I1, r1, q1⟩ => ?_
  obtain ⟨a, e, ⟨xs, hq⟩, q⟩ := q1
  subst e
  cases r1
  obtain ⟨its, rv, p, hz⟩ := I1.list hq
  refine wpAny_pyIter_list p.isList ?_
  refine ⟨s1.heap.objs.size, [s1.heap.objs.size], _, _, H1, rfl, I1.kept (t' := s1.toks) fun b o e => Heap.get?_push_of_some _ e, turn_list a _, ⟨_, Heap.get?_push_size _ rfl, rfl, rfl⟩, fun b hb => ?_, q⟩
  have e : b = s1.heap.objs.size := by simpa using hb
  subst e
  exact I1.fpOk (Nat.le_refl _) (I1.hok.fresh (Nat.le_refl _))
theorem pi_tup {l : Expr} {tl : TE} (hl : PE X l tl) : PI X tg l (iTup X.K tl) := by
  intro pins s σ H R I h
  refine thn (hl pins s σ H _ I h) fun v s1 ⟨x, H1, I1, r1, q1⟩ => ?_
  obtain ⟨a, e, ⟨xs, hq⟩, q⟩ := q1
  subst e
  cases r1
  obtain ⟨its, rv, p, hz⟩ := I1.tuple hq
  refine wpAny_pyIter_tuple (show s1.heap.IsTuple a its.toArray from p) ?_
  refine ⟨s1.heap.objs.size, [s1.heap.objs.size], _, _, H1, rfl, I1.kept (t' := s1.toks) fun b o e => Heap.get?_push_of_some _ e, turn_tuple a _, ⟨_, Heap.get?_push_size _ rfl, rfl, rfl⟩, fun b hb => ?_, q⟩
  have e : b = s1.heap.objs.size := by simpa using hb
  subst e
  exact I1.fpOk (Nat.le_refl _) (I1.hok.fresh (Nat.le_refl _))
/-- a range object just made, walked -/
theorem range_it {pins : List (Addr × Obj)} {σ : St} {H : Hp} {s : Shared} {R : It → Hp → Prop} {E : Value → Shared → Prop} {lo hi : Int} {t u v : Tok} {tk : Nat} (I : Inv X pins σ H s) (h1 : -(2 ^ 62) ≤ lo) (h2 : lo < 2 ^ 62) (h3 : -(2 ^ 62) ≤ hi) (h4 : hi < 2 ^ 62)
    (q : R (Itr lo (hi - lo).toNat) H) : wpAny (model X.prog X.w) X.A (pyIter (.ref s.heap.objs.size)) (PIE X pins σ tg R) E { s with heap := s.heap.push { cls := .type "range", data := .fields #[.int lo t, .int hi u, .int 1 v] }, toks := tk } := by
  refine wpAny_pyIter_range (IsRange.new ..) (small_one h1 h2 h3 h4) ?_
  have I1 : Inv X pins σ H { s with heap := s.heap.push { cls := .type "range", data := .fields #[.int lo t, .int hi u, .int 1 v] }, toks := tk } := I.kept fun b o e => Heap.get?_push_of_some _ e
  refine ⟨(s.heap.push { cls := .type "range", data := .fields #[.int lo t, .int hi u, .int 1 v] }).objs.size, [(s.heap.push { cls := .type "range", data := .fields #[.int lo t, .int hi u, .int 1 v] }).objs.size], _, _, H, rfl,
    I1.kept (t' := tk) fun b o e => Heap.get?_push_of_some _ e, turn_range _ lo (hi - lo).toNat, ?_, fun b hb => ?_, q⟩
  · have e1 : lo + ((0 : Nat) : Int) * 1 = lo := by simp
    have e2 : (((hi - lo).toNat : Nat) : Int) - ((0 : Nat) : Int) = Builtin.Range.rangeSize lo hi 1 := by rw [rangeSize_one]; split <;> omega
    show IsRangeIter _ _ (lo + ((0 : Nat) : Int) * 1) ((((hi - lo).toNat : Nat) : Int) - ((0 : Nat) : Int)) 1
    rw [e1, e2]
    exact Heap.get?_push_size _ rfl
  · have e : b = (s.heap.push { cls := .type "range", data := .fields #[.int lo t, .int hi u, .int 1 v] }).objs.size := by simpa using hb
    subst e
    exact I1.fpOk (Nat.le_refl _) (I1.hok.fresh (Nat.le_refl _))
def iRng1 (ta : TA) : TI := fun σ H R => ta σ H fun vs H1 => ∃ j : Int, vs = [.int j] ∧ -(2 ^ 62) ≤ j ∧ j < 2 ^ 62 ∧ R (Itr 0 j.toNat) H1
def iRng2 (ta : TA) : TI := fun σ H R => ta σ H fun vs H1 => ∃ i j : Int, vs = [.int i, .int j] ∧ (-(2 ^ 62) ≤ i ∧ i < 2 ^ 62 ∧ -(2 ^ 62) ≤ j ∧ j < 2 ^ 62) ∧ R (Itr i (j - i).toNat) H1
theorem pi_range1 {a : Expr} {ta : TA} {p pos : Pos} (hg : Gl X "range") (hm : X.mg "range" = none) (ha : PA X [a] ta) (hs : starEach [a] X.env = [(false, eval a X.env)] := by rfl) : PI X tg (.Call (.Name "range" p) [a] [] pos) (iRng1 ta) := by
  intro pins s σ H R I h
  refine Call_ (ld_blt I hg hm boot_range (PyProof.Rows.callWith_type1 (thn (ha pos pins s σ H _ I h) fun us s1 ⟨vs, H1, I1, r1, q1⟩ => ?_) hs rfl))
  obtain ⟨j, e, q1, q2, q⟩ := q1
  subst e
  cases r1 with
  | cons r rr =>
    cases rr
    obtain ⟨t, rfl⟩ := r
    exact call_range_1 (range_it I1 (by omega) (by omega) q1 q2 (by simpa using q))
theorem pi_range2 {a b : Expr} {ta : TA} {p pos : Pos} (hg : Gl X "range") (hm : X.mg "range" = none) (ha : PA X [a, b] ta) (hs : starEach [a, b] X.env = [(false, eval a X.env), (false, eval b X.env)] := by rfl) (hs2 : starEach [b] X.env = [(false, eval b X.env)] := by rfl) :
    PI X tg (.Call (.Name "range" p) [a, b] [] pos) (iRng2 ta) := by
  intro pins s σ H R I h
  refine Call_ (ld_blt I hg hm boot_range (PyProof.Rows.callWith_type1 (thn (ha pos pins s σ H _ I h) fun us s1 ⟨vs, H1, I1, r1, q1⟩ => ?_) (by rw [hs, hs2]) (by rw [hs2]; rfl)))
  obtain ⟨i, j, e, ⟨q1, q2, q3, q4⟩, q⟩ := q1
  subst e
  cases r1 with
  | cons r rr =>
    cases rr with
    | cons r' rr =>
      cases rr
      obtain ⟨t, rfl⟩ := r
      obtain ⟨t', rfl⟩ := r'
      exact call_range_2 (range_it I1 q1 q2 q3 q4 q)

/-! ### for -/
/-- W: the invariant by the turn and a measure; N: what the body is to reach -/
def tFor (wi : TI) (g : TG) (tb : TS) : TS := fun D σ H => wi σ H fun J H1 => ∃ W : Nat → Nat → St → Hp → Prop, (∃ m, W 0 m σ H1) ∧ ∀ i m σ H, W i m σ H →
  (J.stop i H ∧ D.nx σ H) ∨ (J.go i H ∧ ∃ N : St → Hp → Prop, (∀ σ' H', N σ' H' → ∃ m', m' < m ∧ W (i + 1) m' σ' H') ∧ ∀ x H', J.yld i H x H' → g x σ H' fun σ2 H2 => tb { D with nx := N, ct := N, bk := D.nx } σ2 H2)
/-- the records at fp as they stand -/
def pinsAt (fp : List Addr) (h : Heap) : List (Addr × Obj) := fp.filterMap fun b => (h.get? b).map fun o => (b, o)
theorem mem_pinsAt {fp : List Addr} {h : Heap} {b : Addr} {o : Obj} (hb : b ∈ fp) (e : h.get? b = some o) : (b, o) ∈ pinsAt fp h := List.mem_filterMap.mpr ⟨b, hb, by rw [e]; rfl⟩
theorem of_pinsAt {fp : List Addr} {h : Heap} {p : Addr × Obj} (hp : p ∈ pinsAt fp h) : p.1 ∈ fp ∧ h.get? p.1 = some p.2 := by
  obtain ⟨b, hb, e⟩ := List.mem_filterMap.mp hp
  cases q : h.get? b with
  | none => rw [q] at e; cases e
  | some o =>
    rw [q] at e
    have e' : (b, o) = p := Option.some.inj e
    subst e'
    exact ⟨hb, q⟩
theorem Inv.pinned {pins : List (Addr × Obj)} {σ : St} {H : Hp} {s : Shared} {fp : List Addr} (I : Inv X pins σ H s) (hf : ∀ b ∈ fp, FpOk X pins H b) (ho : ∀ b ∈ fp, ∃ o, s.heap.get? b = some o ∧ ∀ v, o.data ≠ .cell v) : Inv X (pins ++ pinsAt fp s.heap) σ H s :=
  I.pins_of fun p hp => (List.mem_append.mp hp).elim (fun z => I.pin p (List.mem_append_right _ z)) fun z => by
    obtain ⟨hb, e⟩ := of_pinsAt z
    obtain ⟨f0, f1, f2, _⟩ := hf p.1 hb
    obtain ⟨o, e', d⟩ := ho p.1 hb
    rw [e] at e'; cases e'
    exact ⟨e, f0, f1, f2, d⟩
theorem Inv.unpinned {pins pl : List (Addr × Obj)} {σ : St} {H : Hp} {s : Shared} (I : Inv X (pins ++ pl) σ H s) : Inv X pins σ H s := I.pins_of fun p hp => I.pin p (List.mem_append_right _ (List.mem_append_left _ hp))
theorem ps_for {iter : Expr} {body : List Stmt} {wi : TI} {g : TG} {tb : TS} {pos : Pos} (hp : PassesOwn (model X.prog X.w) X.A X.env X.xe) (hc : X.calm = true) (hi : PI X tg iter wi) (hg : PG X tg g) (hb : PSs X body tb)
    (hs : ∀ x, foldedSetIterable iter X.env x = pure x := by intro _; rfl) : PS X (.For tg iter body [] pos) (tFor wi g tb) := by
  intro pins s σ H D I h
  refine wpAny_For (thn (hi pins s σ H _ I h) fun v s1 h1 => thn h1 fun itv s2 h2 => ?_) hs
  obtain ⟨it, fp, tn, J, H2, e, I2, T, st2, f2, W, ⟨m0, w0⟩, turn⟩ := h2
  subst e
  -- what stays true of the iterator's objects through the loop
  have stat : ∀ {H' : Hp}, (∀ b ∈ fp, H' b = none) → ∀ b ∈ fp, FpOk X pins H' b := fun hn b hb => ⟨hn b hb, (f2 b hb).2⟩
  refine codeAny_forLoop_any (fun n s' => ∃ i σ' H', Inv X pins σ' H' s' ∧ tn i s'.heap ∧ (∀ b ∈ fp, H' b = none) ∧ W i n σ' H') ?_ m0 ⟨0, σ, H2, I2, st2, fun b hb => (f2 b hb).1, w0⟩
  rintro n s3 ⟨i, σ3, H3, I3, st3, fr3, w3⟩
  rcases turn i n σ3 H3 w3 with ⟨stop, qn⟩ | ⟨go, N, hN, step⟩
  · refine wpAny_passesOwn hp (thn (T.done X rfl rfl rfl hc i pins s3 σ3 H3 X.xe I3 (stat fr3) st3 stop) fun r s4 ⟨hr, I4⟩ => ?_)
    subst hr
    exact wpAny_execs_nil ⟨σ3, H3, I4, qn⟩
  · refine wpAny_passesOwn hp (thn (T.item X rfl rfl rfl hc i pins s3 σ3 H3 X.xe I3 (stat fr3) st3 go) fun r s4 ⟨u, hr, h4⟩ => ?_)
    subst hr
    refine wpAny_passesOwn hp (thn h4 fun _ s5 ⟨x, H5, I5, r5, y5, st5, fr5⟩ => ?_)
    have I5' := I5.pinned (stat fr5) (T.obj _ _ st5)
    refine wpAny_passesOwn hp (thn (hg _ s5 σ3 H5 x u _ I5' r5 (step x H5 y5)) fun _ s6 ⟨σ6, H6, I6, q6⟩ => ?_)
    refine wpAny_passesOwn hp (thn (hb _ s6 σ6 H6 _ I6 q6) fun f s7 q7 => ?_)
    have again : ∀ {σ7 : St} {H7 : Hp}, Inv X (pins ++ pinsAt fp s5.heap) σ7 H7 s7 → N σ7 H7 → ∃ m, m < n ∧ ∃ i σ' H', Inv X pins σ' H' s7 ∧ tn i s7.heap ∧ (∀ b ∈ fp, H' b = none) ∧ W i m σ' H' := fun {σ7 H7} I7 n7 => by
      obtain ⟨m', hm, w7⟩ := hN σ7 H7 n7
      refine ⟨m', hm, i + 1, σ7, H7, I7.unpinned, T.keep _ _ _ st5 fun b hb o e => (I7.pin (b, o) (List.mem_append_right _ (List.mem_append_right _ (mem_pinsAt hb e)))).1, fun b hb => ?_, w7⟩
      obtain ⟨o, e, d⟩ := T.obj _ _ st5 b hb
      exact (I7.pin (b, o) (List.mem_append_right _ (List.mem_append_right _ (mem_pinsAt hb e)))).2.1
    cases f with
    | next => obtain ⟨σ7, H7, I7, n7⟩ := q7; exact again I7 n7
    | cont => obtain ⟨σ7, H7, I7, n7⟩ := q7; exact again I7 n7
    | brk => obtain ⟨σ7, H7, I7, q7⟩ := q7; exact ⟨σ7, H7, I7.unpinned, q7⟩
    | ret v => obtain ⟨x7, σ7, H7, I7, r7, q7⟩ := q7; exact ⟨x7, σ7, H7, I7.unpinned, r7, q7⟩
end

/-! ### the forms one uses -/
/-- over a list that the body leaves as it is -/
theorem for_list {K : PySem.W.Frag} {a : Addr} {xs : List V} {g : TG} {tb : TS} {D : Ends} {σ : St} {H : Hp} (Pv : Nat → St → Hp → Prop) (h0 : Pv 0 σ H) (hl : ∀ i σ H, i ≤ xs.length → Pv i σ H → SqL K H a xs)
    (hs : ∀ i x σ H, xs[i]? = some x → Pv i σ H → g x σ H fun σ2 H2 => tb { D with nx := Pv (i + 1), ct := Pv (i + 1), bk := D.nx } σ2 H2) (hd : ∀ σ H, Pv xs.length σ H → D.nx σ H) :
    ∃ W : Nat → Nat → St → Hp → Prop, (∃ m, W 0 m σ H) ∧ ∀ i m σ H, W i m σ H →
      ((Itl K a).stop i H ∧ D.nx σ H) ∨ ((Itl K a).go i H ∧ ∃ N : St → Hp → Prop, (∀ σ' H', N σ' H' → ∃ m', m' < m ∧ W (i + 1) m' σ' H') ∧ ∀ x H', (Itl K a).yld i H x H' → g x σ H' fun σ2 H2 => tb { D with nx := N, ct := N, bk := D.nx } σ2 H2) := by
  refine ⟨fun i m σ H => m = xs.length - i ∧ i ≤ xs.length ∧ Pv i σ H, ⟨xs.length, by simp, Nat.zero_le _, h0⟩, ?_⟩
  rintro i m σ H ⟨rfl, hi, p⟩
  have q := hl i σ H hi p
  by_cases hlt : i < xs.length
  · refine .inr ⟨⟨xs, xs[i], q, by simp [hlt]⟩, Pv (i + 1), fun σ' H' p' => ⟨xs.length - (i + 1), by omega, rfl, hlt, p'⟩, fun x H' y => ?_⟩
    obtain ⟨e, y⟩ := y
    subst e
    exact hs i x σ _ (y xs q) p
  · have e : i = xs.length := by omega
    subst e
    exact .inl ⟨⟨xs, q, Nat.le_refl _⟩, hd σ H p⟩
theorem for_tup {K : PySem.W.Frag} {a : Addr} {xs : List V} {g : TG} {tb : TS} {D : Ends} {σ : St} {H : Hp} (Pv : Nat → St → Hp → Prop) (h0 : Pv 0 σ H) (hl : ∀ i σ H, i ≤ xs.length → Pv i σ H → SqT K H a xs)
    (hs : ∀ i x σ H, xs[i]? = some x → Pv i σ H → g x σ H fun σ2 H2 => tb { D with nx := Pv (i + 1), ct := Pv (i + 1), bk := D.nx } σ2 H2) (hd : ∀ σ H, Pv xs.length σ H → D.nx σ H) :
    ∃ W : Nat → Nat → St → Hp → Prop, (∃ m, W 0 m σ H) ∧ ∀ i m σ H, W i m σ H →
      ((Itt K a).stop i H ∧ D.nx σ H) ∨ ((Itt K a).go i H ∧ ∃ N : St → Hp → Prop, (∀ σ' H', N σ' H' → ∃ m', m' < m ∧ W (i + 1) m' σ' H') ∧ ∀ x H', (Itt K a).yld i H x H' → g x σ H' fun σ2 H2 => tb { D with nx := N, ct := N, bk := D.nx } σ2 H2) := by
  refine ⟨fun i m σ H => m = xs.length - i ∧ i ≤ xs.length ∧ Pv i σ H, ⟨xs.length, by simp, Nat.zero_le _, h0⟩, ?_⟩
  rintro i m σ H ⟨rfl, hi, p⟩
  have q := hl i σ H hi p
  by_cases hlt : i < xs.length
  · refine .inr ⟨⟨xs, xs[i], q, by simp [hlt]⟩, Pv (i + 1), fun σ' H' p' => ⟨xs.length - (i + 1), by omega, rfl, hlt, p'⟩, fun x H' y => ?_⟩
    obtain ⟨e, y⟩ := y
    subst e
    exact hs i x σ _ (y xs q) p
  · have e : i = xs.length := by omega
    subst e
    exact .inl ⟨⟨xs, q, Nat.le_refl _⟩, hd σ H p⟩
theorem for_range {lo : Int} {n : Nat} {g : TG} {tb : TS} {D : Ends} {σ : St} {H : Hp} (Pv : Nat → St → Hp → Prop) (h0 : Pv 0 σ H)
    (hs : ∀ i σ H, i < n → Pv i σ H → g (.int (lo + i)) σ H fun σ2 H2 => tb { D with nx := Pv (i + 1), ct := Pv (i + 1), bk := D.nx } σ2 H2) (hd : ∀ σ H, Pv n σ H → D.nx σ H) :
    ∃ W : Nat → Nat → St → Hp → Prop, (∃ m, W 0 m σ H) ∧ ∀ i m σ H, W i m σ H →
      ((Itr lo n).stop i H ∧ D.nx σ H) ∨ ((Itr lo n).go i H ∧ ∃ N : St → Hp → Prop, (∀ σ' H', N σ' H' → ∃ m', m' < m ∧ W (i + 1) m' σ' H') ∧ ∀ x H', (Itr lo n).yld i H x H' → g x σ H' fun σ2 H2 => tb { D with nx := N, ct := N, bk := D.nx } σ2 H2) := by
  refine ⟨fun i m σ H => m = n - i ∧ i ≤ n ∧ Pv i σ H, ⟨n, by simp, Nat.zero_le _, h0⟩, ?_⟩
  rintro i m σ H ⟨rfl, hi, p⟩
  by_cases hlt : i < n
  · refine .inr ⟨hlt, Pv (i + 1), fun σ' H' p' => ⟨n - (i + 1), by omega, rfl, hlt, p'⟩, fun x H' y => ?_⟩
    obtain ⟨e, y⟩ := y
    subst e y
    exact hs i σ _ hlt p
  · have e : i = n := by omega
    subst e
    exact .inl ⟨Nat.le_refl _, hd σ H p⟩
end L2

namespace L2
open PySem PySem.Spec PyProof.Rows

abbrev R2 := V → V → Hp → VK → Prop
/-- a two-place operation on values: f is binaryOp op, inplaceOp op or compareOp op -/
def OpR (X : Cx) (f : Value → Value → Sem Value) (r : R2) : Prop :=
  ∀ (pins : List (Addr × Obj)) (s : Shared) (σ : St) (H : Hp) (x y : V) (v u : Value) (Q : VK), Inv X pins σ H s → RelV x v → RelV y u → r x y H Q →
    wpAny (model X.prog X.w) X.A (f v u) (EP X pins σ Q) X.xe s
/-- a one-place operation -/
def UnR (X : Cx) (f : Value → Sem Value) (r : V → Hp → VK → Prop) : Prop :=
  ∀ (pins : List (Addr × Obj)) (s : Shared) (σ : St) (H : Hp) (x : V) (v : Value) (Q : VK), Inv X pins σ H s → RelV x v → r x H Q →
    wpAny (model X.prog X.w) X.A (f v) (EP X pins σ Q) X.xe s
/-- a call of a value that is known (a builtin, a type) with values -/
def CallR (X : Cx) (f : Value) (r : List V → Hp → VK → Prop) : Prop :=
  ∀ (pins : List (Addr × Obj)) (s : Shared) (σ : St) (H : Hp) (xs : List V) (us : List Value) (Q : VK), Inv X pins σ H s → Vals xs us → r xs H Q →
    wpAny (model X.prog X.w) X.A (call f us) (EP X pins σ Q) X.xe s

def tOp (r : R2) (ta tb : TE) : TE := fun σ H Q => ta σ H fun x H1 => tb σ H1 fun y H2 => r x y H2 Q
def tUn (r : V → Hp → VK → Prop) (ta : TE) : TE := fun σ H Q => ta σ H fun x H1 => r x H1 Q
/-- ints in, under C, and a value out -/
def rI (C : Int → Int → Prop) (g : Int → Int → V) : R2 := fun x y H Q => ∃ i j, x = .int i ∧ y = .int j ∧ C i j ∧ Q (g i j) H
def rI0 (g : Int → Int → V) : R2 := fun x y H Q => ∃ i j, x = .int i ∧ y = .int j ∧ Q (g i j) H
def rU (g : Int → V) : V → Hp → VK → Prop := fun x H Q => ∃ i, x = .int i ∧ Q (g i) H

section
variable {X : Cx} {a b c : Expr} {ta tb tc : TE} {pos : Pos}

theorem binT (ha : PE X a ta) (hb : PE X b tb) {pins : List (Addr × Obj)} {s : Shared} {σ : St} {H : Hp} {R : V → V → Hp → Prop} (I : Inv X pins σ H s)
    (h : ta σ H fun x H1 => tb σ H1 fun y H2 => R x y H2) {Q : Value → Shared → Prop} {f : Value → Value → Sem Value}
    (hf : ∀ v u s2 x y H2, Inv X pins σ H2 s2 → RelV x v → RelV y u → R x y H2 → wpAny (model X.prog X.w) X.A (f v u) Q X.xe s2) :
    wpAny (model X.prog X.w) X.A (eval a X.env) (fun v s₁ => wpAny (model X.prog X.w) X.A (eval b X.env) (fun u s₂ => wpAny (model X.prog X.w) X.A (f v u) Q X.xe s₂) X.xe s₁) X.xe s := by
  refine thn (ha pins s σ H _ I h) fun v s1 ⟨x, H1, I1, r1, q1⟩ => ?_
  refine thn (hb pins s1 σ H1 _ I1 q1) fun u s2 ⟨y, H2, I2, r2, q2⟩ => ?_
  exact hf v u s2 x y H2 I2 r1 r2 q2

theorem pe_op {op : Operator} {r : R2} (ho : OpR X (binaryOp op) r) (ha : PE X a ta) (hb : PE X b tb) : PE X (.BinOp a op b pos) (tOp r ta tb) := by
  intro pins s σ H Q I h
  exact wpAny_BinOp (binT ha hb I h fun v u s2 x y H2 I2 rx ry q => ho pins s2 σ H2 x y v u Q I2 rx ry q)
theorem pe_un {op : UnaryOp} {r : V → Hp → VK → Prop} (ho : UnR X (unaryOp op) r) (ha : PE X a ta) : PE X (.UnaryOp op a pos) (tUn r ta) := by
  intro pins s σ H Q I h
  exact UnaryOp_ (thn (ha pins s σ H _ I h) fun v s1 ⟨x, H1, I1, r1, q1⟩ => ho pins s1 σ H1 x v Q I1 r1 q1)

/-! ### ints -/
theorem opI {f : Value → Value → Sem Value} {C : Int → Int → Prop} {g : Int → Int → Int}
    (rule : ∀ (i j : Int) (t u : Tok) (s : Shared) (Q : Value → Shared → Prop) (E : Value → Shared → Prop), C i j → Q (.int (g i j) s.toks) { s with toks := s.toks + 1 } → wpAny (model X.prog X.w) X.A (f (.int i t) (.int j u)) Q E s) :
    OpR X f (rI C fun i j => .int (g i j)) := by
  intro pins s σ H x y v u Q I rx ry h
  obtain ⟨i, j, rfl, rfl, hc, q⟩ := h
  obtain ⟨t, rfl⟩ := rx
  obtain ⟨t', rfl⟩ := ry
  exact rule i j t t' s _ _ hc ⟨.int (g i j), H, I.tok _, ⟨_, rfl⟩, q⟩
theorem opI0 {f : Value → Value → Sem Value} {g : Int → Int → Int}
    (rule : ∀ (i j : Int) (t u : Tok) (s : Shared) (Q : Value → Shared → Prop) (E : Value → Shared → Prop), Q (.int (g i j) s.toks) { s with toks := s.toks + 1 } → wpAny (model X.prog X.w) X.A (f (.int i t) (.int j u)) Q E s) :
    OpR X f (rI0 fun i j => .int (g i j)) := by
  intro pins s σ H x y v u Q I rx ry h
  obtain ⟨i, j, rfl, rfl, q⟩ := h
  obtain ⟨t, rfl⟩ := rx
  obtain ⟨t', rfl⟩ := ry
  exact rule i j t t' s _ _ ⟨.int (g i j), H, I.tok _, ⟨_, rfl⟩, q⟩
theorem opB0 {f : Value → Value → Sem Value} {g : Int → Int → Bool}
    (rule : ∀ (i j : Int) (t u : Tok) (s : Shared) (Q : Value → Shared → Prop) (E : Value → Shared → Prop), Q (.bool (g i j)) s → wpAny (model X.prog X.w) X.A (f (.int i t) (.int j u)) Q E s) :
    OpR X f (rI0 fun i j => .bl (g i j)) := by
  intro pins s σ H x y v u Q I rx ry h
  obtain ⟨i, j, rfl, rfl, q⟩ := h
  obtain ⟨t, rfl⟩ := rx
  obtain ⟨t', rfl⟩ := ry
  exact rule i j t t' s _ _ ⟨.bl (g i j), H, I, rfl, q⟩

def CDiv (i j : Int) : Prop := 0 < j ∧ j < 1073741824
def CPow (i j : Int) : Prop := 0 ≤ j ∧ j ≤ 1000000 ∧ i.natAbs < 2 ^ 64
def CMul (i j : Int) : Prop := (-(2 ^ 64) < i ∧ i < 2 ^ 64) ∨ (-(2 ^ 64) < j ∧ j < 2 ^ 64)
theorem CMul.ok {i j : Int} (h : CMul i j) : IntMulOk i j := by
  rcases h with ⟨h1, h2⟩ | ⟨h1, h2⟩
  · exact .of_left (intBits_le_64 h1 h2)
  · exact .of_right (intBits_le_64 h1 h2)

theorem op_add : OpR X (binaryOp .Add) (rI0 fun i j => .int (i + j)) := opI0 fun _ _ _ _ _ _ _ q => add_int q
theorem op_sub : OpR X (binaryOp .Sub) (rI0 fun i j => .int (i - j)) := opI0 fun _ _ _ _ _ _ _ q => sub_int q
theorem op_mul : OpR X (binaryOp .Mult) (rI CMul fun i j => .int (i * j)) := opI fun _ _ _ _ _ _ _ hc q => mul_int q hc.ok
/-- // by a positive divisor -/
theorem op_fdiv : OpR X (binaryOp .FloorDiv) (rI CDiv fun i j => .int (i / j)) := opI fun i j _ _ _ _ _ hc q => by
  have h1 : (0 : Int) < j := hc.1
  have h2 : j < 1073741824 := hc.2
  exact floordiv_int (by omega) (by rw [Int.fdiv_eq_ediv_of_nonneg i (by omega)]; exact q) (.inl (PyProof.noPylong_small (by omega)))
/-- % by a positive divisor of any size -/
theorem op_mod : OpR X (binaryOp .Mod) (rI (fun _ j => 0 < j) fun i j => .int (i % j)) := opI fun i j _ _ _ _ _ hc q => by
  have h1 : (0 : Int) < j := hc
  exact mod_int' (by omega) (by rw [Int.fmod_eq_emod_of_nonneg i (by omega)]; exact q)
theorem op_pow : OpR X (binaryOp .Pow) (rI CPow fun i j => .int (i ^ j.toNat)) := opI fun _ _ _ _ _ _ _ hc q => pow_int_small hc.1 hc.2.1 hc.2.2 q


theorem unI {f : Value → Sem Value} {g : Int → Int}
    (rule : ∀ (i : Int) (t : Tok) (s : Shared) (Q : Value → Shared → Prop) (E : Value → Shared → Prop), Q (.int (g i) s.toks) { s with toks := s.toks + 1 } → wpAny (model X.prog X.w) X.A (f (.int i t)) Q E s) :
    UnR X f (rU fun i => .int (g i)) := by
  intro pins s σ H x v Q I rx h
  obtain ⟨i, rfl, q⟩ := h
  obtain ⟨t, rfl⟩ := rx
  exact rule i t s _ _ ⟨.int (g i), H, I.tok _, ⟨_, rfl⟩, q⟩
theorem un_neg : UnR X (unaryOp .USub) (rU fun i => .int (-i)) := unI fun _ _ _ _ _ q => neg_int q

/-! ### bools among ints: n += (a < b) -/
end

/-! ### comparisons -/
/-- the scalars that == tells apart as data does -/
def scal : V → V → Bool
  | .non, .non => true | .non, .int _ => true | .int _, .non => true | .non, .bl _ => true | .bl _, .non => true | .non, .str _ => true | .str _, .non => true
  | .int _, .int _ => true | .bl _, .bl _ => true | .str _, .str _ => true | .byt _, .byt _ => true
  | .int _, .str _ => true | .str _, .int _ => true | .bl _, .str _ => true | .str _, .bl _ => true
  | _, _ => false
def rEq : R2 := fun x y H Q => scal x y = true ∧ Q (.bl (decide (x = y))) H
def rNe : R2 := fun x y H Q => scal x y = true ∧ Q (.bl (!decide (x = y))) H

theorem dec_int {i j : Int} : decide (V.int i = V.int j) = (i == j) := by
  rw [Bool.eq_iff_iff]
  simp
theorem dec_bl {i j : Bool} : decide (V.bl i = V.bl j) = (i == j) := by
  rw [Bool.eq_iff_iff]
  simp
theorem dec_str {i j : Str} : decide (V.str i = V.str j) = (i == j) := by
  rw [Bool.eq_iff_iff]
  simp
theorem dec_byt {i j : Array UInt8} : decide (V.byt i = V.byt j) = (i.toList == j.toList) := by
  rw [Bool.eq_iff_iff]
  cases i
  cases j
  simp

section
variable {X : Cx} {a b c : Expr} {ta tb tc : TE} {pos : Pos}
theorem fin_bl {pins : List (Addr × Obj)} {σ : St} {H : Hp} {s : Shared} {Q : VK} {k k' : Bool} (I : Inv X pins σ H s) (q : Q (.bl k) H) (e : k = k') : EP X pins σ Q (.bool k') s := by
  subst e
  exact ⟨.bl k, H, I, rfl, q⟩
theorem op_eq : OpR X (compareOp .Eq) rEq := by
  intro pins s σ H x y v u Q I rx ry h
  obtain ⟨hs, q⟩ := h
  cases x with
  | non =>
    cases rx
    cases y with
    | non => cases ry; exact PySem.EqNone.eq_none_none (fin_bl I q (by simp))
    | bl j => cases ry; exact PySem.EqNone.eq_none_bool (fin_bl I q (by simp))
    | int j => obtain ⟨t', rfl⟩ := ry; exact PySem.EqNone.eq_none_int (fin_bl I q (by simp))
    | str j => obtain ⟨t', rfl⟩ := ry; exact PySem.EqNone.eq_none_str (fin_bl I q (by simp))
    | _ => exact absurd (show false = true from hs) Bool.false_ne_true
  | bl i =>
    cases rx
    cases y with
    | non => cases ry; exact PySem.EqNone.eq_bool_none (fin_bl I q (by simp))
    | bl j => cases ry; exact eq_bool (fin_bl I q dec_bl)
    | str j => obtain ⟨t', rfl⟩ := ry; exact PySem.EqMixed.eq_bool_str (fin_bl I q (by simp))
    | _ => exact absurd (show false = true from hs) Bool.false_ne_true
  | int i =>
    obtain ⟨t, rfl⟩ := rx
    cases y with
    | non => cases ry; exact PySem.EqNone.eq_int_none (fin_bl I q (by simp))
    | int j => obtain ⟨t', rfl⟩ := ry; exact eq_int (fin_bl I q dec_int)
    | str j => obtain ⟨t', rfl⟩ := ry; exact PySem.EqMixed.eq_int_str (fin_bl I q (by simp))
    | _ => exact absurd (show false = true from hs) Bool.false_ne_true
  | str i =>
    obtain ⟨t, rfl⟩ := rx
    cases y with
    | non => cases ry; exact PySem.EqNone.eq_str_none (fin_bl I q (by simp))
    | bl j => cases ry; exact PySem.EqMixed.eq_str_bool (fin_bl I q (by simp))
    | int j => obtain ⟨t', rfl⟩ := ry; exact PySem.EqMixed.eq_str_int (fin_bl I q (by simp))
    | str j => obtain ⟨t', rfl⟩ := ry; exact eq_str (fin_bl I q dec_str)
    | _ => exact absurd (show false = true from hs) Bool.false_ne_true
  | byt i =>
    obtain ⟨t, rfl⟩ := rx
    cases y with
    | byt j => obtain ⟨t', rfl⟩ := ry; exact PySem.W.eq_bytes (fin_bl I q dec_byt)
    | _ => exact absurd (show false = true from hs) Bool.false_ne_true
  | _ => cases y <;> exact absurd (show false = true from hs) Bool.false_ne_true
theorem op_ne : OpR X (compareOp .NotEq) rNe := by
  intro pins s σ H x y v u Q I rx ry h
  obtain ⟨hs, q⟩ := h
  cases x with
  | non =>
    cases rx
    cases y with
    | non => cases ry; exact PySem.EqNone.ne_none_none (fin_bl I q (by simp))
    | bl j => cases ry; exact PySem.EqNone.ne_none_bool (fin_bl I q (by simp))
    | int j => obtain ⟨t', rfl⟩ := ry; exact PySem.EqNone.ne_none_int (fin_bl I q (by simp))
    | str j => obtain ⟨t', rfl⟩ := ry; exact PySem.EqNone.ne_none_str (fin_bl I q (by simp))
    | _ => exact absurd (show false = true from hs) Bool.false_ne_true
  | bl i =>
    cases rx
    cases y with
    | non => cases ry; exact PySem.EqNone.ne_bool_none (fin_bl I q (by simp))
    | bl j => cases ry; exact ne_bool (fin_bl I q (congrArg not dec_bl))
    | str j => obtain ⟨t', rfl⟩ := ry; exact PySem.EqMixed.ne_bool_str (fin_bl I q (by simp))
    | _ => exact absurd (show false = true from hs) Bool.false_ne_true
  | int i =>
    obtain ⟨t, rfl⟩ := rx
    cases y with
    | non => cases ry; exact PySem.EqNone.ne_int_none (fin_bl I q (by simp))
    | int j => obtain ⟨t', rfl⟩ := ry; exact ne_int (fin_bl I q (congrArg not dec_int))
    | str j => obtain ⟨t', rfl⟩ := ry; exact PySem.EqMixed.ne_int_str (fin_bl I q (by simp))
    | _ => exact absurd (show false = true from hs) Bool.false_ne_true
  | str i =>
    obtain ⟨t, rfl⟩ := rx
    cases y with
    | non => cases ry; exact PySem.EqNone.ne_str_none (fin_bl I q (by simp))
    | bl j => cases ry; exact PySem.EqMixed.ne_str_bool (fin_bl I q (by simp))
    | int j => obtain ⟨t', rfl⟩ := ry; exact PySem.EqMixed.ne_str_int (fin_bl I q (by simp))
    | str j => obtain ⟨t', rfl⟩ := ry; exact ne_str (fin_bl I q (congrArg not dec_str))
    | _ => exact absurd (show false = true from hs) Bool.false_ne_true
  | byt i =>
    obtain ⟨t, rfl⟩ := rx
    cases y with
    | byt j => obtain ⟨t', rfl⟩ := ry; exact PySem.W.ne_bytes (fin_bl I q (congrArg not dec_byt))
    | _ => exact absurd (show false = true from hs) Bool.false_ne_true
  | _ => cases y <;> exact absurd (show false = true from hs) Bool.false_ne_true

theorem op_lt : OpR X (compareOp .Lt) (rI0 fun i j => .bl (decide (i < j))) := opB0 fun _ _ _ _ _ _ _ q => lt_int q
theorem op_le : OpR X (compareOp .LtE) (rI0 fun i j => .bl (decide (i ≤ j))) := opB0 fun _ _ _ _ _ _ _ q => le_int q
theorem op_gt : OpR X (compareOp .Gt) (rI0 fun i j => .bl (decide (j < i))) := opB0 fun _ _ _ _ _ _ _ q => gt_int q
theorem op_ge : OpR X (compareOp .GtE) (rI0 fun i j => .bl (decide (j ≤ i))) := opB0 fun _ _ _ _ _ _ _ q => ge_int q

/-- is None, is not None: the right side a value none -/
theorem op_isN : OpR X (compareOp .Is) (fun x y H Q => y = .non ∧ Q (.bl (decide (x = .non))) H) := by
  intro pins s σ H x y v u Q I rx ry h
  obtain ⟨rfl, q⟩ := h
  cases ry
  refine is_none_gen (fin_bl I q ?_)
  cases x <;> first
    | (cases rx; rfl)
    | (obtain ⟨t, rfl⟩ := rx; rfl)



theorem nomark (b : Expr) {op : CmpOp} (h : op ≠ .In := by decide) (h2 : op ≠ .NotIn := by decide) : behindInMarks op b = false := by
  have e1 : (op == CmpOp.In) = false := by cases op <;> first | rfl | exact absurd rfl h
  have e2 : (op == CmpOp.NotIn) = false := by cases op <;> first | rfl | exact absurd rfl h2
  cases b <;> simp [behindInMarks, e1, e2]
/-- a comparison as a value; hm: nomark b, or (for in, not in) by with_unfolding_all rfl -/
theorem pe_cmpR {op : CmpOp} {r : R2} (ho : OpR X (compareOp op) r) (ha : PE X a ta) (hb : PE X b tb) (hm : behindInMarks op b = false) : PE X (.Compare a [op] [b] pos) (tOp r ta tb) := by
  intro pins s σ H Q I h
  exact wpAny_Compare1 (binT ha hb I h fun v u s2 x y H2 I2 rx ry q => ho pins s2 σ H2 x y v u Q I2 rx ry q) hm
/-- a reading of a value as a test -/
def tTest (t : TE) : TT := fun σ H Q => t σ H fun x H' => ∃ k, x = .bl k ∧ Q k H'
theorem pt_cmpR {op : CmpOp} {r : R2} (ho : OpR X (compareOp op) r) (ha : PE X a ta) (hb : PE X b tb) (hm : behindInMarks op b = false) : PT X (.Compare a [op] [b] pos) (tTest (tOp r ta tb)) := by
  intro pins s σ H Q I h
  refine wpAny_isTrue_Compare1 (thn (ha pins s σ H _ I h) fun v s1 ⟨x, H1, I1, r1, q1⟩ => thn (hb pins s1 σ H1 _ I1 q1) fun u s2 ⟨y, H2, I2, r2, q2⟩ =>
    thn (ho pins s2 σ H2 x y v u _ I2 r1 r2 q2) fun c s3 ⟨z, H3, I3, r3, k, e, q3⟩ => ?_) hm
  subst e
  cases r3
  exact wpAny_truthy_bool ⟨H3, I3, q3⟩
/-- a op1 b op2 c -/
def tChain (r r' : R2) (ta tb tc : TE) : TE := fun σ H Q => ta σ H fun x H1 => tb σ H1 fun y H2 => r x y H2 fun z H3 => ∃ k, z = .bl k ∧
  (if k = true then tc σ H3 fun w' H4 => r' y w' H4 Q else Q (.bl false) H3)
theorem pe_chain {op op' : CmpOp} {r r' : R2} (ho : OpR X (compareOp op) r) (ho' : OpR X (compareOp op') r') (ha : PE X a ta) (hb : PE X b tb) (hc : PE X c tc)
    (hm : lastMarks [op, op'] [b, c] = false := by with_unfolding_all rfl) : PE X (.Compare a [op, op'] [b, c] pos) (tChain r r' ta tb tc) := by
  intro pins s σ H Q I h
  refine Compare_chain (thn (ha pins s σ H _ I h) fun v s1 ⟨x, H1, I1, r1, q1⟩ => chain_link (thn (hb pins s1 σ H1 _ I1 q1) fun u s2 ⟨y, H2, I2, r2, q2⟩ =>
    thn (ho pins s2 σ H2 x y v u _ I2 r1 r2 q2) fun d s3 ⟨z, H3, I3, r3, k, e, q3⟩ => ?_)) hm
  subst e
  cases r3
  refine wpAny_truthy_bool ?_
  cases k with
  | false => exact ite_ff ⟨.bl false, H3, I3, rfl, q3⟩
  | true => exact ite_tt (chain_last (thn (hc pins s3 σ H3 _ I3 q3) fun w' s4 ⟨z', H4, I4, r4, q4⟩ => ho' pins s4 σ H4 y z' u w' Q I4 r2 r4 q4))
theorem pt_chain {op op' : CmpOp} {r r' : R2} (ho : OpR X (compareOp op) r) (ho' : OpR X (compareOp op') r') (ha : PE X a ta) (hb : PE X b tb) (hc : PE X c tc)
    (hm : lastMarks [op, op'] [b, c] = false := by with_unfolding_all rfl) : PT X (.Compare a [op, op'] [b, c] pos) (tTest (tChain r r' ta tb tc)) := by
  intro pins s σ H Q I h
  refine isTrue_chain (thn (ha pins s σ H _ I h) fun v s1 ⟨x, H1, I1, r1, q1⟩ => test_link (thn (hb pins s1 σ H1 _ I1 q1) fun u s2 ⟨y, H2, I2, r2, q2⟩ =>
    thn (ho pins s2 σ H2 x y v u _ I2 r1 r2 q2) fun d s3 ⟨z, H3, I3, r3, k, e, q3⟩ => ?_)) hm
  subst e
  cases r3
  refine wpAny_truthy_bool ?_
  cases k with
  | false =>
    obtain ⟨k', e', q'⟩ := q3
    cases e'
    exact ite_ff ⟨H3, I3, q'⟩
  | true =>
    refine ite_tt (test_last (thn (hc pins s3 σ H3 _ I3 q3) fun w' s4 ⟨z', H4, I4, r4, q4⟩ => thn (ho' pins s4 σ H4 y z' u w' _ I4 r2 r4 q4) fun d' s5 ⟨z2, H5, I5, r5, k2, e2, q5⟩ => ?_))
    subst e2
    cases r5
    exact wpAny_truthy_bool ⟨H5, I5, q5⟩

/-! ### truth -/
theorem line63 : (sizeLine : Nat) < 2 ^ 63 := by rw [sizeLine_eq]; decide

/-! ### strs and bytes -/


/-! ### scalar builtins, by CallR -/
theorem vals1 {x : V} {us : List Value} (r : Vals [x] us) : ∃ u, us = [u] ∧ RelV x u := by
  cases r with
  | cons r1 r2 => cases r2; exact ⟨_, rfl, r1⟩
theorem vals2 {x y : V} {us : List Value} (r : Vals [x, y] us) : ∃ u w', us = [u, w'] ∧ RelV x u ∧ RelV y w' := by
  cases r with
  | cons r1 r2 =>
    cases r2 with
    | cons r3 r4 => cases r4; exact ⟨_, _, rfl, r1, r3⟩
theorem call_max2 (hc : X.calm = true) : CallR X (.builtin "max") (fun xs H Q => ∃ i j, xs = [.int i, .int j] ∧ Q (.int (if j > i then j else i)) H) := by
  intro pins s σ H xs us Q I r h
  obtain ⟨i, j, rfl, q⟩ := h
  obtain ⟨u, w', rfl, ⟨t, rfl⟩, ⟨t', rfl⟩⟩ := vals2 r
  refine max_two_ints (I.ok.hd hc) fun h' tk k => ⟨_, H, I.kept k, ?_, q⟩
  by_cases hj : j > i
  · rw [if_pos hj, if_pos hj]; exact ⟨_, rfl⟩
  · rw [if_neg hj, if_neg hj]; exact ⟨_, rfl⟩
theorem call_min2 (hc : X.calm = true) : CallR X (.builtin "min") (fun xs H Q => ∃ i j, xs = [.int i, .int j] ∧ Q (.int (if j < i then j else i)) H) := by
  intro pins s σ H xs us Q I r h
  obtain ⟨i, j, rfl, q⟩ := h
  obtain ⟨u, w', rfl, ⟨t, rfl⟩, ⟨t', rfl⟩⟩ := vals2 r
  refine min_two_ints (I.ok.hd hc) fun h' tk k => ⟨_, H, I.kept k, ?_, q⟩
  by_cases hj : j < i
  · rw [if_pos hj, if_pos hj]; exact ⟨_, rfl⟩
  · rw [if_neg hj, if_neg hj]; exact ⟨_, rfl⟩
theorem call_int1 : CallR X (.type "int") (fun xs H Q => (∃ i, xs = [.int i] ∧ Q (.int i) H) ∨ ∃ k, xs = [.bl k] ∧ Q (.int (if k then 1 else 0)) H) := by
  intro pins s σ H xs us Q I r h
  rcases h with ⟨i, rfl, q⟩ | ⟨k, rfl, q⟩
  · obtain ⟨u, rfl, t, rfl⟩ := vals1 r
    exact call_int_int ⟨.int i, H, I, ⟨_, rfl⟩, q⟩
  · obtain ⟨u, rfl, r1⟩ := vals1 r
    cases r1
    exact call_int_bool ⟨.int (if k then 1 else 0), H, I.tok _, ⟨_, rfl⟩, q⟩
end
end L2

namespace L2
open PySem PySem.Spec PyProof.Rows

/-! ### an instance, its attributes a map -/
structure ObjM (h : Heap) (x dx C : Addr) (mA : Str → Option Value) : Prop where
  obj : h.get? x = some (PySem.W.instObj C dx)
  ns : h.Ns1 dx mA
  ne : dx ≠ x

theorem lookIn_ns {h : Heap} {dx : Addr} {mA : Str → Option Value} (n : h.Ns1 dx mA) : ∃ od, h.get? dx = some od ∧ ∀ name, PySem.W.lookIn name od = some (mA name) := by
  obtain ⟨o, es, ep, ho, hd, hk, _, hm⟩ := n
  refine ⟨o, ho, fun name => ?_⟩
  have e := hm name
  unfold nsFind findBy at e
  rw [← Array.find?_toList] at e
  unfold PySem.W.lookIn
  rw [hd]
  dsimp only
  split
  · rename_i y q
    rw [q] at e
    exact congrArg some e
  · rename_i q
    rw [q] at e
    have a : es.toList.any (·.refKey) = false := by
      rw [List.any_eq_false]
      intro y hy
      obtain ⟨z, t, hkey⟩ := hk y (Array.mem_toList_iff.mp hy)
      simp [DictEntry.refKey, hkey]
    have a' : ¬ es.toList.any (·.refKey) = true := by rw [a]; exact Bool.false_ne_true
    rw [if_neg a']
    exact congrArg some e

theorem ObjM.look {h : Heap} {x dx C : Addr} {mA : Str → Option Value} (I : ObjM h x dx C mA) : ∃ od, PySem.W.InstAt h x (PySem.W.instObj C dx) C (some od) ∧ ∀ name, PySem.W.lookIn name od = some (mA name) :=
  let ⟨od, ho, hl⟩ := lookIn_ns I.ns
  ⟨od, ⟨I.obj, rfl, rfl, ho⟩, hl⟩

section
variable {prog : Program} {w : World} {A : Around} {E : Value → Shared → Prop} {s : Shared} {K : PySem.W.Frag} {x dx C f : Addr} {mA : Str → Option Value} {name : Str} {v : Value}





end

/-! ### the attributes as a list of pairs -/

theorem RelO.some_of {v : V} {o : Option Value} (r : RelO (some v) o) : ∃ u, o = some u ∧ RelV v u := by
  cases o with
  | none => exact (show False from r).elim
  | some u => exact ⟨u, rfl, r⟩

section
variable {P : Program} {w : World} {H H' : Hp} {h h' : Heap} {a C dx : Addr} {fs fs' : List (Str × V)}
theorem ins_get (hok : HOk P w H h) (e : H a = some (.ins C dx fs)) : ∃ mA, ObjM h a dx C mA ∧ (∀ f, RelO (fs.lookup f) (mA f)) ∧ PySem.Within mA (fs.map (·.1)) ∧ fs.length ≤ 1000 ∧ H dx = some (.own a) := by
  obtain ⟨d, z, ne, ob, mA, n, r, q⟩ := (show ObjOk P w H h a (.ins C dx fs) from hok a _ e)
  exact ⟨mA, ⟨ob, n, ne⟩, r, q, z, d⟩
end

/-! ### what of the text a class must have -/
structure Cls (K : PySem.W.Frag) (C : Addr) : Prop where
  pg : PySem.W.plainGet K C Str.empty = true
  hd : PySem.W.hasDictIn K C = true
  po : PySem.W.plainOver K C = true
  sa : PySem.W.findIn K (.ref C) "__setattr__" = some (some (.builtin "object.__setattr__"))
theorem Cls.get {K : PySem.W.Frag} {C : Addr} (c : Cls K C) (f : Str) : PySem.W.plainGet K C f = true := c.pg

section
variable {X : Cx} {pins : List (Addr × Obj)} {σ : St} {H : Hp} {s : Shared} {a C dx : Addr} {fs : List (Str × V)} {f : Str} {v : V} {A : Around} {E : Value → Shared → Prop}






end

/-! ### readings and rules -/

section
variable {X : Cx} {o e value : Expr} {f : Str} {pos pos' tpos : Pos} {ta tv : TE}

end

/-! ### isinstance -/
section
variable {X : Cx} {pins : List (Addr × Obj)} {σ : St} {H : Hp} {s : Shared} {A : Around} {E : Value → Shared → Prop} {Q : Value → Shared → Prop} {c : Value} {b : Bool}
/-- the type of a value, as the fragment's deciders take it; for an instance its class -/
inductive TyOf (K : PySem.W.Frag) (H : Hp) : V → Value → Prop where
  | non : TyOf K H .non (.type "NoneType")
  | bl (x : Bool) : TyOf K H (.bl x) (.type "bool")
  | int (i : Int) : TyOf K H (.int i) (.type "int")
  | str (x : Str) : TyOf K H (.str x) (.type "str")
  | flt (x : UInt64) : TyOf K H (.flt x) (.type "float")
  | lst {a : Addr} {xs : List V} (e : H a = some (.lst xs)) : TyOf K H (.ref a) (.type "list")
  | frz {a : Addr} {o : Obj} {xs : List V} (e : H a = some (.frz o (.lst xs))) : TyOf K H (.ref a) (.type "list")
  | tup {a : Addr} {xs : List V} (e : H a = some (.tup xs)) : TyOf K H (.ref a) (.type "tuple")
  | dK {a : Addr} {kvs : List (Key × V)} (e : H a = some (.dK kvs)) : TyOf K H (.ref a) (.type "dict")
  | dT {a : Addr} {kvs : List (List Key × V)} (e : H a = some (.dT kvs)) : TyOf K H (.ref a) (.type "dict")
  | ins {a C dx : Addr} {fs : List (Str × V)} (e : H a = some (.ins C dx fs)) (cl : Cls K C) (ha : PySem.W.findIn K (.ref C) "__class__" = some (some (.builtin "object.__class__")))
      (hn : PySem.W.specialIn K (.builtin "object.__class__") "__get__" = some (some (.builtin "getset_descriptor.__get__"))) (htk : PySem.W.takesIn K (.builtin "object.__class__") = some true)
      (hm : PySem.W.mroIn K C (.type "object") = some true) : TyOf K H (.ref a) (.ref C)
/-- isinstance(x, c) for one class c, a built-in or an own one: kitOne's answer -/
theorem isinst_ok {x : V} {u t : Value} (I : Inv X pins σ H s) (rx : RelV x u) (ty : TyOf X.K H x t) (e : PySem.W.kitOne X.K t c = some b) (h : ∀ tk, Q (.bool b) { s with toks := tk }) :
    wpAny (model X.prog X.w) A (call (.builtin "isinstance") [u, c]) Q E s := by
  cases ty with
  | non => cases (show u = Value.none from rx); exact PySem.W.kia_one PySem.W.kitx_none I.kIn True.intro e (fun z => nomatch z) h
  | bl y => cases (show u = Value.bool y from rx); exact PySem.W.kia_one PySem.W.kitx_bool I.kIn True.intro e (fun z => nomatch z) h
  | int i => obtain ⟨t, q⟩ := (show ∃ t, u = Value.int i t from rx); cases q; exact PySem.W.kia_one PySem.W.kitx_int I.kIn True.intro e (fun z => nomatch z) h
  | str y => obtain ⟨t, q⟩ := (show ∃ t, u = Value.str y t from rx); cases q; exact PySem.W.kia_one PySem.W.kitx_str I.kIn True.intro e (fun z => nomatch z) h
  | flt y => obtain ⟨t, q⟩ := (show ∃ t, u = Value.float y t from rx); cases q; exact PySem.W.kia_one PySem.W.kitx_float I.kIn True.intro e (fun z => nomatch z) h
  | @lst a xs ea =>
    cases (show u = Value.ref a from rx)
    obtain ⟨_, _, n, _, h1⟩ := (show ObjOk X.prog X.w H s.heap a (.lst xs) from I.hok a _ ea)
    exact PySem.W.kia_one PySem.W.kitx_list I.kIn ⟨_, h1, rfl⟩ e (fun z => nomatch z) h
  | @frz a ob xs ea =>
    cases (show u = Value.ref a from rx)
    obtain ⟨_, _, _, n, _, h1⟩ := (show ObjOk X.prog X.w H s.heap a (.frz ob (.lst xs)) from I.hok a _ ea)
    exact PySem.W.kia_one PySem.W.kitx_list I.kIn ⟨_, h1, rfl⟩ e (fun z => nomatch z) h
  | @tup a xs ea =>
    cases (show u = Value.ref a from rx)
    obtain ⟨_, _, _, p⟩ := (show ObjOk X.prog X.w H s.heap a (.tup xs) from I.hok a _ ea)
    obtain ⟨o, h1, h2, _⟩ := p
    exact PySem.W.kia_one PySem.W.kitx_tuple I.kIn ⟨o, h1, h2⟩ e (fun z => nomatch z) h
  | @dK a kvs ea =>
    cases (show u = Value.ref a from rx)
    obtain ⟨_, _, vs, _, p⟩ := (show ObjOk X.prog X.w H s.heap a (.dK kvs) from I.hok a _ ea)
    obtain ⟨o, es, ep, h1, h2, _⟩ := p
    exact PySem.W.kia_one PySem.W.kitx_dict I.kIn ⟨o, h1, h2.1⟩ e (fun z => nomatch z) h
  | @dT a kvs ea =>
    cases (show u = Value.ref a from rx)
    obtain ⟨_, _, xs, _, o, es, ep, h1, h2, _⟩ := (show ObjOk X.prog X.w H s.heap a (.dT kvs) from I.hok a _ ea)
    exact PySem.W.kia_one PySem.W.kitx_dict I.kIn ⟨o, h1, h2.1⟩ e (fun z => nomatch z) h
  | @ins a C dx fs ea cl ha hn htk hm =>
    cases (show u = Value.ref a from rx)
    obtain ⟨mA, O, _⟩ := ins_get I.hok ea
    obtain ⟨od, J, _⟩ := O.look
    exact PySem.W.kia_one (PySem.W.kitx_own (cl.get _) cl.hd ha hn htk hm) I.kIn J e (fun z => nomatch z) h
end
end L2

namespace L2
open PySem PySem.Spec PyProof.Rows

/-! ### room -/
structure Room (k : Nat) (A : Around) : Prop where
  hd : A.handled = none
  dp : A.depth + 3 * k + 5 < recursionLimit
  un : A.units + 16 * k + 200 < cLine
  gd : A.guards = some []
theorem Room.mono {j k : Nat} {A : Around} (r : Room k A) (h : j ≤ k) : Room j A := ⟨r.hd, by have := r.dp; omega, by have := r.un; omega, r.gd⟩
theorem Room.deeper {k : Nat} {A : Around} (r : Room (k + 1) A) (env : Env) : Room k (A.deeper env) :=
  ⟨r.hd, by have := r.dp; show A.depth + 1 + 3 * k + 5 < _; omega, by have := r.un; show A.units + 3 + 16 * k + 200 < _; omega, r.gd⟩
theorem Room.depth {k : Nat} {A : Around} (r : Room k A) : A.depth < recursionLimit := by have := r.dp; omega
theorem Room.units {k : Nat} {A : Around} (r : Room k A) : A.units + 64 < cLine := by have := r.un; omega

/-! ### argument lists and displays -/
def tNil : TA := fun _ H Q => Q [] H
def tCons (ta : TE) (tr : TA) : TA := fun σ H Q => ta σ H fun x H1 => tr σ H1 fun xs H2 => Q (x :: xs) H2
section
variable {X : Cx} {e : Expr} {es : List Expr} {te : TE} {t : TA} {pos : Pos}
theorem pa_nil : PA X [] tNil := fun _ _ _ _ H Q I h => Calls.spliced_nil ⟨[], H, I, .nil, h⟩
theorem pa_cons (ha : PE X e te) (hr : PA X es t) (hs : starEach (e :: es) X.env = (false, eval e X.env) :: starEach es X.env := by rfl) : PA X (e :: es) (tCons te t) := by
  intro pos pins s σ H Q I h
  rw [hs]
  show wpAny _ _ (spliced ((false, eval e X.env) :: backTo pos (starEach es X.env))) _ _ s
  refine Calls.spliced_cons (thn (ha pins s σ H _ I h) fun u s1 ⟨x, H1, I1, r1, q1⟩ => ?_)
  exact thn (hr pos pins s1 σ H1 _ I1 q1) fun us s2 ⟨xs, H2, I2, r2, q2⟩ => ⟨x :: xs, H2, I2, .cons r1 r2, q2⟩

/-- a tuple, a list of written items -/
def tTup (t : TA) : TE := fun σ H Q => t σ H fun xs H1 => xs.length ≤ sizeLine ∧ ∀ p, H1 p = none → Q (.ref p) (upd H1 p (.tup xs))
def tLst (t : TA) : TE := fun σ H Q => t σ H fun xs H1 => xs.length ≤ sizeLine ∧ ∀ p, H1 p = none → Q (.ref p) (upd H1 p (.lst xs))
theorem pe_tup {x1} (h : PA X es t) : PE X (.Tuple es x1 pos) (tTup t) := by
  intro pins s σ H Q I hq
  refine wpAny_Tuple_spliced (thn (h pos pins s σ H _ I hq) fun us s1 ⟨xs, H1, I1, r, z, q⟩ => ⟨by rw [← r.length]; exact z, ?_⟩)
  have hf : H1 s1.heap.objs.size = none := I1.hok.fresh (Nat.le_refl _)
  refine ⟨.ref s1.heap.objs.size, upd H1 s1.heap.objs.size (.tup xs), I1.laid (t' := s1.toks) (fun b u e => Heap.get?_push_of_some _ e) (Nat.le_refl _) ?_, rfl, q _ hf⟩
  exact ⟨z, us, r, ⟨_, Heap.get?_push_size _ rfl, rfl, _, rfl⟩⟩
theorem pe_lst (h : PA X es t) : PE X (.List es pos) (tLst t) := by
  intro pins s σ H Q I hq
  refine wpAny_List_spliced (thn (h pos pins s σ H _ I hq) fun us s1 ⟨xs, H1, I1, r, z, q⟩ => ⟨by rw [← r.length]; exact z, ?_⟩)
  have hf : H1 s1.heap.objs.size = none := I1.hok.fresh (Nat.le_refl _)
  refine ⟨.ref s1.heap.objs.size, upd H1 s1.heap.objs.size (.lst xs), I1.laid (t' := s1.toks) (fun b u e => Heap.get?_push_of_some _ e) (Nat.le_refl _) ?_, rfl, q _ hf⟩
  exact ⟨z, us, 0, r, Heap.get?_push_size _ rfl⟩
end

/-! ### what a def promises -/
/-- a def's promise: the bound arguments in the parameters' order, the heap, the wanted end, the wanted exception -/
abbrev Sp := List V → Hp → VK → XK → Prop
/-- how an exception lies behind a call (file 08 gives it): the callers' frames, abstract heap and state ahead of the call, the wish, the exception, the state -/
abbrev CXT := List Env → Hp → Shared → XK → Value → Shared → Prop

/-- the state at a call -/
structure Env0 (P : Program) (w : World) (K : PySem.W.Frag) (mg : Str → Option Value) (base : Heap) (A : Around) (outer : List Env) (s : Shared) (H : Hp) : Prop where
  frames : A.frames = some outer
  mod : Mod K mg base
  bs : ∀ b o, base.get? b = some o → s.heap.get? b = some o ∧ H b = none
  bsz : base.objs.size ≤ s.heap.objs.size
  funs : s.heap.FunFrames base outer
  frf : ∀ b ∈ frs outer, H b = none
  hok : HOk P w H s.heap
  bare : AllBare s.gens
/-- a call's end -/
def CE (outer : List Env) (P : Program) (w : World) (H : Hp) (s : Shared) (Q : VK) (u : Value) (s' : Shared) : Prop :=
  ∃ v H', s'.os = s.os ∧ AllBare s'.gens ∧ Un (frs outer) [] H H' s.heap s'.heap ∧ HOk P w H' s'.heap ∧ RelV v u ∧ Q v H'
def CR (CX : CXT) (outer : List Env) (P : Program) (w : World) (H : Hp) (s : Shared) (Q : VK) (E : XK) (r : Result) (s' : Shared) : Prop :=
  match r with
  | .ok (.ret u) => CE outer P w H s Q u s'
  | .ok _ => False
  | .error e => CX outer H s E e s'
structure FnOk (P : Program) (w : World) (K : PySem.W.Frag) (mg : Str → Option Value) (base : Heap) (CX : CXT) (k : Nat) (f : Addr) (fd : FuncData) (ps : List Str) (sp : Sp) : Prop where
  len : ∀ vs H Q E, sp vs H Q E → vs.length = ps.length
  run : ∀ (A : Around) (outer : List Env) (s : Shared) (H : Hp) (args : Args) (us : List Value) (vs : List V) (Q : VK) (E : XK), Room k A → Env0 P w K mg base A outer s H → BindsTo s fd args (ps.zip us) → Vals vs us → sp vs H Q E →
    codeAny (model P w) A (.call (.ref f) args) (CR CX outer P w H s Q E) s


section
variable {X : Cx} {pins : List (Addr × Obj)} {σ : St} {H : Hp} {s s' : Shared}
/-- from a body: what a callee wants -/
theorem Inv.env0 (I : Inv X pins σ H s) : Env0 X.prog X.w X.K X.mg X.base X.A X.stack s H :=
  ⟨I.ok.frames, I.ok.mod, I.bs, Nat.le_trans I.ok.bsz I.sz, I.stack, I.stkFree, I.hok, I.bare⟩
/-- behind a call -/
theorem Inv.after {Q : VK} {u : Value} (I : Inv X pins σ H s) (h : CE X.stack X.prog X.w H s Q u s') : EP X pins σ Q u s' := by
  obtain ⟨v, H', os, bare, un, hok, r, q⟩ := h
  obtain ⟨hh, g, d, t, os'⟩ := s'
  obtain rfl : os' = s.os := os
  exact ⟨v, H', I.call (h' := hh) (g' := g) (d' := d) (t' := t) (ch := []) un hok bare (fun b z => absurd z (by simp)), r, q⟩
end

/-! ### calls -/
/-- f(..): the written arguments, then the defaults dvs; E: what is wanted of an exception -/
def tCall (sp : Sp) (dvs : List V) (E : XK) (t : TA) : TE := fun σ H Q => t σ H fun vs H1 => sp (vs ++ dvs) H1 Q E

/-- how the parameters are bound: us the positional arguments, kw the keywords' values by name, ds the defaults that fill up -/
def Binds (K : PySem.W.Frag) (fd : FuncData) (ps : List Str) (ds : List Value) : Prop :=
  ∀ (s : Shared) (us : List Value), K.In s.heap → (us ++ ds).length = ps.length → BindsTo s fd ⟨us, []⟩ (ps.zip (us ++ ds))
/-- every parameter is given -/
theorem Binds.all {K : PySem.W.Frag} {fd : FuncData} {ps : List Str} (h : ∀ us : List Value, us.length = ps.length → bindArgs fd ⟨us, []⟩ = pure (ps.zip us)) : Binds K fd ps [] := fun s us _ hl => by
  rw [List.append_nil] at hl ⊢
  exact .of_eq (h us hl)

/-- an exception of a callee reaches what this body wants of exceptions -/
def Passes (CX : CXT) (X : Cx) (E : XK) : Prop := ∀ (pins : List (Addr × Obj)) (σ : St) (H : Hp) (s : Shared) (e : Value) (s' : Shared), Inv X pins σ H s → CX X.stack H s E e s' → X.xe e s'

section
variable {X : Cx} {CX : CXT} {k : Nat} {f C : Addr} {fd : FuncData} {ps : List Str} {sp : Sp} {dvs : List V} {ds : List Value} {E : XK} {x m : Str} {p pos apos : Pos} {e o : Expr} {es : List Expr} {ta : TE} {t : TA}

/-- the callee runs -/
theorem run_fn {pins : List (Addr × Obj)} {σ : St} {H : Hp} {s : Shared} {Q : VK} {us : List Value} {vs : List V} (F : FnOk X.prog X.w X.K X.mg X.base CX k f fd ps sp) (hr : Room k X.A) (hb : Binds X.K fd ps ds) (hd : Vals dvs ds) (hx : Passes CX X E)
    (I : Inv X pins σ H s) (r : Vals vs us) (h : sp (vs ++ dvs) H Q E) : wpAny (model X.prog X.w) X.A (call (.ref f) us) (EP X pins σ Q) X.xe s := by
  have r2 : Vals (vs ++ dvs) (us ++ ds) := r.append hd
  have hl : (us ++ ds).length = ps.length := by rw [← r2.length]; exact F.len _ _ _ _ h
  refine wpAny_call (codeAny_mono (F.run X.A X.stack s H ⟨us, []⟩ (us ++ ds) (vs ++ dvs) Q E hr I.env0 (hb s us I.kIn hl) r2 h) fun r s' hq => ?_)
  cases r with
  | error e => exact hx pins σ H s e s' I hq
  | ok fl =>
    cases fl with
    | ret u => exact I.after hq
    | next => exact False.elim hq
    | brk => exact False.elim hq
    | cont => exact False.elim hq

theorem pe_call (F : FnOk X.prog X.w X.K X.mg X.base CX k f fd ps sp) (hr : Room k X.A) (hg : Gl X x) (hm : X.mg x = some (.ref f)) (hk : PySem.W.keepIn X.K (.ref f) = true) (hb : Binds X.K fd ps ds) (hd : Vals dvs ds) (hx : Passes CX X E)
    (ha : PA X (e :: es) t) (hdb : (x == ("__debug__" : Str)) = false := by decide) (he : starEach (e :: es) X.env = (false, eval e X.env) :: starEach es X.env := by rfl) (hpl : (backTo pos (starEach es X.env)).any (·.1) = false := by rfl) :
    PE X (.Call (.Name x p) (e :: es) [] pos) (tCall sp dvs E t) := by
  intro pins s σ H Q I h
  refine wpAny_Call_Name_kw (ld_glob I hg hm ?_ hdb)
  refine PySem.W.callWith_K (h₀ := X.base) I.ok.mod.kin hk (thn (ha pos pins s σ H _ I h) fun us s1 ⟨vs, H1, I1, r, q⟩ => ⟨I1.kIn, ?_⟩) he hpl
  exact run_fn F hr hb hd hx I1 r q



end

/-! ### keywords -/
section
variable {X : Cx} {CX : CXT} {k : Nat} {f C : Addr} {fd : FuncData} {ps ks : List Str} {sp : Sp} {E : XK} {x m : Str} {p pos apos kpos : Pos} {e o : Expr} {es : List Expr} {kws : List Keyword} {te ta : TE} {t tk : TA} {nm : Option Str}

variable {g : List Value → List Value → List Value} {gV : List V → List V → List V}
end

/-! ### a def's body keeps its promise -/
/-- names: the parameters first -/
structure FnScope (N P : List Str) (sc : Scope) : Prop where
  kind : sc.kind = .function
  co : sc.isCoroutine = false
  gen : sc.isGenerator = false
  nd : N.Nodup
  pre : N.take P.length = P
  par : ∀ x ∈ P, sc.names.lookup x = some .local ∨ sc.names.lookup x = some .cell
  nofree : ∀ y ∈ sc.names, y.2 ≠ .free

theorem bindL_out {kindOf : Str → Option NameKind} {x : Str} : ∀ {binds : List (Str × Value)} {m : Str → Option Value}, (∀ v, (x, v) ∉ binds) → bindL kindOf binds m x = m x
  | [], _, _ => rfl
  | (n, v) :: r, m, h => by
    unfold bindL
    rw [bindL_out fun w hw => h w (List.mem_cons_of_mem _ hw)]
    split
    · have : x ≠ n := by rintro rfl; exact h v List.mem_cons_self
      simp [this]
    · rfl
theorem bindC_out {kindOf : Str → Option NameKind} {x : Str} : ∀ {binds : List (Str × Value)} {m : Str → Option Value}, (∀ v, (x, v) ∉ binds) → bindC kindOf binds m x = m x
  | [], _, _ => rfl
  | (n, v) :: r, m, h => by
    unfold bindC
    rw [bindC_out fun w hw => h w (List.mem_cons_of_mem _ hw)]
    split
    · rfl
    · have : x ≠ n := by rintro rfl; exact h v List.mem_cons_self
      simp [this]
theorem bindL_get {kindOf : Str → Option NameKind} {x : Str} {v : Value} : ∀ {P : List Str} {vs : List Value} {i : Nat} {m : Str → Option Value}, P.Nodup → P[i]? = some x → vs[i]? = some v → kindOf x = some .local →
    bindL kindOf (P.zip vs) m x = some v
  | [], _, _, _, _, h, _, _ => by simp at h
  | _ :: _, [], _, _, _, _, h, _ => by simp at h
  | p :: P, w :: vs, 0, m, nd, h1, h2, hk => by
    simp at h1 h2; subst h1; subst h2
    show bindL kindOf ((p, w) :: P.zip vs) m p = _
    unfold bindL
    rw [bindL_out fun v hv => (List.nodup_cons.mp nd).1 (List.of_mem_zip hv).1, if_pos hk]
    simp
  | p :: P, w :: vs, i + 1, m, nd, h1, h2, hk => by
    show bindL kindOf ((p, w) :: P.zip vs) m x = _
    unfold bindL
    exact bindL_get (i := i) (List.nodup_cons.mp nd).2 (by simpa using h1) (by simpa using h2) hk
theorem bindC_get {kindOf : Str → Option NameKind} {x : Str} {v : Value} : ∀ {P : List Str} {vs : List Value} {i : Nat} {m : Str → Option Value}, P.Nodup → P[i]? = some x → vs[i]? = some v → kindOf x ≠ some .local →
    bindC kindOf (P.zip vs) m x = some v
  | [], _, _, _, _, h, _, _ => by simp at h
  | _ :: _, [], _, _, _, _, h, _ => by simp at h
  | p :: P, w :: vs, 0, m, nd, h1, h2, hk => by
    simp at h1 h2; subst h1; subst h2
    show bindC kindOf ((p, w) :: P.zip vs) m p = _
    unfold bindC
    rw [bindC_out fun v hv => (List.nodup_cons.mp nd).1 (List.of_mem_zip hv).1, if_neg hk]
    simp
  | p :: P, w :: vs, i + 1, m, nd, h1, h2, hk => by
    show bindC kindOf ((p, w) :: P.zip vs) m x = _
    unfold bindC
    exact bindC_get (i := i) (List.nodup_cons.mp nd).2 (by simpa using h1) (by simpa using h2) hk

/-- the names' values at the entry -/
def start (N : List Str) (vs : List V) : St := vs.map some ++ List.replicate (N.length - vs.length) none

/-- the context of a def's body, at its entry; an exception leaves the frame, then lies as CX says -/
def cxOf (CX : CXT) (P : Program) (w : World) (K : PySem.W.Frag) (mg : Str → Option Value) (base : Heap) (N : List Str) (qual : Str) (scope : Scope) (f : Addr) (cd : Value) (A : Around) (outer : List Env) (s : Shared) (H : Hp) (E : XK) : Cx where
  prog := P
  w := w
  K := K
  mg := mg
  base := base
  A := A.deeper (envOfC qual scope s.heap.objs.size f cd)
  N := N
  s₀ := s
  H₀ := H
  env := envOfC qual scope s.heap.objs.size f cd
  outer := outer
  stack := envOfC qual scope s.heap.objs.size f cd :: outer
  ex := []
  calm := true
  fn := fun _ => true
  pn := []
  xe := fun e s' => wpAny (model P w) (A.deeper (envOfC qual scope s.heap.objs.size f cd)) (leaving (envOfC qual scope s.heap.objs.size f cd) e) (fun _ s'' => CX outer H s E e s'') (fun e' s'' => CX outer H s E e' s'') s'

theorem cell_has {sc : Scope} {n : Nat} {x : Str} (h : sc.names.lookup x = some .cell) : ∃ c, (cellsFrom n sc.names []).lookup x = some c := by
  have q := PySem.W.cellsFrom_some sc.names n [] (.inl h)
  exact Option.isSome_iff_exists.mp q

theorem inv_start {CX : CXT} {P : Program} {w : World} {K : PySem.W.Frag} {mg : Str → Option Value} {base : Heap} {N ps : List Str} {qual : Str} {scope : Scope} {f : Addr} {cd : Value} {A : Around} {outer : List Env} {s s1 : Shared} {H : Hp} {E : XK} {us : List Value} {vs : List V}
    (S : FnScope N ps scope) (hd : A.handled = none) (e0 : Env0 P w K mg base A outer s H) (hl : vs.length = ps.length) (r : Vals vs us)
    (x : InCallC s s.heap.objs.size (bindL (envOfC qual scope s.heap.objs.size f cd).kindOf (ps.zip us) fun _ => none) (cellsFrom (s.heap.objs.size + 1) scope.names []) (bindC (envOfC qual scope s.heap.objs.size f cd).kindOf (ps.zip us) fun _ => none) s1) :
    Inv (cxOf CX P w K mg base N qual scope f cd A outer s H E) [] (start N vs) H s1 := by
  have hpl : ps.length ≤ N.length := by have := congrArg List.length S.pre; rw [List.length_take] at this; omega
  obtain ⟨h1, tk, rfl, hk⟩ := x.done
  have noA : ∀ b : Addr, b ∉ (cxOf CX P w K mg base N qual scope f cd A outer s H E).ex := fun b z => absurd (show b ∈ ([] : List Addr) from z) (by simp)
  refine ⟨⟨e0.mod, S.kind, rfl, rfl, Nat.le_refl _, fun y z c h1 h2 => ?_, fun y hy => ?_, fun y c _ h => ?_, fun _ => hd, Around.frames_deeper e0.frames, .inr ⟨rfl, rfl⟩, fun b z => absurd z (noA b), e0.bs, e0.bsz, fun b _ _ => noA b, fun b z => absurd z (noA b), e0.funs, e0.frf⟩,
    rfl, e0.bare, Un.kept hk, ⟨_, x.toInCall.ns, fun i y v h1 h2 h3 => ?_⟩, fun y c h => ⟨_, x.cell y c h⟩, e0.hok.fresh (Nat.le_refl _), fun y c h => ?_, fun p hp => absurd (show p ∈ ([] : List (Addr × Obj)) from hp) (by simp), e0.hok.kept hk, ?_⟩
  · exact name_of_addr x.apart (PySem.mem_of_lookup h1) (PySem.mem_of_lookup h2)
  · have hy : scope.names.lookup y = some .cell ∨ scope.names.lookup y = some .free := hy
    rcases hy with hy | hy
    · exact cell_has hy
    · exact absurd rfl (S.nofree _ (PySem.mem_of_lookup hy))
  · exact Nat.le_of_lt (x.above y c (PySem.mem_of_lookup h))
  · have hi : i < vs.length := by
      unfold start at h2
      by_cases hi : i < vs.length
      · exact hi
      · rw [List.getElem?_append_right (by simpa using hi)] at h2
        rw [List.getElem?_replicate] at h2
        split at h2 <;> cases h2
    have ha : vs[i]? = some v := by
      unfold start at h2
      rw [List.getElem?_append_left (by simpa using hi), List.getElem?_map] at h2
      cases e : vs[i]? with
      | none => rw [e] at h2; cases h2
      | some a => rw [e] at h2; cases h2; rfl
    obtain ⟨u, hu, rv⟩ := r.get ha
    have hp : ps[i]? = some y := by
      rw [← S.pre, List.getElem?_take_of_lt (by omega)]; exact h1
    have ndP : ps.Nodup := by rw [← S.pre]; exact S.nd.sublist (List.take_sublist _ _)
    refine ⟨u, rv, ?_⟩
    rcases S.par y (List.mem_of_getElem? hp) with k | k
    · exact .inl ⟨k, bindL_get ndP hp hu k⟩
    · obtain ⟨c, e⟩ := cell_has (n := s.heap.objs.size + 1) k
      refine .inr ⟨.inl k, c, e, ?_⟩
      have q := x.cell y c e
      rw [bindC_get ndP hp hu (by show scope.names.lookup y ≠ _; rw [k]; decide)] at q
      exact q
  · exact e0.hok.fresh (Nat.le_of_lt (x.above y c (PySem.mem_of_lookup h)))
  · unfold start
    show _ = N.length
    rw [List.length_append, List.length_map, List.length_replicate]
    omega

/-- THE RULE: a def (or a method) of the text, by its body. The body's reading t is chosen for each entry; it is run at the parameters' values -/
theorem fn_of {CX : CXT} {P : Program} {w : World} {K : PySem.W.Frag} {mg : Str → Option Value} {base : Heap} {k : Nat} {f : Addr} {name qual : Str} {params : Arguments} {body : List Stmt} {scope : Scope} {dV kV doc pm cdv ct oc : Value} {an od : Option Addr}
    {osl : Array (Option Value)} {N ps : List Str} {sp : Sp} (lk : K.lookup f = some ⟨oc, od, .func (PySem.W.fnOf name qual params body scope dV kV doc pm an cdv ct), osl⟩) (hcd : PySem.W.codeIn K cdv qual = true) (S : FnScope N ps scope)
    (len : ∀ vs H Q E, sp vs H Q E → vs.length = ps.length)
    (hbody : ∀ (A : Around) (outer : List Env) (s : Shared) (H : Hp) (vs : List V) (Q : VK) (E : XK), Room k (A.deeper (envOfC qual scope s.heap.objs.size f cdv)) → sp vs H Q E →
      ∃ t, PSs (cxOf CX P w K mg base N qual scope f cdv A outer s H E) body t ∧ t { nx := fun _ H' => Q .non H', rt := Q } (start N vs) H) :
    FnOk P w K mg base CX (k + 1) f (PySem.W.fnOf name qual params body scope dV kV doc pm an cdv ct) ps sp := by
  refine ⟨len, fun A outer s H args us vs Q E hr e0 hb r hsp => ?_⟩
  have hl := len _ _ _ _ hsp
  have KX : K.In s.heap := e0.mod.kin.keeps fun b o e => (e0.bs b o e).1
  have lim : s.heap.NoLimit := e0.mod.nolimit.keeps fun b o e => (e0.bs b o e).1
  have hkind : ∀ y ∈ ps.zip us, scope.names.lookup y.1 = some .local ∨ (scope.names.lookup y.1 = some .cell ∧ ((cellsFrom (s.heap.objs.size + 1) scope.names []).lookup y.1).isSome = true) := fun ⟨n, v⟩ hy => by
    rcases S.par n (List.of_mem_zip hy).1 with q | q
    · exact .inl q
    · exact .inr ⟨q, PySem.W.cellsFrom_some _ _ _ (.inl q)⟩
  refine codeAny_call_function hr.depth (KX _ _ lk) rfl S.co S.gen rfl (PySem.W.codeRec_of KX hcd) (hb _ _ _ _ ?_)
  refine wpAny_newFunctionEnv_cells S.kind hkind fun env he s1 x => ?_
  subst he
  refine ⟨lim.keeps x.toInCall.keep, codeAny_func ?_⟩
  obtain ⟨t, ht, hq⟩ := hbody A outer s H vs Q E (hr.deeper _) hsp
  have I : Inv (cxOf CX P w K mg base N qual scope f cdv A outer s H E) [] (start N vs) H s1 := inv_start S hr.hd e0 hl r x
  refine wpAny_mono (ht [] s1 (start N vs) H _ I hq) (fun fl s' hs => ?_) fun e s' hs => hs
  have fin : ∀ {σ' : St} {H' : Hp} {v : V} {u : Value}, Inv (cxOf CX P w K mg base N qual scope f cdv A outer s H E) [] σ' H' s' → RelV v u → Q v H' → CE outer P w H s Q u s' :=
    fun {σ' H' v u} J rv q => ⟨v, H', J.os, J.bare, J.base, J.hok, rv, q⟩
  cases fl with
  | ret u =>
    obtain ⟨v, σ', H', J, rv, q⟩ := hs
    exact fin J rv q
  | next =>
    obtain ⟨σ', H', J, q⟩ := hs
    exact fin (v := V.non) (u := Value.none) J rfl q
  | brk =>
    obtain ⟨_, _, _, q⟩ := hs
    exact False.elim q
  | cont =>
    obtain ⟨_, _, _, q⟩ := hs
    exact False.elim q
end L2

namespace L2
open PySem PySem.Spec PyProof.Rows
section
variable {X : Cx} {x : Str} {p pos : Pos} {e : Expr} {es : List Expr} {t : TA} {id T : String} {r : List V → Hp → VK → Prop}

def tCB (r : List V → Hp → VK → Prop) (t : TA) : TE := fun σ H Q => t σ H fun vs H1 => r vs H1 Q
/-- f(e, ..), f a built-in function -/
theorem pe_callB (hc : CallR X (.builtin id) r) (hg : Gl X x) (hm : X.mg x = none) (hv : bootBuiltins x = some (.builtin id)) (ha : PA X (e :: es) t) (hn : x ≠ "__name__" := by decide) (hdb : (x == ("__debug__" : Str)) = false := by decide)
    (he : starEach (e :: es) X.env = (false, eval e X.env) :: starEach es X.env := by rfl) (hpl : (backTo pos (starEach es X.env)).any (·.1) = false := by rfl) : PE X (.Call (.Name x p) (e :: es) [] pos) (tCB r t) := by
  intro pins s σ H Q I h
  refine wpAny_Call_Name_kw (ld_blt I hg hm hv ?_ hn hdb)
  exact PyProof.Rows.callWith_builtin1 (thn (ha pos pins s σ H _ I h) fun us s1 ⟨vs, H1, I1, r1, q1⟩ => hc pins s1 σ H1 vs us Q I1 r1 q1) he hpl
/-- T(e, ..), T a built-in type -/
theorem pe_callTy (hc : CallR X (.type T) r) (hg : Gl X x) (hm : X.mg x = none) (hv : bootBuiltins x = some (.type T)) (ha : PA X (e :: es) t) (hn : x ≠ "__name__" := by decide) (hdb : (x == ("__debug__" : Str)) = false := by decide)
    (he : starEach (e :: es) X.env = (false, eval e X.env) :: starEach es X.env := by rfl) (hpl : (backTo pos (starEach es X.env)).any (·.1) = false := by rfl) : PE X (.Call (.Name x p) (e :: es) [] pos) (tCB r t) := by
  intro pins s σ H Q I h
  refine wpAny_Call_Name_kw (ld_blt I hg hm hv ?_ hn hdb)
  exact PyProof.Rows.callWith_type1 (thn (ha pos pins s σ H _ I h) fun us s1 ⟨vs, H1, I1, r1, q1⟩ => hc pins s1 σ H1 vs us Q I1 r1 q1) he hpl
end
end L2

namespace HT
open PySem PyProof.Rows



section
open PySem.SeqAt
open PySem.AutoSeq1 (wpAny_loadPart')
open PySem.MeetsSeq PySem.MeetsSeq2 PySem.MeetsSeq3

end

section
variable {prog : Program} {w : World} {A : Around} {E : Value → Shared → Prop} {s : Shared}


/-- t + u, t not empty -/
theorem cat_tup {t b : Addr} {vs ws : List Value} {Q : Value → Shared → Prop} (ht : IsTup s.heap t vs.toArray) (hb : IsTup s.heap b ws.toArray) (hv : vs ≠ [])
    (h1 : ws = [] → Q (.ref t) s) (h2 : ws ≠ [] → Q (.ref s.heap.objs.size) { s with heap := s.heap.push { cls := .type "tuple", data := .seq (vs ++ ws).toArray } })
    (hsz : vs.length + ws.length ≤ sizeLine) : wpAny (model prog w) A (binaryOp .Add (.ref t) (.ref b)) Q E s := by
  obtain ⟨⟨cls, dd, data, sl⟩, ho, hc, n, hd⟩ := id ht
  obtain ⟨⟨cls2, dd2, data2, sl2⟩, ho2, hc2, n2, hd2⟩ := id hb
  simp only at hc hd hc2 hd2
  subst hc hd hc2 hd2
  have e : vs.toArray ++ ws.toArray = (vs ++ ws).toArray := by simp
  by_cases hw : ws = []
  · exact concat_meets ⟨_, ho, rfl⟩ ⟨_, ho2, rfl⟩ noFill_tuple_add seq_tuple_add PySem.F.slot_tuple_add PySem.F.entry_tuple_add (PySem.F.args_tuple_add_2 _ _)
      (tuple_addW1 t b vs.toArray ws.toArray n n2 dd dd2 sl sl2 (by simpa using hv) (by simp [hw])) ⟨ho, ho2, h1 hw⟩
  · refine concat_meets ⟨_, ho, rfl⟩ ⟨_, ho2, rfl⟩ noFill_tuple_add seq_tuple_add PySem.F.slot_tuple_add PySem.F.entry_tuple_add (PySem.F.args_tuple_add_2 _ _)
      (tuple_addW2 t b vs.toArray ws.toArray n n2 dd dd2 sl sl2 (by simpa using hv) (by simpa using hw) (by rw [List.size_toArray, List.size_toArray]; exact hsz)) ⟨ho, ho2, ?_⟩
    rw [e]
    exact h2 hw

/-! ### t[a:b], not the whole -/
/-- a slice's bound as a place among n (d where it is left out) -/
def sIx (n d : Nat) : Option Int → Nat
  | none => d
  | some v => if v < 0 then (v + (n : Int)).toNat else min v.toNat n
theorem sIx_none (n d : Nat) : sIx n d none = d := rfl
theorem sIx_nat (n d k : Nat) : sIx n d (some (k : Int)) = min k n := by
  show (if (k : Int) < 0 then ((k : Int) + (n : Int)).toNat else min (k : Int).toNat n) = min k n
  rw [if_neg (by omega), Int.toNat_natCast]
theorem sIx_le (n d : Nat) (hd : d ≤ n) (o : Option Int) : sIx n d o ≤ n := by
  cases o with
  | none => exact hd
  | some v =>
    show (if v < 0 then (v + (n : Int)).toNat else min v.toNat n) ≤ n
    by_cases hv : v < 0
    · rw [if_pos hv]; omega
    · rw [if_neg hv]; exact Nat.min_le_right _ _
theorem clip_eq (v : Int) (n d : Nat) : (if v < 0 then max (v + (n : Int)) 0 else min v (n : Int)) = ((sIx n d (some v) : Nat) : Int) := by
  show (if v < 0 then max (v + (n : Int)) 0 else min v (n : Int)) = (((if v < 0 then (v + (n : Int)).toNat else min v.toNat n) : Nat) : Int)
  by_cases hv : v < 0
  · simp only [if_pos hv]; omega
  · simp only [if_neg hv]; omega
theorem adjust_gen (lo hi : Option Int) (n : Nat) : Builtin.Slice.sliceAdjust lo hi 1 (n : Int) = (((sIx n 0 lo : Nat) : Int), ((sIx n n hi : Nat) : Int)) := by
  have h1 : ¬ ((1 : Int) < 0) := by omega
  unfold Builtin.Slice.sliceAdjust
  simp only [h1, if_false]
  refine Prod.ext ?_ ?_
  · cases lo with
    | none => rfl
    | some v => exact clip_eq v n 0
  · cases hi with
    | none => rfl
    | some v => exact clip_eq v n n
theorem places_gen (i j : Nat) : Builtin.Slice.slicePlaces (i : Int) (j : Int) 1 = j - i := by
  unfold Builtin.Slice.slicePlaces
  have h1 : (1 : Int) > 0 := by omega
  simp only [h1, if_true, Int.ediv_one]
  split <;> omega
theorem slicePart_ {v : Value} {o : Option Int} {Q : Option Int → Shared → Prop} (p : IsPart v o) (h : Q o s) : wpAny (model prog w) A (Builtin.Slice.slicePartIndex v) Q E s := by
  cases p with
  | none => exact slicePart_none h
  | int i t => exact slicePart_int h
theorem sliceApplied_gen {sl : Addr} {vl vu : Value} {lo hi : Option Int} {n : Nat} {Q : Int × Int × Nat → Shared → Prop} (hs : s.heap.IsSliceOf sl vl vu .none) (pl : IsPart vl lo) (pu : IsPart vu hi)
    (h : Q (((sIx n 0 lo : Nat) : Int), 1, sIx n n hi - sIx n 0 lo) s) : wpAny (model prog w) A (Builtin.Slice.sliceApplied (.ref sl) (pure (n : Int))) Q E s := by
  obtain ⟨os, hos, hcs, hds⟩ := id hs
  unfold Builtin.Slice.sliceApplied Builtin.Slice.sliceFields
  refine wpAny_bind (wpAny_bind (wpAny_field hos hds (x := vl) rfl (wpAny_bind (wpAny_field hos hds (x := vu) rfl (wpAny_bind (wpAny_field hos hds (x := .none) rfl (wpAny_pure ?_)))))))
  refine wpAny_bind (slicePart_none ?_)
  show wpAny _ _ (if ((1 : Int) == 0) = true then _ else _) _ _ s
  rw [if_neg (by decide)]
  refine wpAny_bind (slicePart_ pl (wpAny_bind (slicePart_ pu (wpAny_bind (wpAny_pure ?_)))))
  show wpAny _ _ (match Builtin.Slice.sliceAdjust lo hi 1 (n : Int) with | (lo, hi) => pure (lo, (1 : Int), Builtin.Slice.slicePlaces lo hi 1)) _ _ s
  rw [adjust_gen lo hi n]
  show wpAny _ _ (pure (((sIx n 0 lo : Nat) : Int), (1 : Int), Builtin.Slice.slicePlaces ((sIx n 0 lo : Nat) : Int) ((sIx n n hi : Nat) : Int) 1)) _ _ s
  rw [places_gen]
  exact wpAny_pure h
theorem pick_gen (xs : Array Value) (i k : Nat) : ((List.range k).filterMap fun (m : Nat) => xs[((i : Int) + (m : Int) * 1).toNat]?).toArray = ((xs.toList.drop i).take k).toArray := by
  have e : (fun (m : Nat) => xs[((i : Int) + (m : Int) * 1).toNat]?) = fun m => xs[i + m]? := by
    funext m
    have : ((i : Int) + (m : Int) * 1).toNat = i + m := by omega
    rw [this]
  rw [e]
  have := pick_run xs i k
  rw [List.filterMap_map] at this
  have e2 : ((fun x => xs[x]?) ∘ fun x => i + x) = fun m => xs[i + m]? := rfl
  rw [e2] at this
  rw [this]

theorem getItem_tuple_cut {t sl : Addr} {items : Array Value} {vl vu : Value} {lo hi : Option Int} {Q : Value → Shared → Prop} (ht : IsTup s.heap t items) (hs : s.heap.IsSliceOf sl vl vu .none) (pl : IsPart vl lo) (pu : IsPart vu hi)
    (hw : ¬ (sIx items.size 0 lo = 0 ∧ sIx items.size items.size hi = items.size))
    (h : Q (.ref s.heap.objs.size) { s with heap := s.heap.push { cls := .type "tuple", data := .seq ((items.toList.drop (sIx items.size 0 lo)).take (sIx items.size items.size hi - sIx items.size 0 lo)).toArray } })
    (hsz : items.size ≤ sizeLine) : wpAny (model prog w) A (getItem (.ref t) (.ref sl)) Q E s := by
  have htake : sizeOk (.seq ((items.toList.drop (sIx items.size 0 lo)).take (sIx items.size items.size hi - sIx items.size 0 lo)).toArray) := by
    show ((items.toList.drop (sIx items.size 0 lo)).take (sIx items.size items.size hi - sIx items.size 0 lo)).toArray.size ≤ sizeLine
    rw [List.size_toArray, List.length_take, List.length_drop, Array.length_toList]
    omega
  have hj : sIx items.size items.size hi ≤ items.size := sIx_le _ _ (Nat.le_refl _) hi
  obtain ⟨os, hos, hcs, hds⟩ := id hs
  have hTs : s.TypeIs (.ref sl) "slice" := ⟨os, hos, hcs⟩
  unfold getItem
  try with_reducible refine wpAny_holding ?_
  first | refine wpAny_bind (wpAny_pure ?_) | skip
  refine wpAny_bind (wpAny_sequenceKey ht.typeIs (by decide) ?_)
  refine wpAny_bind (wpAny_callSpecial?_slot (name := Str.ofString "__getitem__") ht.typeIs PyProof.Rows.slot_tuple_getitem
    (wpAny_call_entry PyProof.Rows.slot_tuple_getitem ht.typeIs entry_tuple_getitem ?_ (args_tuple_getitem _ _)))
  show wpAny _ _ (Builtin.Tuple.tupleItemsOf (.ref t) >>= _) _ _ s
  refine wpAny_bind (tupleItemsOf_ ht ?_)
  refine wpAny_bind (wpAny_typeOf hTs ?_)
  rw [if_pos (by decide)]
  refine wpAny_bind (sliceApplied_gen hs pl pu ?_)
  have hno : ¬ ((((sIx items.size 0 lo : Nat) : Int) == 0 && (1 : Int) == 1 && (sIx items.size items.size hi - sIx items.size 0 lo) == items.size) = true) := by
    intro q
    rw [Bool.and_eq_true, Bool.and_eq_true] at q
    have q1 : ((sIx items.size 0 lo : Nat) : Int) = 0 := eq_of_beq q.1.1
    have q2 : sIx items.size items.size hi - sIx items.size 0 lo = items.size := eq_of_beq q.2
    exact hw ⟨by omega, by omega⟩
  show wpAny _ _ (if (((sIx items.size 0 lo : Nat) : Int) == 0 && (1 : Int) == 1 && (sIx items.size items.size hi - sIx items.size 0 lo) == items.size) = true then _ else _) _ _ s
  rw [if_neg hno, pick_gen]
  first
    | exact wpAny_bind (m := Builtin.Tuple.tupleExact _) (wpAny_newObj_type (wpAny_pure ⟨_, rfl, wpAny_pure h⟩) htake)
    | exact wpAny_bind (m := Builtin.Tuple.tupleExact _) (wpAny_newObj_type (wpAny_bind (wpAny_pure (wpAny_pure ⟨_, rfl, wpAny_pure h⟩))) htake)
    | exact wpAny_bind (wpAny_bind (m := Builtin.Tuple.tupleExact _) (wpAny_newObj_type (wpAny_pure (wpAny_pure ⟨_, rfl, wpAny_pure h⟩)) htake))
    | exact wpAny_bind (wpAny_bind (m := Builtin.Tuple.tupleExact _) (wpAny_newObj_type (wpAny_pure ⟨_, rfl, wpAny_pure h⟩) htake))
end
end HT

namespace L2
open PySem PySem.Spec PyProof.Rows

/-! ### the parts of a slice -/
abbrev TO := St → Hp → (Option Int → Hp → Prop) → Prop
/-- a slice's part (left out, or an int) -/
def PO (X : Cx) (e : Option Expr) (t : TO) : Prop :=
  ∀ (pins : List (Addr × Obj)) (s : Shared) (σ : St) (H : Hp) (Q : Option Int → Hp → Prop), Inv X pins σ H s → t σ H Q →
    wpAny (model X.prog X.w) X.A (evalPart e X.env) (fun u s' => ∃ o H', Inv X pins σ H' s' ∧ IsPart u o ∧ Q o H') X.xe s
def tNoPart : TO := fun _ H Q => Q none H
def tPart (t : TE) : TO := fun σ H Q => t σ H fun x H1 => ∃ i, x = .int i ∧ Q (some i) H1

theorem intsAre_of {ns : List Int} : ∀ {us : List Value}, Vals (ns.map V.int) us → IntsAre us ns := by
  induction ns with
  | nil => intro us r; rw [List.map_nil] at r; cases r; exact .nil
  | cons n ns ih =>
    intro us r
    rw [List.map_cons] at r
    cases r with
    | cons r1 r2 =>
      obtain ⟨t, e⟩ := r1
      subst e
      exact .cons n t (ih r2)

section
variable {X : Cx} {e : Expr} {te : TE} {lo hi : Option Expr} {tl th : TO} {pos p2 : Pos}

theorem po_none : PO X none tNoPart := by
  intro pins s σ H Q I h
  rw [evalPart_none]
  exact wpAny_pure ⟨none, H, I, .none, h⟩
theorem po_some (h : PE X e te) : PO X (some e) (tPart te) := by
  intro pins s σ H Q I hw
  rw [evalPart_some]
  refine thn (h pins s σ H _ I hw) fun u s1 ⟨x, H1, I1, r1, q1⟩ => ?_
  obtain ⟨i, rfl, q⟩ := q1
  obtain ⟨t, rfl⟩ := r1
  exact ⟨some i, H1, I1, .int i t, q⟩

/-- what a slice of a value is, by values: the slice object stands at sl -/
def SlR (X : Cx) (r : V → Option Int → Option Int → Hp → VK → Prop) : Prop :=
  ∀ (pins : List (Addr × Obj)) (s : Shared) (σ : St) (H : Hp) (x : V) (v vl vu : Value) (lo hi : Option Int) (sl : Addr) (Q : VK), Inv X pins σ H s → RelV x v → s.heap.IsSliceOf sl vl vu .none → IsPart vl lo → IsPart vu hi → r x lo hi H Q →
    ∃ T id, typeLookup (.type T) "__getitem__" = pure (some (.builtin id)) ∧ s.TypeIs v T ∧ wpAny (model X.prog X.w) X.A (getItem v (.ref sl)) (EP X pins σ Q) X.xe s
def tSl (r : V → Option Int → Option Int → Hp → VK → Prop) (te : TE) (tl th : TO) : TE := fun σ H Q => te σ H fun x H1 => tl σ H1 fun l H2 => th σ H2 fun u H3 => r x l u H3 Q
/-- a[lo:hi], any a -/
theorem pe_slice {r : V → Option Int → Option Int → Hp → VK → Prop} (hr : SlR X r) (he : PE X e te) (hl : PO X lo tl) (hu : PO X hi th) : PE X (.Subscript e (.Slice lo hi none p2) pos) (tSl r te tl th) := by
  intro pins s σ H Q I h
  refine Subscript_ (thn (he pins s σ H _ I h) fun v s1 ⟨x, H1, I1, r1, q1⟩ => ?_)
  refine wpAny_Slice (thn (hl pins s1 σ H1 _ I1 q1) fun vl s2 ⟨l, H2, I2, pl, q2⟩ => thn (hu pins s2 σ H2 _ I2 q2) fun vu s3 ⟨u, H3, I3, pu, q3⟩ => ?_)
  rw [evalPart_none]
  refine wpAny_pure ?_
  have I4 : Inv X pins σ H3 { s3 with heap := s3.heap.push { cls := .type "slice", data := .fields #[vl, vu, .none] } } := I3.kept (t' := s3.toks) fun b ob q => Heap.get?_push_of_some _ q
  obtain ⟨T, id, hT, ht, hg⟩ := hr pins { s3 with heap := s3.heap.push { cls := .type "slice", data := .fields #[vl, vu, .none] } } σ H3 x v vl vu l u s3.heap.objs.size Q I4 r1 (Heap.IsSliceOf.new ..) pl pu q3
  show wpAny (model X.prog X.w) X.A (subscriptTail e (.Slice lo hi none p2) v (.ref s3.heap.objs.size)) (EP X pins σ Q) X.xe { s3 with heap := s3.heap.push { cls := .type "slice", data := .fields #[vl, vu, .none] } }
  exact tail_any (ops := [.ref s3.heap.objs.size, v]) ht hT hg (by with_unfolding_all rfl)

/-- the items of xs[lo:hi] -/
def cutV (xs : List V) (lo hi : Option Int) : List V := (xs.drop (HT.sIx xs.length 0 lo)).take (HT.sIx xs.length xs.length hi - HT.sIx xs.length 0 lo)
theorem cutV_length (xs : List V) (lo hi : Option Int) : (cutV xs lo hi).length ≤ xs.length := by
  unfold cutV
  rw [List.length_take, List.length_drop]
  omega
/-- t[lo:hi], not the whole of it (the whole would be t itself) -/
def rSlT (K : PySem.W.Frag) : V → Option Int → Option Int → Hp → VK → Prop := fun x lo hi H Q => ∃ a xs, x = .ref a ∧ SqT K H a xs ∧
  ¬ (HT.sIx xs.length 0 lo = 0 ∧ HT.sIx xs.length xs.length hi = xs.length) ∧ ∀ p, H p = none → Q (.ref p) (upd H p (.tup (cutV xs lo hi)))
theorem sl_tup : SlR X (rSlT X.K) := by
  intro pins s σ H x v vl vu lo hi sl Q I rx hs pl pu h
  obtain ⟨a, xs, rfl, hx, hw, q⟩ := h
  cases rx
  obtain ⟨its, r, ht, hz⟩ := I.tuple hx
  have hlen : its.toArray.size = xs.length := by rw [List.size_toArray]; exact r.length.symm
  refine ⟨"tuple", _, PyProof.Rows.slot_tuple_getitem.lookup, ht.typeIs, ?_⟩
  refine HT.getItem_tuple_cut ht hs pl pu (by rw [hlen]; exact hw) ?_ (by rw [hlen]; exact hz)
  rw [hlen]
  refine ⟨.ref s.heap.objs.size, _, I.laid (t' := s.toks) (o := .tup (cutV xs lo hi)) (fun b ob q => Heap.get?_push_of_some _ q) (Nat.le_refl _) ?_, rfl, q _ (I.hok.fresh (Nat.le_refl _))⟩
  exact ⟨Nat.le_trans (cutV_length xs lo hi) hz, _, (r.drop (HT.sIx xs.length 0 lo)).take (HT.sIx xs.length xs.length hi - HT.sIx xs.length 0 lo), IsTup.new _ _⟩

/-! ### t < u, t + u -/
/-- t + u, t not empty: u empty gives t itself -/
def rCatT (K : PySem.W.Frag) : R2 := fun x y H Q => ∃ a b xs ys, x = .ref a ∧ y = .ref b ∧ SqT K H a xs ∧ SqT K H b ys ∧ xs ≠ [] ∧ xs.length + ys.length ≤ sizeLine ∧
  (ys = [] → Q (.ref a) H) ∧ (ys ≠ [] → ∀ p, H p = none → Q (.ref p) (upd H p (.tup (xs ++ ys))))
theorem Vals.nil_iff {xs : List V} {us : List Value} (r : Vals xs us) : us = [] ↔ xs = [] := by
  cases r with
  | nil => simp
  | cons _ _ => simp
theorem op_catT : OpR X (binaryOp .Add) (rCatT X.K) := by
  intro pins s σ H x y v u Q I rx ry h
  obtain ⟨a, b, xs, ys, rfl, rfl, ha, hb, hx, hz, q1, q2⟩ := h
  cases rx
  cases ry
  obtain ⟨its, r1, p1, _⟩ := I.tuple ha
  obtain ⟨its2, r2, p2, _⟩ := I.tuple hb
  refine HT.cat_tup p1 p2 (fun z => hx (r1.nil_iff.mp z)) (fun z => ⟨.ref a, H, I, rfl, q1 (r2.nil_iff.mp z)⟩) (fun z => ?_) (by rw [← r1.length, ← r2.length]; exact hz)
  refine ⟨.ref s.heap.objs.size, _, I.laid (t' := s.toks) (o := .tup (xs ++ ys)) (fun b ob q => Heap.get?_push_of_some _ q) (Nat.le_refl _) ?_, rfl, q2 (fun w => z (r2.nil_iff.mpr w)) _ (I.hok.fresh (Nat.le_refl _))⟩
  exact ⟨by rw [List.length_append]; exact hz, _, r1.append r2, IsTup.new _ _⟩
end
end L2

namespace L2
open PySem PySem.Spec PyProof.Rows

/-! ### places -/
/-- the place that an index of any sign means -/
def ixN (n : Nat) (i : Int) : Option Nat := if 0 ≤ i then (if i < n then some i.toNat else none) else if -(n : Int) ≤ i then some (i + n).toNat else none
def atI {α : Type} (xs : List α) (i : Int) : Option α := (ixN xs.length i).bind fun j => xs[j]?
theorem ixN_seq {n : Nat} {i : Int} {j : Nat} (h : ixN n i = some j) : seqIndex? i n = some j ∧ j < n ∧ -(n : Int) ≤ i ∧ i < n := by
  unfold ixN at h
  by_cases h0 : 0 ≤ i
  · rw [if_pos h0] at h
    by_cases h1 : i < n
    · rw [if_pos h1] at h
      have e : i.toNat = j := Option.some.inj h
      exact ⟨by rw [seqIndex_of h0 h1, e], by omega, by omega, h1⟩
    · rw [if_neg h1] at h; cases h
  · rw [if_neg h0] at h
    by_cases h1 : -(n : Int) ≤ i
    · rw [if_pos h1] at h
      have e : (i + n).toNat = j := Option.some.inj h
      exact ⟨by rw [seqIndex_neg (by omega) h1, e], by omega, h1, by omega⟩
    · rw [if_neg h1] at h; cases h
theorem atI_get {α : Type} {xs : List α} {i : Int} {v : α} (h : atI xs i = some v) : ∃ j, seqIndex? i xs.length = some j ∧ xs[j]? = some v ∧ j < xs.length ∧ -(xs.length : Int) ≤ i ∧ i < xs.length := by
  unfold atI at h
  cases e : ixN xs.length i with
  | none => rw [e] at h; cases h
  | some j =>
    rw [e] at h
    obtain ⟨h1, h2, h3, h4⟩ := ixN_seq e
    exact ⟨j, h1, h, h2, h3, h4⟩
theorem atI_nat {α : Type} {xs : List α} {j : Nat} {v : α} (h : xs[j]? = some v) : atI xs (j : Int) = some v := by
  have hj : j < xs.length := (List.getElem?_eq_some_iff.mp h).1
  have e : ixN xs.length (j : Int) = some j := by
    unfold ixN
    rw [if_pos (by omega), if_pos (by omega)]; simp
  unfold atI; rw [e]; exact h

/-! ### what may be subscripted -/
/-- what stands as an index of a plain subscript -/
def PlainIx (b : Expr) : Prop := ∀ o i, subscripted b false o i = operate [o, i] (getItem o i)
/-- a subscript by values -/
def IxR (X : Cx) (r : R2) : Prop :=
  ∀ (value slice : Expr) (pins : List (Addr × Obj)) (s : Shared) (σ : St) (H : Hp) (x y : V) (v u : Value) (Q : VK), Inv X pins σ H s → RelV x v → RelV y u → r x y H Q →
    subscripted slice false v u = operate [v, u] (getItem v u) → wpAny (model X.prog X.w) X.A (subscriptTail value slice v u) (EP X pins σ Q) X.xe s
/-- a call of a builtin's method by values: the receiver, the arguments -/
def MtR (X : Cx) (id : String) (r : V → List V → Hp → VK → Prop) : Prop :=
  ∀ (pins : List (Addr × Obj)) (s : Shared) (σ : St) (H : Hp) (x : V) (xs : List V) (v : Value) (us : List Value) (Q : VK), Inv X pins σ H s → RelV x v → Vals xs us → r x xs H Q →
    wpAny (model X.prog X.w) X.A (call (.builtin id) (v :: us)) (EP X pins σ Q) X.xe s
section
variable {X : Cx} {a b : Expr} {ta tb : TE} {pos : Pos}
/-- a[b] -/
theorem pe_ix {r : R2} (hr : IxR X r) (ha : PE X a ta) (hb : PE X b tb) (hs : PlainIx b) : PE X (.Subscript a b pos) (tOp r ta tb) := by
  intro pins s σ H Q I h
  exact Subscript_ (binT ha hb I h fun v u s2 x y H2 I2 rx ry q => hr a b pins s2 σ H2 x y v u Q I2 rx ry q (hs _ _))

def rIxL (K : PySem.W.Frag) : R2 := fun x y H Q => ∃ p xs i v, x = .ref p ∧ y = .int i ∧ SqL K H p xs ∧ atI xs i = some v ∧ Q v H
def rIxT (K : PySem.W.Frag) : R2 := fun x y H Q => ∃ p xs i v, x = .ref p ∧ y = .int i ∧ SqT K H p xs ∧ atI xs i = some v ∧ Q v H
theorem ix_list : IxR X (rIxL X.K) := by
  intro value slice pins s σ H x y v u Q I rx ry h hs
  obtain ⟨p, xs, i, z, rfl, rfl, hq, he, q⟩ := h
  cases rx
  obtain ⟨t, rfl⟩ := ry
  obtain ⟨its, r, pl, hz⟩ := I.list hq
  obtain ⟨j, h1, h2, h3, h4, h5⟩ := atI_get he
  obtain ⟨w, ew, rw'⟩ := r.get h2
  have hl := r.length
  have hn := line63
  have fin : EP X pins σ Q w s := ⟨z, H, I, rw', q⟩
  by_cases h0 : 0 ≤ i
  · have hj : i.toNat = j := by
      rw [seqIndex_of h0 h5] at h1
      exact Option.some.inj h1
    exact item_listR pl.isList h0 (by omega) (by rw [hj]; simpa using ew) fin hs
  · have hj : (i + (its.toArray.size : Int)).toNat = j := by
      rw [seqIndex_neg (by omega) h4] at h1
      rw [List.size_toArray, ← hl]
      exact Option.some.inj h1
    exact subscriptTail_builtinR (x := w) pl.isList.typeIs slot_list_getitem.lookup
      (wpAny_getItem_list_neg (Q := fun r s' => r = w ∧ EP X pins σ Q r s') pl.isList (by omega) (by rw [List.size_toArray] <;> omega) (by omega) (by rw [hj]; simpa using ew) ⟨rfl, fin⟩) hs
theorem ix_tup : IxR X (rIxT X.K) := by
  intro value slice pins s σ H x y v u Q I rx ry h hs
  obtain ⟨p, xs, i, z, rfl, rfl, hq, he, q⟩ := h
  cases rx
  obtain ⟨t, rfl⟩ := ry
  obtain ⟨its, r, pl, hz⟩ := I.tuple hq
  obtain ⟨j, h1, h2, h3, h4, h5⟩ := atI_get he
  obtain ⟨w, ew, rw'⟩ := r.get h2
  have hl := r.length
  have hn := line63
  have fin : EP X pins σ Q w s := ⟨z, H, I, rw', q⟩
  exact subscriptTail_builtinR (x := w) pl.typeIs slot_tuple_getitem.lookup
    (getItem_tuple (j := j) (Q := fun r s' => r = w ∧ EP X pins σ Q r s') pl (by omega) (by omega) (by rw [List.size_toArray, ← hl]; exact h1) (by simpa using ew) ⟨rfl, fin⟩) hs

/-! ### xs[i] = v, any sign -/
/-- the list's object behind a store -/
theorem mapSeq_set (its : List Value) (n j : Nat) (u : Value) : Obj.mapSeq (·.setIfInBounds j u) { cls := .type "list", data := .seq its.toArray n } = { cls := .type "list", data := .seq (its.set j u).toArray n } := by
  simp [Obj.mapSeq]
theorem Inv.lst {pins : List (Addr × Obj)} {σ : St} {H : Hp} {s : Shared} {p : Addr} {xs : List V} (I : Inv X pins σ H s) (h : H p = some (.lst xs)) :
    ∃ (its : List Value) (n : Nat), Vals xs its ∧ s.heap.get? p = some { cls := .type "list", data := .seq its.toArray n } ∧ xs.length ≤ sizeLine := by
  obtain ⟨z, its, n, r, e⟩ := I.hok p _ h
  exact ⟨its, n, r, e, z⟩
/-- the list at p is written by an update of its object -/
theorem Inv.lstUpd {pins : List (Addr × Obj)} {σ : St} {H : Hp} {s : Shared} {p : Addr} {xs ys : List V} {its its' : List Value} {n n' : Nat} {f : Obj → Obj} (I : Inv X pins σ H s) (h : H p = some (.lst xs))
    (ho : s.heap.get? p = some { cls := .type "list", data := .seq its.toArray n }) (hf : f { cls := .type "list", data := .seq its.toArray n } = { cls := .type "list", data := .seq its'.toArray n' }) (r : Vals ys its') (hz : ys.length ≤ sizeLine) (t : Nat) :
    Inv X pins σ (upd H p (.lst ys)) { s with heap := s.heap.update p f, toks := t } := by
  have e : (s.heap.update p f).get? p = some { cls := .type "list", data := .seq its'.toArray n' } := by
    rw [Heap.get?_update_self f ho (by rw [hf] <;> rfl), hf]
  refine I.write (x := p) (e := p) (by rw [h]; trivial) (.inl rfl) (fun b u hb q => (Heap.get?_update_other _ _ (Ne.symm hb)).trans q) ⟨_, e⟩ ?_
  exact ⟨hz, its', n', r, e⟩
def rSetL : V → V → V → Hp → (Hp → Prop) → Prop := fun o i v H Q => ∃ p xs k j, o = .ref p ∧ i = .int k ∧ H p = some (.lst xs) ∧ ixN xs.length k = some j ∧ Q (upd H p (.lst (xs.set j v)))
theorem set_list : PSet X rSetL := by
  intro pins s σ H o i v ov iv u Q I ro ri rv h
  obtain ⟨p, xs, k, j, rfl, rfl, hp, hj, q⟩ := h
  cases ro
  obtain ⟨t, rfl⟩ := ri
  obtain ⟨its, n, r, ho, hz⟩ := I.lst hp
  obtain ⟨h1, h2, h3, h4⟩ := ixN_seq hj
  have hl := r.length
  have hn := line63
  have I' : Inv X pins σ (upd H p (.lst (xs.set j v))) { s with heap := s.heap.update p (Obj.mapSeq (·.setIfInBounds j u)) } :=
    I.lstUpd hp ho (mapSeq_set its n j u) (r.set rv j) (by rw [List.length_set]; exact hz) s.toks
  by_cases h0 : 0 ≤ k
  · have hk : k.toNat = j := by
      rw [seqIndex_of h0 h4] at h1
      exact Option.some.inj h1
    exact PySem.W.ki_setAt ho h0 (by omega) (by rw [List.size_toArray, ← hl]; exact h4) (by rw [hk]; exact ⟨_, I', q⟩)
  · have hk : (k + (its.toArray.size : Int)).toNat = j := by
      rw [seqIndex_neg (by omega) h3] at h1
      rw [List.size_toArray, ← hl]
      exact Option.some.inj h1
    exact PySem.W.ki_setBack ho (by omega) (by rw [List.size_toArray, ← hl]; exact h3) (by omega) (by rw [hk]; exact ⟨_, I', q⟩)

/-! ### slices -/
theorem slice_bounds (lo hi : Option Int) (n : Nat) : (sliceBounds lo hi none n).1 = ((HT.sIx n 0 lo : Nat) : Int) ∧ (sliceBounds lo hi none n).2.1 = ((HT.sIx n n hi : Nat) : Int) ∧ (sliceBounds lo hi none n).2.2 = 1 := by
  refine ⟨?_, ?_, rfl⟩
  · cases lo with
    | none => simp [sliceBounds, HT.sIx]
    | some i =>
      simp only [sliceBounds, HT.sIx, Option.getD_none, show (1 : Int) > 0 by decide, if_true]
      by_cases h : i < 0
      · simp only [h, if_true] <;> omega
      · simp only [h, if_false] <;> omega
  · cases hi with
    | none => simp [sliceBounds, HT.sIx]
    | some i =>
      simp only [sliceBounds, HT.sIx, Option.getD_none, show (1 : Int) > 0 by decide, if_true]
      by_cases h : i < 0
      · simp only [h, if_true] <;> omega
      · simp only [h, if_false] <;> omega
theorem slicePick_cut (its : List Value) (lo hi : Option Int) : slicePick its.toArray lo hi none = ((its.drop (HT.sIx its.length 0 lo)).take (HT.sIx its.length its.length hi - HT.sIx its.length 0 lo)).toArray := by
  obtain ⟨h1, h2, h3⟩ := slice_bounds lo hi its.toArray.size
  unfold slicePick
  rw [h1, h2, h3]
  simp only [sliceRange_one, pick_run, List.size_toArray] <;> rfl
/-- xs[lo:hi] of a list: a new list -/
def rSlL (K : PySem.W.Frag) : V → Option Int → Option Int → Hp → VK → Prop := fun x lo hi H Q => ∃ a xs, x = .ref a ∧ SqL K H a xs ∧ ∀ p, H p = none → Q (.ref p) (upd H p (.lst (cutV xs lo hi)))
theorem sl_list : SlR X (rSlL X.K) := by
  intro pins s σ H x v vl vu lo hi sl Q I rx hs pl pu h
  obtain ⟨a, xs, rfl, hx, q⟩ := h
  cases rx
  obtain ⟨its, r, ht, hz⟩ := I.list hx
  have hlen := r.length
  refine ⟨"list", _, slot_list_getitem.lookup, ht.isList.typeIs, ?_⟩
  refine wpAny_getItem_list_slice ht.isList hs pl pu .none (by simp) ?_ (by rw [List.size_toArray] <;> omega)
  rw [slicePick_cut, ← hlen]
  refine ⟨.ref s.heap.objs.size, _, I.laid (t' := s.toks) (o := .lst (cutV xs lo hi)) (fun b ob q => Heap.get?_push_of_some _ q) (Nat.le_refl _) ?_, rfl, q _ (I.hok.fresh (Nat.le_refl _))⟩
  exact ⟨Nat.le_trans (cutV_length xs lo hi) hz, _, 0, (r.drop (HT.sIx xs.length 0 lo)).take (HT.sIx xs.length xs.length hi - HT.sIx xs.length 0 lo), Heap.get?_push_size _ rfl⟩

/-! ### in, not in: flat items -/

/-! ### len, list(x), tuple(x) of any list or tuple that is read -/
theorem call_len_seq : CallR X (.builtin "len") (fun xs H Q => ∃ p ys, xs = [.ref p] ∧ (SqL X.K H p ys ∨ SqT X.K H p ys) ∧ Q (.int ys.length) H) := by
  intro pins s σ H xs us Q I r h
  obtain ⟨p, ys, rfl, hq, q⟩ := h
  obtain ⟨u, rfl, rx⟩ := vals1 r
  cases rx
  have hn := line63
  rcases hq with hq | hq
  · obtain ⟨its, r', pl, hz⟩ := I.list hq
    have hlen := r'.length
    exact Calls.call_len_list pl.isList (by simp only [List.size_toArray] <;> omega) ⟨.int ys.length, H, I.tok _, ⟨s.toks + 1, by rw [List.size_toArray, hlen]⟩, q⟩
  · obtain ⟨its, r', pl, hz⟩ := I.tuple hq
    have hlen := r'.length
    exact len_tuple pl (by simp only [List.size_toArray] <;> omega) ⟨.int ys.length, H, I.tok _, ⟨s.toks + 1, by rw [List.size_toArray, hlen]⟩, q⟩
theorem call_list_of : CallR X (.type "list") (fun xs H Q => ∃ p ys, xs = [.ref p] ∧ (SqL X.K H p ys ∨ SqT X.K H p ys) ∧ ∀ l, H l = none → Q (.ref l) (upd H l (.lst ys))) := by
  intro pins s σ H xs us Q I r h
  obtain ⟨p, ys, rfl, hq, q⟩ := h
  obtain ⟨u, rfl, rx⟩ := vals1 r
  cases rx
  have fin : ∀ (its : List Value), Vals ys its → ys.length ≤ sizeLine → ∀ (h' : Heap) (c' : Nat), (∀ b o', s.heap.get? b = some o' → h'.get? b = some o') →
      h'.get? s.heap.objs.size = some { cls := .type "list", dict := none, data := .seq its.toArray c', slots := #[] } → EP X pins σ Q (.ref s.heap.objs.size) { s with heap := h' } := fun its r' hz h' c' kp e =>
    ⟨.ref s.heap.objs.size, _, I.laid (t' := s.toks) kp (Nat.le_refl _) (show ObjOk X.prog X.w _ h' _ (.lst ys) from ⟨hz, its, c', r', e⟩), rfl, q _ (I.hok.fresh (Nat.le_refl _))⟩
  rcases hq with hq | hq
  · obtain ⟨its, r', pl, hz⟩ := I.list hq
    have hlen := r'.length
    obtain ⟨o, ho, hc, n, hd⟩ := pl.isList
    exact call_list_seq p (.inl rfl) ho hc hd (fun h' c' kp e => fin its r' hz h' c' kp e) (by simp only [List.size_toArray] <;> omega)
  · obtain ⟨its, r', pl, hz⟩ := I.tuple hq
    have hlen := r'.length
    obtain ⟨o, ho, hc, n, hd⟩ := pl
    exact call_list_seq p (.inr rfl) ho hc hd (fun h' c' kp e => fin its r' hz h' c' kp e) (by simp only [List.size_toArray] <;> omega)
theorem call_tuple_of : CallR X (.type "tuple") (fun xs H Q => ∃ p ys, xs = [.ref p] ∧ ((SqL X.K H p ys ∧ ∀ l, H l = none → Q (.ref l) (upd H l (.tup ys))) ∨ (SqT X.K H p ys ∧ Q (.ref p) H))) := by
  intro pins s σ H xs us Q I r h
  obtain ⟨p, ys, rfl, h⟩ := h
  obtain ⟨u, rfl, rx⟩ := vals1 r
  cases rx
  rcases h with ⟨hq, q⟩ | ⟨hq, q⟩
  · obtain ⟨its, r', pl, hz⟩ := I.list hq
    have hlen := r'.length
    refine call_tuple_list pl.isList (fun h' kp => ?_) (by simp only [List.size_toArray] <;> omega)
    have I1 : Inv X pins σ H { s with heap := h' } := I.kept (t' := s.toks) kp
    have I2 : Inv X pins σ (upd H h'.objs.size (.tup ys)) { s with heap := h'.push { cls := .type "tuple", data := .seq its.toArray } } :=
      I1.laid (t' := s.toks) (fun b o e => Heap.get?_push_of_some _ e) (Nat.le_refl _) (show ObjOk X.prog X.w _ _ _ (.tup ys) from ⟨hz, its, r', IsTup.new _ _⟩)
    exact ⟨.ref h'.objs.size, _, I2, rfl, q _ (I1.hok.fresh (Nat.le_refl _))⟩
  · obtain ⟨its, r', pl, hz⟩ := I.tuple hq
    exact call_tuple_same pl ⟨.ref p, H, I, rfl, q⟩

/-! ### the call of a builtin's method: o.m(..) -/
/-- the value is of that builtin type -/
def tyV (K : PySem.W.Frag) (T : String) (x : V) (H : Hp) : Prop := match x with
  | .str _ => T = "str"
  | .int _ => T = "int"
  | .ref p => (T = "list" ∧ ∃ xs, SqL K H p xs) ∨ (T = "tuple" ∧ ∃ o, K.lookup p = some o ∧ o.cls = .type "tuple" ∧ o.dict = none) ∨
      (T = "dict" ∧ ((∃ kvs, H p = some (.dK kvs)) ∨ ∃ kvs, H p = some (.dT kvs))) ∨ (T = "set" ∧ ∃ S n, H p = some (.set S n))
  | _ => False
theorem tyV_is {pins : List (Addr × Obj)} {σ : St} {H : Hp} {s : Shared} {T : String} {x : V} {v : Value} (I : Inv X pins σ H s) (r : RelV x v) (ty : tyV X.K T x H) :
    s.TypeIs v T ∧ ∀ a, v = .ref a → ∃ ob, s.heap.get? a = some ob ∧ ob.dict = none := by
  cases x with
  | str z =>
    obtain ⟨t, rfl⟩ := r
    cases (show T = "str" from ty)
    exact ⟨typeIs_str s z t, fun _ e => nomatch e⟩
  | int i =>
    obtain ⟨t, rfl⟩ := r
    cases (show T = "int" from ty)
    exact ⟨typeIs_int s i t, fun _ e => nomatch e⟩
  | ref p =>
    cases r
    rcases ty with ⟨rfl, xs, hq⟩ | ⟨rfl, o, hk, hc, hd⟩ | ⟨rfl, hk⟩ | ⟨rfl, S, n, hk⟩
    · obtain ⟨its, _, pl, _⟩ := I.list hq
      refine ⟨pl.isList.typeIs, fun a e => ?_⟩
      cases e
      obtain ⟨o, n, e, c, hd, _⟩ := pl
      exact ⟨o, e, hd⟩
    · refine ⟨⟨o, I.kIn p o hk, hc⟩, fun a e => ?_⟩
      cases e
      exact ⟨o, I.kIn _ o hk, hd⟩
    · have z : ∃ o, s.heap.get? p = some o ∧ o.ExactDict := by
        rcases hk with ⟨kvs, hk⟩ | ⟨kvs, hk⟩
        · obtain ⟨_, _, _, _, o, _, _, e, ex, _⟩ := I.hok p _ hk
          exact ⟨o, e, ex⟩
        · obtain ⟨_, _, _, _, o, _, _, e, ex, _⟩ := I.hok p _ hk
          exact ⟨o, e, ex⟩
      obtain ⟨o, e, ex⟩ := z
      refine ⟨⟨o, e, ex.1⟩, fun a e2 => ?_⟩
      cases e2
      exact ⟨o, e, ex.2.1⟩
    · obtain ⟨o, _, _, _, e, ex, _⟩ := I.hok p _ hk
      refine ⟨⟨o, e, ex.1⟩, fun a e2 => ?_⟩
      cases e2
      exact ⟨o, e, ex.2.1⟩
  | _ => exact False.elim ty
def tBM (K : PySem.W.Frag) (T : String) (r : V → List V → Hp → VK → Prop) (to : TE) (t : TA) : TE := fun σ H Q => to σ H fun x H1 => tyV K T x H1 ∧ t σ H1 fun xs H2 => r x xs H2 Q
variable {o e : Expr} {es : List Expr} {to : TE} {t : TA} {name : Str} {apos cpos : Pos} {T id : String} {r : V → List V → Hp → VK → Prop}
theorem pe_bm (pa : PlainAttrs T) (slot : Slot T name id) (hty : typeOf (.builtin id) = pure (.type "method_descriptor")) (hm : MtR X id r) (ho : PE X o to) (ha : PA X (e :: es) t)
    (hbase : attributeBase o name X.env (eval o X.env) = eval o X.env := by rfl)
    (hfew : ((backTo cpos (starEach (e :: es) X.env)).all (fun x => !x.1) && (backToKw cpos (keywordEach [] X.env)).all (fun x => x.1.isSome)
      && decide ((e :: es).length + ([] : List Keyword).length + (if ([] : List Keyword).isEmpty then 0 else 1) < 30)) = true := by rfl)
    (hline : (apos.endLine == cpos.line) = true := by rfl) (hs : starEach (e :: es) X.env = (false, eval e X.env) :: starEach es X.env := by rfl) (hplain : (backTo cpos (starEach es X.env)).any (·.1) = false := by rfl) :
    PE X (.Call (.Attribute o name apos) (e :: es) [] cpos) (tBM X.K T r to t) := by
  intro pins s σ H Q I h
  refine wpAny_Call_method_late hbase hfew hline rfl (thn (ho pins s σ H _ I h) fun v s1 ⟨x, H1, I1, r1, ty, q1⟩ => ?_)
  obtain ⟨h1, h2⟩ := tyV_is I1 r1 ty
  refine ⟨T, id, pa, slot, hty, h1, h2, ?_⟩
  have hA := ha cpos pins s1 σ H1 _ I1 q1
  rw [hs] at hA ⊢
  refine Calls.callWith_builtin (by show (false || (backTo cpos (starEach es X.env)).any (·.1)) = false; rw [hplain] <;> rfl) (Calls.evalArgs_plain ?_)
  exact thn hA fun us s2 ⟨vs, H2, I2, r2, q2⟩ => hm pins s2 σ H2 x vs v us Q I2 r1 r2 q2
/- xs.append(e), list.index on a module's tuple .. are MtR facts of 06m -/
end
end L2

namespace L2
open PySem PySem.Spec PyProof.Rows

def MtM (X : Cx) (id : String) (r : V → List V → Hp → VK → Prop) : Prop :=
  ∀ (pins : List (Addr × Obj)) (s : Shared) (σ : St) (H : Hp) (x : V) (xs : List V) (v : Value) (us : List Value) (Q : VK), Inv X pins σ H s → RelV x v → Vals xs us → r x xs H Q →
    wpAny (model X.prog X.w) X.A (call (.builtin id) (v :: us)) (EP X pins σ Q) X.xe s

/-! ### lists of values -/
theorem Vals.one : ∀ {x : V} {us : List Value}, Vals [x] us → ∃ u, us = [u] ∧ RelV x u
  | _, _, .cons r .nil => ⟨_, rfl, r⟩
theorem Vals.two {x y : V} {us : List Value} (r : Vals [x, y] us) : ∃ u v, us = [u, v] ∧ RelV x u ∧ RelV y v :=
  vals2 r
theorem Vals.zero : ∀ {us : List Value}, Vals [] us → us = []
  | _, .nil => rfl
theorem Vals.eraseIdx : ∀ {xs : List V} {us : List Value} (i : Nat), Vals xs us → Vals (xs.eraseIdx i) (us.eraseIdx i)
  | _, _, _, .nil => .nil
  | _, _, 0, .cons _ t => t
  | _, _, i + 1, .cons r t => .cons r (Vals.eraseIdx i t)
theorem Vals.rep {xs : List V} {us : List Value} (h : Vals xs us) : ∀ k : Nat, Vals (List.replicate k xs).flatten (List.replicate k us).flatten
  | 0 => .nil
  | k + 1 => by
    rw [List.replicate_succ, List.replicate_succ, List.flatten_cons, List.flatten_cons]
    exact Vals.append h (Vals.rep h k)
theorem len_erase {α : Type} : ∀ (l : List α) (i : Nat), (l.eraseIdx i).length ≤ l.length
  | [], _ => Nat.le_refl _
  | _ :: _, 0 => Nat.le_succ _
  | _ :: r, i + 1 => Nat.succ_le_succ (len_erase r i)
theorem foldl_rep (its : List Value) : ∀ (k : Nat) (acc : List Value),
    List.foldl (fun x1 x2 => x1 ++ x2) acc.toArray (List.replicate k its.toArray) = (acc ++ (List.replicate k its).flatten).toArray
  | 0, acc => by simp
  | k + 1, acc => by
    have e : acc.toArray ++ its.toArray = (acc ++ its).toArray := by simp
    have e2 : (acc ++ its) ++ (List.replicate k its).flatten = acc ++ (List.replicate (k + 1) its).flatten := by
      rw [List.replicate_succ, List.flatten_cons, List.append_assoc]
    rw [← e2, ← foldl_rep its k (acc ++ its), ← e, List.replicate_succ, List.foldl_cons]

section
variable {X : Cx} {pins : List (Addr × Obj)} {σ : St} {H : Hp} {s : Shared} {l b : Addr} {xs ys zs : List V}

/-! ### the two steps: a tracked list is rewritten, a new list is laid -/
theorem Inv.lset {its its' : List Value} {n : Nat} {f : Array Value → Array Value} {t' : Nat} (I : Inv X pins σ H s) (hH : H l = some (.lst xs))
    (e : s.heap.get? l = some { cls := .type "list", data := .seq its.toArray n }) (hf : f its.toArray = its'.toArray) (hv : Vals ys its') (hz : ys.length ≤ sizeLine) :
    Inv X pins σ (upd H l (.lst ys)) { s with heap := s.heap.update l (Obj.mapSeq f), toks := t' } := by
  have q := PySem.IsL.update e f
  rw [hf] at q
  refine I.write (x := l) (e := l) (by rw [hH]; exact trivial) (.inl rfl) (fun b' u hb hu => (Heap.get?_update_other s.heap (Obj.mapSeq f) (Ne.symm hb)).trans hu) ⟨_, q⟩ ?_
  exact ⟨hz, its', _, hv, q⟩
theorem Inv.lnew {its : List Value} {t' : Nat} (I : Inv X pins σ H s) (hv : Vals ys its) (hz : ys.length ≤ sizeLine) :
    Inv X pins σ (upd H s.heap.objs.size (.lst ys)) { s with heap := s.heap.push { cls := .type "list", data := .seq its.toArray }, toks := t' } :=
  I.laid (fun _ _ q => Heap.get?_push_of_some _ q) (Nat.le_refl _) ⟨hz, its, 0, hv, Heap.get?_push_size _ rfl⟩
theorem Inv.fresh (I : Inv X pins σ H s) : H s.heap.objs.size = none := I.hok.fresh (Nat.le_refl _)
theorem Inv.lstM (I : Inv X pins σ H s) (hH : H l = some (.lst xs)) : xs.length ≤ sizeLine ∧ ∃ (its : List Value) (n : Nat), Vals xs its ∧ xs.length = its.length ∧ s.heap.get? l = some { cls := .type "list", data := .seq its.toArray n } := by
  obtain ⟨z, its, n, r, e⟩ := I.hok l _ hH
  exact ⟨z, its, n, r, r.length, e⟩

theorem notLongL {n : Nat} (h : n ≤ sizeLine) : Builtin.List.listTooLong n = false := by
  unfold Builtin.List.listTooLong
  exact decide_eq_false (by omega)
end

section
variable {X : Cx}

/-! ### methods -/
def rAppend : V → List V → Hp → VK → Prop := fun x vs H Q => ∃ l xs y, x = .ref l ∧ vs = [y] ∧ H l = some (.lst xs) ∧ xs.length < sizeLine ∧ Q .non (upd H l (.lst (xs ++ [y])))
theorem mt_append : MtM X "list.append" rAppend := by
  intro pins s σ H x vs v us Q I rx rv h
  obtain ⟨l, xs, y, rfl, rfl, hH, hz, q⟩ := h
  cases rx
  obtain ⟨u, rfl, ru⟩ := rv.one
  obtain ⟨z, its, n, r, hl, e⟩ := I.lstM hH
  refine call_meets F.slot_list_append ⟨_, e, rfl⟩ F.entry_list_append (F.args_list_append_2 _ _) (PySem.list_append l its.toArray n u (by rw [List.size_toArray]; omega)) ⟨e, ?_⟩
  refine ⟨.non, _, I.lset (its' := its ++ [u]) hH e (by simp) (r.append (.cons ru .nil)) ?_, rfl, q⟩
  rw [List.length_append, List.length_singleton]
  omega

def rExtend : V → List V → Hp → VK → Prop := fun x vs H Q => ∃ l b xs zs, x = .ref l ∧ vs = [.ref b] ∧ H l = some (.lst xs) ∧ H b = some (.lst zs) ∧ xs.length + zs.length ≤ sizeLine ∧ Q .non (upd H l (.lst (xs ++ zs)))
theorem mt_extend : MtM X "list.extend" rExtend := by
  intro pins s σ H x vs v us Q I rx rv h
  obtain ⟨l, b, xs, zs, rfl, rfl, hH, hB, hz, q⟩ := h
  cases rx
  obtain ⟨u, rfl, ru⟩ := rv.one
  cases ru
  obtain ⟨z, its, n, r, hl, e⟩ := I.lstM hH
  obtain ⟨z2, its2, n2, r2, hl2, e2⟩ := I.lstM hB
  have hsz : its.toArray.size + its2.toArray.size ≤ sizeLine := by rw [List.size_toArray, List.size_toArray]; omega
  have hlong : ¬ (!its.toArray.isEmpty && Builtin.List.listTooLong (its.toArray.size + its2.toArray.size)) = true := by
    rw [notLongL hsz, Bool.and_false]
    exact Bool.false_ne_true
  refine call_meets F.slot_list_extend ⟨_, e, rfl⟩ F.entry_list_extend (F.args_list_extend_2 _ _)
    (AutoSeq1.list_extend_list_list_0 l its.toArray n b its2.toArray n2 hlong (by rw [List.size_toArray]; omega) (by omega)) ⟨e, e2, ?_⟩
  refine ⟨.non, _, I.lset (its' := its ++ its2) hH e (by simp) (r.append r2) ?_, rfl, q⟩
  rw [List.length_append]
  omega


def rPopAt : V → List V → Hp → VK → Prop := fun x vs H Q => ∃ l xs i k y, x = .ref l ∧ vs = [.int i] ∧ H l = some (.lst xs) ∧ -(2 ^ 63) ≤ i ∧ i < 2 ^ 63 ∧ seqIndex? i xs.length = some k ∧ xs[k]? = some y ∧ Q y (upd H l (.lst (xs.eraseIdx k)))
theorem mt_popAt : MtM X "list.pop" rPopAt := by
  intro pins s σ H x vs v us Q I rx rv h
  obtain ⟨l, xs, i, k, y, rfl, rfl, hH, h1, h2, hk, hy, q⟩ := h
  cases rx
  obtain ⟨u, rfl, ru⟩ := rv.one
  obtain ⟨t, rfl⟩ := ru
  obtain ⟨z, its, n, r, hl, e⟩ := I.lstM hH
  obtain ⟨w, hw, rw'⟩ := r.get hy
  refine call_meets F.slot_list_pop ⟨_, e, rfl⟩ F.entry_list_pop (F.args_list_pop_2 _ _)
    (MeetsSeq.list_pop_at l its.toArray n i t k w (fitsIndex_both h1 h2) (by rw [List.size_toArray, ← hl]; exact hk) (by rw [← Array.getElem?_toList]; exact hw) (by rw [List.size_toArray]; omega)) ⟨e, ?_⟩
  refine ⟨y, _, I.lset (its' := its.eraseIdx k) hH e ?_ (r.eraseIdx k) ?_, rw', q⟩
  · show its.toArray.eraseIdxIfInBounds k = (its.eraseIdx k).toArray
    rw [List.eraseIdxIfInBounds_toArray]
  · have := len_erase xs k
    omega



/-! ### list + list, list += list, list * int -/
def rCat : R2 := fun x y H Q => ∃ l b xs zs, x = .ref l ∧ y = .ref b ∧ H l = some (.lst xs) ∧ H b = some (.lst zs) ∧ xs.length + zs.length ≤ sizeLine ∧ ∀ p, H p = none → Q (.ref p) (upd H p (.lst (xs ++ zs)))
theorem op_cat : OpR X (binaryOp .Add) rCat := by
  intro pins s σ H x y v u Q I rx ry h
  obtain ⟨l, b, xs, zs, rfl, rfl, hH, hB, hz, q⟩ := h
  cases rx
  cases ry
  obtain ⟨z, its, n, r, hl, e⟩ := I.lstM hH
  obtain ⟨z2, its2, n2, r2, hl2, e2⟩ := I.lstM hB
  refine PySem.P.add_list e e2 ?_ (by rw [List.size_toArray, List.size_toArray]; omega)
  have ea : its.toArray ++ its2.toArray = (its ++ its2).toArray := by simp
  rw [ea]
  exact ⟨.ref _, _, I.lnew (t' := s.toks) (r.append r2) (by rw [List.length_append]; omega), rfl, q _ I.fresh⟩
/-- a list times an int (a negative one is nothing) -/
def rRep : R2 := fun x y H Q => ∃ l k xs, x = .ref l ∧ y = .int k ∧ H l = some (.lst xs) ∧ -(2 ^ 63) ≤ k ∧ k < 2 ^ 63 ∧ xs.length * k.toNat ≤ sizeLine ∧
  ∀ p, H p = none → Q (.ref p) (upd H p (.lst (List.replicate k.toNat xs).flatten))
theorem len_rep {α : Type} (xs : List α) (k : Nat) : (List.replicate k xs).flatten.length = k * xs.length := by
  induction k with
  | zero => simp
  | succ k ih => rw [List.replicate_succ, List.flatten_cons, List.length_append, ih, Nat.succ_mul, Nat.add_comm]
theorem op_rep : OpR X (binaryOp .Mult) rRep := by
  intro pins s σ H x y v u Q I rx ry h
  obtain ⟨l, k, xs, rfl, rfl, hH, h1, h2, hz, q⟩ := h
  cases rx
  obtain ⟨t, rfl⟩ := ry
  obtain ⟨z, its, n, r, hl, e⟩ := I.lstM hH
  have hlen : its.toArray.size * k.toNat ≤ sizeLine := by rw [List.size_toArray, ← hl]; exact hz
  have hcap : ¬ its.toArray.size * k.toNat > (2 ^ 63 - 1) / 8 := by
    have : (sizeLine : Nat) ≤ (2 ^ 63 - 1) / 8 := by decide
    omega
  have hfit : ¬ (!Builtin.List.listFitsIndex k) = true := by
    rw [fitsIndex_both h1 h2]
    exact Bool.false_ne_true
  have hlong : ¬ Builtin.List.listTooLong (its.toArray.size * k.toNat) = true := by
    rw [notLongL hlen]
    exact Bool.false_ne_true
  have hnew : List.foldl (fun x1 x2 => x1 ++ x2) #[] (List.replicate (if its.toArray.isEmpty = true then 0 else k.toNat) its.toArray) = (List.replicate k.toNat its).flatten.toArray := by
    have f0 : ∀ m : Nat, List.foldl (fun x1 x2 => x1 ++ x2) #[] (List.replicate m its.toArray) = (List.replicate m its).flatten.toArray := fun m => by
      have := foldl_rep its m []
      rw [List.nil_append] at this
      exact this
    rw [f0]
    cases its with
    | nil => simp
    | cons a r' => rw [if_neg (by simp)]
  refine wpAny_binaryOp_repeat_ref (T := "list") (U := "int") (by decide) ⟨_, e, rfl⟩ (fun s' => typeIs_int s' k t) noFill_list_mul F.fills_int_mul F.slot_int_rmul repeat_list F.slot_int_index.lookup
    (call_meets F.slot_int_rmul (typeIs_int s k t) F.entry_int_rmul (F.args_int_rmul_2 _ _) (int___rmul___int_list k t l its.toArray n)
      ⟨e, rfl, ⟨_, e, rfl⟩, call_meets F.slot_list_mul ⟨_, e, rfl⟩ F.entry_list_mul (F.args_list_mul_2 _ _) (AutoListH.list___mul___list_int_3 l its.toArray n k t hfit hcap hlong) ⟨e, ?_⟩⟩)
  rw [hnew]
  exact ⟨.ref _, _, I.lnew (t' := s.toks) (r.rep k.toNat) (by rw [len_rep, Nat.mul_comm]; exact hz), rfl, q _ I.fresh⟩

/-! ### del xs[i] -/
end

/-! ### xs[a:b] = ys -/
section
variable {prog : Program} {w : World} {A : Around} {E : Value → Shared → Prop} {s : Shared}
end

section
variable {X : Cx}
end
end L2

namespace Att
open PySem PySem.W PySem.Calls PyProof.Rows

/-! ### the script -/
theorem ints_of_wellAll {P : Params} {h : Heap} : ∀ (ns : List Int) (vs : List Value), WellAll P h vs (ns.map WData.int) → IntsAre vs ns := by
  intro ns
  induction ns with
  | nil =>
    intro vs w
    rw [List.map_nil] at w
    cases w
    exact .nil
  | cons n ns ih =>
    intro vs w
    rw [List.map_cons] at w
    cases w with
    | cons a b =>
      cases a
      exact .cons _ _ (ih _ b)

theorem script_of {l : OpenLaw} {n : Nat} (hn : l.most = some n) {P : Params} {h : Heap} {args : List WData} {vals : List Value}
    (hpre : l.row.toRowW.claim.pre args = true) (hwl : WellAll P h vals args) :
    ∃ a vs ns, vals = [Value.ref a] ∧ args = [WData.list (ns.map WData.int)] ∧ h.get? a = some { cls := .type "list", data := .seq vs.toArray } ∧ IntsAre vs ns ∧ ns.length ≤ n := by
  have hsh : WShape.hasAll [] args [.list .int] = true := (pre_splitW hpre).1
  have hc : l.pre.holds [] { args := args } = true := (pre_splitW hpre).2
  obtain ⟨d, r, rfl, h1, h2⟩ := hasAllW_cons hsh
  obtain rfl := hasAllW_nil h2
  obtain ⟨xs, rfl, h3⟩ := hasW_list h1
  obtain ⟨ns, rfl⟩ := items_int h3
  have hlen : ns.length ≤ n := by
    unfold OpenLaw.pre at hc
    have h4 : (WTm.not (.lt (.lit (.int (n : Int))) (.len (.arg 0)))).holds [] { args := [.list (ns.map .int)] } = true := by
      have h4 := (holds_andW hc).1
      rw [hn] at h4
      exact h4
    have h5 := condW_of h4 (w_not (w_lt w_lit (w_len_list (w_arg rfl))))
    rw [List.length_map] at h5
    refine Nat.le_of_not_lt fun q => ?_
    have q' : (n : Int) < ((ns.length : Nat) : Int) := by omega
    first
      | (rw [decide_eq_true q'] at h5; exact absurd h5 (by decide))
      | (simp at h5; omega)
  cases hwl with
  | cons w1 w2 =>
    cases w2
    cases w1 with
    | list ho hall => exact ⟨_, _, ns, rfl, rfl, ho, ints_of_wellAll ns _ hall, hlen⟩

theorem post_true (l : OpenLaw) (args : List WData) : l.row.toRowW.claim.post args (.bool true) args = true :=
  postW_of (r := l.row.toRowW) (X := (true == true))
    (show WShape.has [] (.bool true) .bool = true by first | rfl | decide | simp [WShape.has, WShape.arms, WShape.armsAll])
    (show (WTm.eq .res (.lit (.bool true))).value [] { args := args, res := some (.bool true), after := args } = some (.bool (true == true)) from w_eq_bool (w_res rfl) w_lit) rfl

/-! ### the attachment: holds_open's last premise (the goal 'hc' behind k_head) from a wpAny of the law's body -/

/-- the same from a codeAny of the CALL (for a layer whose function contracts speak of calls) -/
theorem attach_call {l : OpenLaw} {n : Nat} {q : Program} {loose : List Str} {XP : (Str → Option Value) → Heap → Prop} {YP : World → Heap → Prop} {d : DefRec}
    (hn : l.most = some n) (hdf : d.params.defaults = [])
    (call : ∀ (w : World) (s₀ s₁ : Shared) (mg mb : Str → Option Value) (fa : Addr) (o : Obj) (pm cd doc : Value) (a : Addr) (vs : List Value) (ns : List Int),
      Ground q loose [] XP w s₀ mg mb s₁.heap → YP w s₁.heap →
      s₁.heap.get? fa = some o → o.data = .func (docDef d.name d.params d.body d.scope pm cd doc) → s₁.heap.CodeRec cd d.name → mg d.name = some (.ref fa) →
      s₁.heap.get? a = some { cls := .type "list", data := .seq vs.toArray } → IntsAre vs ns → ns.length ≤ n → s₁.gens = #[] →
      codeAny (model l.prog w) callerA (.call (.ref fa) ⟨[.ref a], []⟩) (fun r s' => r = .ok (.ret (.bool true)) ∧ OldK s₁.heap s'.heap ∧ s'.os = s₁.os ∧ AllBare s'.gens) s₁) :
    WalkO q loose XP YP l.row.toRowW d [] (fun f vs => PySem.call f vs) := by
  intro w s₀ s₁ mg mb G Y fa o pm cd doc dV kV ho hd hcd hD hmg hg args vals as hpre hlay hrd hwl hlo
  obtain rfl : dV = .none := Dflts.none hD hdf
  obtain rfl : kV = .none := Dflts.noKw hD
  obtain ⟨a, vs, ns, rfl, rfl, hobj, hints, hlen⟩ := script_of hn hpre hwl
  refine enter_call (codeAny_mono (call w s₀ s₁ mg mb fa o pm cd doc a vs ns G Y ho (fd_plain hd) hcd hmg hobj hints hlen hg) fun r s' hq => ?_)
  obtain ⟨rfl, h2, h3, h4⟩ := hq
  exact ⟨.inl ⟨.bool true, .bool true, [], rfl, fun _ => rfl, .bool true, post_true l _, fun _ => ⟨List.Pairwise.nil, fun _ hm => (nomatch hm)⟩⟩, h2, h3, h4⟩


/-! ### rules over ANY heap (no ledger) from facts about the written part K: the library's own take a ledger (News) for what they write -/
section
variable {prog : Program} {w : World} {A : Around} {E : Value → Shared → Prop} {s : Shared} {K : Frag}





/-! the whole heap as the ledger: makes every rule that writes through a ledger a rule over any heap -/

end
end Att

namespace L2
open PySem PySem.Spec PyProof.Rows

theorem vals_ints : ∀ {vs : List Value} {ns : List Int}, IntsAre vs ns → Vals (ns.map V.int) vs
  | _, _, .nil => .nil
  | _, _, .cons n t h => .cons ⟨t, rfl⟩ (vals_ints h)


end L2

namespace L2
open PySem PySem.Spec PyProof.Rows


end L2

/- THE LAST THEOREM (shape; LID, My.* are yours):
   My.Adr: a structure of the addresses that your layer names (classes, functions); My.Txt K t: a structure (Prop) of the equations over K;
   My.txt_mk : {K} {implicit addresses ..} (e1 : nsIn K mainGlobals "law" = some (some (.ref f))) (e2 : K.lookup f = some ⟨oc, od, .func (fnOf "law" "law" params body scope dV kV doc pm an cdv ct), sl⟩) (e3 : codeIn K cdv "law" = true) .. : ∃ t, My.Txt K t

set_option maxRecDepth 100000 in
set_option maxHeartbeats 0 in
theorem PySem.Challenge.cw_LID_holds : PySem.Challenge.rw_LID.Holds := by
  w_on; o_law; k_head; (case hw => w_witness2)
  k_fill
  refine L2.walk_of (l := PySem.Challenge.rw_LID) (n := 63) (k := 40) (x := "script") (CX := fun w => ..) (sp := fun _ => My.sp_law) rfl (by decide) rfl ⟨rfl, by decide, by decide⟩ (fun w h Y => PySem.W.kIn_of Y) ?F ?S ?C
  case F =>
    intro w mg fa h KX G hmg
    have T : ∃ t, My.Txt (L2.KOf KX) t := by
      dsimp only [L2.KOf]                          -- K must stand as «<heap const> w.params» for k_is
      refine' My.txt_mk ?e1 ?e2 ?e3 ..
      (case e1 => PySem.W.k_is)                    -- in the order: a name -> its address -> its object -> its parts
      (case e2 => PySem.W.k_is)
      ..
    obtain ⟨t, T⟩ := T
    have e0 := hmg.symm.trans (PySem.W.mg_of KX G T.law)
    cases e0                                       -- fa is the law's own address
    exact ⟨_, fun s u => .of_eq rfl, fun base kb nb => My.law_fn T kb nb⟩     -- if «.of_eq rfl» comes too early: refine' ⟨_, ?b, fun base kb nb => My.law_fn T kb nb⟩; exact fun s u => .of_eq rfl
  case S => exact fun w H a ns hl hO hS => ..
  case C => exact ..
(the tactic k_is has no namespace: write k_is) -/

/-! SHORT WORDS over the layer: a def of the text, its body, what a loop and a test want. -/
namespace L2
open PySem PySem.Spec PyProof.Rows

/-! ### the text by places -/
def defArgs (s : Stmt) : Arguments := match s with
  | .FunctionDef _ a _ _ _ _ _ _ _ _ => a
  | _ => { posonlyargs := [], args := [], vararg := none, kwonlyargs := [], kw_defaults := [], kwarg := none, defaults := [] }
def defBody (s : Stmt) : List Stmt := match s with
  | .FunctionDef _ _ b _ _ _ _ _ _ _ => b
  | _ => []
def defScope (s : Stmt) : Scope := match s with
  | .FunctionDef _ _ _ _ _ _ sc _ _ _ => sc
  | _ => { kind := .function, names := [], isGenerator := false, isCoroutine := false }

/-! ### no exception leaves a def -/
abbrev CX0 : CXT := fun _ _ _ _ _ _ => False
abbrev E0 : XK := fun _ _ _ => False
theorem pass0 {X : Cx} : Passes CX0 X E0 := fun _ _ _ _ _ _ _ h => h.elim

/-! ### a def (or method) of the text as it stands behind the top -/
structure Fun (K : PySem.W.Frag) (x qual : Str) (st : Stmt) (f : Addr) (fd : FuncData) : Prop where
  ex : ∃ (oc : Value) (od : Option Addr) (kV doc pm : Value) (an : Option Addr) (cdv ct : Value) (osl : Array (Option Value)),
    fd = PySem.W.fnOf x qual (defArgs st) (defBody st) (defScope st) .none kV doc pm an cdv ct ∧ K.lookup f = some ⟨oc, od, .func fd, osl⟩ ∧ PySem.W.codeIn K cdv qual = true
  kp : PySem.W.keepIn K (.ref f) = true
section
variable {P : Program} {w : World} {K : PySem.W.Frag} {mg : Str → Option Value} {base : Heap}
/-- THE RULE for a def: its body as a term of rules, and the reading of that term -/
theorem Fun.ok {x qual : Str} {st : Stmt} {f : Addr} {fd : FuncData} {N ps : List Str} {k : Nat} {sp : Sp} (F : Fun K x qual st f fd) (S : FnScope N ps (defScope st)) (len : ∀ vs H Q E, sp vs H Q E → vs.length = ps.length)
    (hbody : ∀ (cdv : Value) (A : Around) (outer : List Env) (s : Shared) (H : Hp) (vs : List V) (Q : VK) (E : XK), Room k (A.deeper (envOfC qual (defScope st) s.heap.objs.size f cdv)) → sp vs H Q E →
      ∃ t, PSs (cxOf CX0 P w K mg base N qual (defScope st) f cdv A outer s H E).nox (defBody st) t ∧ t { nx := fun _ H' => Q .non H', rt := Q } (start N vs) H) : FnOk P w K mg base CX0 (k + 1) f fd ps sp := by
  obtain ⟨oc, od, kV, doc, pm, an, cdv, ct, osl, rfl, lk, hcd⟩ := F.ex
  refine fn_of lk hcd S len fun A outer s H vs Q E hr hsp => ?_
  obtain ⟨t, h, q⟩ := hbody cdv A outer s H vs Q E hr hsp
  exact ⟨t, h.nox, q⟩
/-- how its arguments bind (no defaults): h is «fun _ _ _ _ _ _ us hl => match us, hl with | [_, _], _ => rfl», one _ a parameter -/
theorem Fun.binds {x qual : Str} {st : Stmt} {f : Addr} {fd : FuncData} {ps : List Str} (F : Fun K x qual st f fd)
    (h : ∀ (kV doc pm : Value) (an : Option Addr) (cdv ct : Value) (us : List Value), us.length = ps.length → bindArgs (PySem.W.fnOf x qual (defArgs st) (defBody st) (defScope st) .none kV doc pm an cdv ct) ⟨us, []⟩ = pure (ps.zip us)) : Binds K fd ps [] := by
  obtain ⟨oc, od, kV, doc, pm, an, cdv, ct, osl, rfl, lk, hcd⟩ := F.ex
  exact .all (h kV doc pm an cdv ct)
theorem fun_mk {x qual : Str} {st : Stmt} {f : Addr} {oc : Value} {od an : Option Addr} {osl : Array (Option Value)} {kV doc pm cdv ct : Value} (l : K.lookup f = some ⟨oc, od, .func (PySem.W.fnOf x qual (defArgs st) (defBody st) (defScope st) .none kV doc pm an cdv ct), osl⟩)
    (c : PySem.W.codeIn K cdv qual = true) (k : PySem.W.keepIn K (.ref f) = true) : Fun K x qual st f (PySem.W.fnOf x qual (defArgs st) (defBody st) (defScope st) .none kV doc pm an cdv ct) := ⟨⟨oc, od, kV, doc, pm, an, cdv, ct, osl, rfl, l, c⟩, k⟩
end
theorem hu_of {A : Around} {k : Nat} (hr : Room k A) : A.units + 1 < cLine := Nat.lt_of_le_of_lt (Nat.add_le_add_left (by decide : 1 ≤ 64) _) hr.units

/-! ### expressions in short: the name that stands in the i-th slot -/
section
variable {X : Cx}
theorem pv (i : Nat) {x : Str} {pos : Pos} (hN : X.N[i]? = some x := by rfl) (hv : Vis X.env.scope x := by first | exact Or.inl rfl | exact Or.inr (Or.inl rfl) | exact Or.inr (Or.inr rfl)) (hd : (x == ("__debug__" : Str)) = false := by decide)
    (hcd : (x == ("__classdict__" : Str)) = false := by decide) : PE X (.Name x pos) (tVar i) := pe_var hN hv hd hcd
end

/-! ### tests -/
theorem iteF {A B : Prop} (h : B) : if false = true then A else B := by
  rw [if_neg Bool.false_ne_true]
  exact h
theorem iteT {A B : Prop} (h : A) : if true = true then A else B := by
  rw [if_pos rfl]
  exact h
theorem ite2 {c A B : Prop} [Decidable c] (h1 : c → A) (h2 : ¬ c → B) : if c then A else B := by
  by_cases h : c
  · rw [if_pos h]
    exact h1 h
  · rw [if_neg h]
    exact h2 h
theorem iteNS {c A B : Prop} [Decidable c] (hc : c) (h : B) : if (!decide c) = true then A else B := by
  rw [decide_eq_true hc]
  exact iteF h

/-! ### heaps -/
/-- all that was tracked is as it was -/
def Same (H H' : Hp) : Prop := ∀ b o, H b = some o → H' b = some o
theorem Same.refl (H : Hp) : Same H H := fun _ _ h => h
theorem Same.trans {H H1 H2 : Hp} (a : Same H H1) (b : Same H1 H2) : Same H H2 := fun c o h => b c o (a c o h)
theorem Same.free {H H' : Hp} (e : Same H H') {l : Addr} (h : H' l = Option.none) : H l = Option.none := by
  cases q : H l with
  | none => rfl
  | some o =>
    rw [e l o q] at h
    cases h

end L2

set_option Elab.async false
set_option linter.all false
set_option maxRecDepth 100000
/-! A comprehension of lists, one clause, any target, at most one test: by the hand layer's judgements. -/
namespace L2
open PySem PySem.Spec PyProof.Rows

/-! ### the closure -/
def clOf (cells : List (Str × Addr)) : List (Str × NameKind) → List (Str × Addr) → List (Str × Addr)
  | [], acc => acc
  | (n, k) :: r, acc => clOf cells r (if k = .free then (n, (cells.lookup n).getD 0) :: acc else acc)
theorem clos_loop {env : Env} : ∀ (l : List (Str × NameKind)) (acc : List (Str × Addr)), (∀ p ∈ l, p.2 = NameKind.free → (env.cells.lookup p.1).isSome = true) →
    (forIn l acc fun (x : Str × NameKind) (r : List (Str × Addr)) => (if (x.2 == NameKind.free) = true then do let a ← cellOf env x.1; pure (ForInStep.yield ((x.1, a) :: r)) else pure (ForInStep.yield r) : Sem (ForInStep (List (Str × Addr))))) = pure (clOf env.cells l acc)
  | [], acc, _ => rfl
  | (n, k) :: r, acc, h => by
    rw [List.forIn_cons]
    have ih := fun a => clos_loop (env := env) r a fun p hp => h p (List.mem_cons_of_mem _ hp)
    by_cases hk : k = .free
    · subst hk
      have hs := h (n, .free) List.mem_cons_self rfl
      obtain ⟨c, hc⟩ := Option.isSome_iff_exists.mp hs
      have e1 : cellOf env n = pure c := by unfold cellOf; rw [show env.cells.lookup n = some c from hc]
      have e2 : clOf env.cells ((n, .free) :: r) acc = clOf env.cells r ((n, c) :: acc) := by
        show clOf env.cells r (if NameKind.free = NameKind.free then (n, (env.cells.lookup n).getD 0) :: acc else acc) = _
        rw [if_pos rfl, show env.cells.lookup n = some c from hc]
        rfl
      rw [e2]
      simp only [beq_self_eq_true, if_true, e1, pure_bind]
      exact ih _
    · have hb : (k == NameKind.free) = false := by simpa using hk
      have e2 : clOf env.cells ((n, k) :: r) acc = clOf env.cells r acc := by
        show clOf env.cells r (if k = NameKind.free then _ else acc) = _
        rw [if_neg hk]
      rw [e2]
      simp only [hb, Bool.false_eq_true, if_false, pure_bind]
      exact ih _
theorem clos_eq {scope : Scope} {env : Env} (h : ∀ p ∈ scope.names, p.2 = NameKind.free → (env.cells.lookup p.1).isSome = true) : closureFor scope env = pure (clOf env.cells scope.names []) := by
  have e := clos_loop (env := env) scope.names [] h
  unfold closureFor
  simp only [bind_pure]
  exact e
theorem clOf_sub {cells : List (Str × Addr)} {x : Str} {c : Addr} : ∀ (l : List (Str × NameKind)) (acc : List (Str × Addr)), (∀ p ∈ l, p.2 = NameKind.free → (cells.lookup p.1).isSome = true) → (clOf cells l acc).lookup x = some c →
    acc.lookup x = some c ∨ cells.lookup x = some c
  | [], _, _, h => .inl h
  | (n, k) :: r, acc, hf, h => by
    have h' : (clOf cells r (if k = .free then (n, (cells.lookup n).getD 0) :: acc else acc)).lookup x = some c := h
    rcases clOf_sub r _ (fun p hp => hf p (List.mem_cons_of_mem _ hp)) h' with e | e
    · by_cases hk : k = .free
      · rw [if_pos hk] at e
        obtain ⟨d, hd⟩ := Option.isSome_iff_exists.mp (hf (n, k) List.mem_cons_self hk)
        rw [show cells.lookup n = some d from hd] at e
        rw [List.lookup_cons] at e
        cases hx : x == n with
        | true =>
          rw [hx] at e
          have : x = n := by simpa using hx
          subst this
          exact .inr (hd.trans (by simpa using e))
        | false =>
          rw [hx] at e
          exact .inl e
      · rw [if_neg hk] at e
        exact .inl e
    · exact .inr e
theorem clOf_has {cells : List (Str × Addr)} {x : Str} : ∀ (l : List (Str × NameKind)) (acc : List (Str × Addr)), ((∃ k, (x, k) ∈ l ∧ k = NameKind.free) ∨ (∃ c, acc.lookup x = some c)) → ∃ c, (clOf cells l acc).lookup x = some c
  | [], _, h => by
    rcases h with ⟨k, hk, _⟩ | h
    · exact absurd hk (by simp)
    · exact h
  | (n, k) :: r, acc, h => by
    show ∃ c, (clOf cells r (if k = .free then (n, (cells.lookup n).getD 0) :: acc else acc)).lookup x = some c
    refine clOf_has r _ ?_
    rcases h with ⟨k', hk, e⟩ | ⟨c, hc⟩
    · rcases List.mem_cons.mp hk with z | z
      · cases z
        refine .inr ?_
        rw [if_pos e]
        exact ⟨_, by rw [List.lookup_cons, beq_self_eq_true]⟩
      · exact .inl ⟨k', z, e⟩
    · refine .inr ?_
      by_cases hk : k = .free
      · rw [if_pos hk, List.lookup_cons]
        cases hx : x == n with
        | true => exact ⟨_, rfl⟩
        | false => exact ⟨c, hc⟩
      · rw [if_neg hk]
        exact ⟨c, hc⟩
theorem relabel_mem {scope : Scope} {env : Env} {x : Str} {k : NameKind} (hc : ∀ p ∈ scope.names, p.2 ≠ NameKind.cell) (h : (relabel scope env).names.lookup x = some k) (hk : k = .cell ∨ k = .free) : ∃ k', (x, k') ∈ scope.names ∧ k' = NameKind.free := by
  have m := PySem.mem_of_lookup h
  obtain ⟨⟨n, k0⟩, hm, e⟩ := List.mem_map.mp m
  dsimp only at e
  split at e
  · rename_i c
    cases e
    have : (k0 == NameKind.free) = true := by
      cases q : (k0 == NameKind.free) with
      | true => rfl
      | false => rw [q] at c; simp at c
    exact ⟨k0, hm, by simpa using this⟩
  · cases e
    rcases hk with z | z
    · exact absurd z (hc _ hm)
    · exact ⟨_, hm, z⟩

/-! ### the block's context -/
def cxC (X : Cx) (scope : Scope) (Nc : List Str) (C : Addr) (fp : List Addr) (pins : List (Addr × Obj)) (s₂ : Shared) (H₂ : Hp) : Cx where
  prog := X.prog
  w := X.w
  K := X.K
  mg := X.mg
  base := X.base
  A := X.A
  N := Nc
  s₀ := s₂
  H₀ := H₂
  env := compEnvC scope (clOf X.env.cells scope.names []) C X.env
  outer := X.stack
  stack := X.stack
  ex := fp
  fn := fun _ => false
  calm := X.calm
  pn := X.pn ++ pins
  xe := fun _ _ => False
/-- which names of the block stand for which slots of the def -/
def Caps (X : Cx) (env' : Env) : List Str → List (Option Nat) → Prop
  | [], [] => True
  | _ :: N, none :: r => Caps X env' N r
  | x :: N, some i :: r => (X.N[i]? = some x ∧ (X.env.kindOf x = some .cell ∨ X.env.kindOf x = some .free) ∧ env'.cells.lookup x = X.env.cells.lookup x ∧ (env'.kindOf x = some .cell ∨ env'.kindOf x = some .free)) ∧ Caps X env' N r
  | _, _ => False
def capσ (σ : St) (src : List (Option Nat)) : St := src.map fun o => match o with | none => none | some i => (σ[i]?).join
theorem Caps.len {X : Cx} {env' : Env} : ∀ {N : List Str} {src : List (Option Nat)}, Caps X env' N src → src.length = N.length
  | [], [], _ => rfl
  | [], _ :: _, h => h.elim
  | _ :: _, [], h => h.elim
  | _ :: N, none :: r, h => by
    have h' : Caps X env' N r := h
    have := Caps.len (N := N) (src := r) h'
    simp [this]
  | _ :: N, some _ :: r, h => by
    have := Caps.len (N := N) (src := r) h.2
    simp [this]
theorem Caps.get {X : Cx} {env' : Env} {x : Str} : ∀ {N : List Str} {src : List (Option Nat)} {j i : Nat}, Caps X env' N src → N[j]? = some x → src[j]? = some (some i) →
    X.N[i]? = some x ∧ (X.env.kindOf x = some .cell ∨ X.env.kindOf x = some .free) ∧ env'.cells.lookup x = X.env.cells.lookup x ∧ (env'.kindOf x = some .cell ∨ env'.kindOf x = some .free)
  | [], [], _, _, _, e, _ => by simp at e
  | [], _ :: _, _, _, h, _, _ => h.elim
  | _ :: _, [], _, _, h, _, _ => h.elim
  | _ :: _, none :: _, 0, _, _, _, e => by simp at e
  | _ :: N, none :: r, j + 1, _, h, e1, e2 => by
    have h' : Caps X env' N r := h
    exact Caps.get (N := N) (src := r) (j := j) h' (by simpa using e1) (by simpa using e2)
  | _ :: _, some _ :: _, 0, _, h, e1, e2 => by
    simp at e1 e2
    subst e1 e2
    exact h.1
  | _ :: _, some _ :: _, j + 1, _, h, e1, e2 => Caps.get (j := j) h.2 (by simpa using e1) (by simpa using e2)

/-- what a block's scope must be (checked by computing) -/
structure CScope (X : Cx) (scope : Scope) : Prop where
  kind : scope.kind = .function
  cell : scope.names.all (fun p => p.2 != .cell) = true
  names : scope.names.all (fun p => p.2 != .local || scope.names.lookup p.1 == some .local) = true
  free : scope.names.all (fun p => p.2 != .free || (X.env.cells.lookup p.1).isSome) = true
section
variable {X : Cx} {scope : Scope}
theorem CScope.hcell (S : CScope X scope) : ∀ p ∈ scope.names, p.2 ≠ NameKind.cell := fun p hp => by
  have := List.all_eq_true.mp S.cell p hp
  simpa using this
theorem CScope.hnames (S : CScope X scope) : ∀ p ∈ scope.names, p.2 = .local → scope.names.lookup p.1 = some .local := fun p hp e => by
  have := List.all_eq_true.mp S.names p hp
  simpa [e] using this
theorem CScope.hfree (S : CScope X scope) : ∀ p ∈ scope.names, p.2 = NameKind.free → (X.env.cells.lookup p.1).isSome = true := fun p hp e => by
  have := List.all_eq_true.mp S.free p hp
  simpa [e] using this
end

/-- several tests (none or one) -/
def PTs (X : Cx) (ifs : List Expr) (t : TT) : Prop :=
  ∀ (pins : List (Addr × Obj)) (s : Shared) (σ : St) (H : Hp) (Q : Bool → Hp → Prop), Inv X pins σ H s → t σ H Q →
    wpAny (model X.prog X.w) X.A (forIn ifs true fun c r => if r = true then do let ok ← isTrue c X.env (eval c X.env); pure (ForInStep.yield ok) else pure (ForInStep.yield r)) (TP X pins σ Q) X.xe s
def tYes : TT := fun _ H Q => Q true H
theorem pts_nil {X : Cx} : PTs X [] tYes := fun _ _ _ H _ I h => wpAny_tests_nil ⟨H, I, h⟩

/-- the loop of a comprehension, with the step that lets an owned tuple go -/
theorem compLoop_any {prog : Program} {w : World} {A : Around} {R : Result → Shared → Prop} {s : Shared} {elt target iter : Expr} {ifs : List Expr} {scope : Scope} {pos : Pos} {it acc : Value} {env : Env} (I : Nat → Shared → Prop)
    (turn : ∀ n s, I n s → wpAny (model prog w) A (pyNext it) (fun r s₁ => match r with
      | none => R (.ok .next) s₁
      | some v => wpAny (model prog w) A (letOwnedTupleGo target it v) (fun _ s₁' => wpAny (model prog w) A (assign target env v) (fun _ s₂ =>
          wpAny (model prog w) A (forIn ifs true fun c r => if r = true then do let ok ← isTrue c env (eval c env); pure (ForInStep.yield ok) else pure (ForInStep.yield r)) (fun ok s₃ =>
            if ok = true then wpAny (model prog w) A (eval elt env) (fun x s₄ =>
              wpAny (model prog w) A (call (.builtin "list.append") [acc, x]) (fun _ s₅ => ∃ m, m < n ∧ I m s₅) (fun _ _ => False) s₄) (fun _ _ => False) s₃
            else ∃ m, m < n ∧ I m s₃) (fun _ _ => False) s₂) (fun _ _ => False) s₁') (fun _ _ => False) s₁) (fun _ _ => False) s)
    (n : Nat) (h : I n s) :
    codeAny (model prog w) A (.compLoop (.ListComp elt [⟨target, iter, ifs, 0⟩] scope pos) 0 it acc env) R s := by
  refine codeAny_loop rfl I (fun n s hI => ?_) n h
  show wpAny _ A ((compTurn (.ListComp elt [⟨target, iter, ifs, 0⟩] scope pos) 0 it acc env).onRaise (fun x => do noteFrame x env; theTreesLotGoes x)) _ _ s
  refine wpAny_noted ?_
  rw [compTurn_list]
  refine wpAny_bind (wpAny_standAt (wpAny_bind (wpAny_mono (turn n s hI) (fun r s₁ h₁ => ?_) fun _ _ h' => h'.elim)))
  cases r with
  | none => exact wpAny_pure h₁
  | some v =>
    refine wpAny_bind (wpAny_mono h₁ (fun _ s₁' h₁' => ?_) fun _ _ h' => h'.elim)
    refine wpAny_bind (wpAny_mono h₁' (fun _ s₂ h₂ => wpAny_bind (wpAny_mono h₂ (fun ok s₃ h₃ => ?_) fun _ _ h' => h'.elim)) fun _ _ h' => h'.elim)
    cases ok with
    | false => exact wpAny_pure ⟨rfl, h₃⟩
    | true =>
      exact wpAny_bind (wpAny_bind (wpAny_mono h₃ (fun x s₄ h₄ => wpAny_bind (wpAny_mono h₄ (fun _ s₅ h₅ => wpAny_pure (wpAny_pure ⟨rfl, h₅⟩)) fun _ _ h' => h'.elim)) fun _ _ h' => h'.elim))

/-! ### the loop -/
/-- W: the invariant by the turn, a measure, what is collected, the block's names, the heap -/
def CompW (J : It) (g : TG) (tt : TT) (te : TE) (Fin : List V → Hp → Prop) (σ0 : St) (H0 : Hp) : Prop :=
  ∃ W : Nat → Nat → List V → St → Hp → Prop, (∃ m, W 0 m [] σ0 H0) ∧ ∀ i m ys σ H, W i m ys σ H → ys.length < sizeLine ∧
    ((J.stop i H ∧ Fin ys H) ∨ (J.go i H ∧ ∀ x H', J.yld i H x H' → g x σ H' fun σ2 H2 => tt σ2 H2 fun b H3 =>
      if b = true then te σ2 H3 fun y H4 => ∃ m', m' < m ∧ W (i + 1) m' (ys ++ [y]) σ2 H4 else ∃ m', m' < m ∧ W (i + 1) m' ys σ2 H3))

theorem comp_core {X : Cx} {tg iter elt : Expr} {ifs : List Expr} {scope : Scope} {pos : Pos} {Nc : List Str} {src : List (Option Nat)} {g : TG} {tt : TT} {te : TE} (hc : X.calm = true) (S : CScope X scope)
    (hcaps : ∀ C, Caps X (compEnvC scope (clOf X.env.cells scope.names []) C X.env) Nc src)
    (hb : ∀ C fp pins s₂ H₂, PG (cxC X scope Nc C fp pins s₂ H₂) tg g ∧ PTs (cxC X scope Nc C fp pins s₂ H₂) ifs tt ∧ PE (cxC X scope Nc C fp pins s₂ H₂) elt te)
    {pins : List (Addr × Obj)} {s₂ : Shared} {σ : St} {H₂ : Hp} {it : Addr} {fp : List Addr} {tn : Nat → Heap → Prop} {J : It} (I₂ : Inv X pins σ H₂ s₂) (T : Turn X.prog X.w X.K tg J fp it tn) (st : tn 0 s₂.heap) (hf : ∀ b ∈ fp, FpOk X pins H₂ b)
    {Fin : List V → Hp → Prop} (hW : CompW J g tt te Fin (capσ σ src) H₂) {RR : Value → Addr → Result → Shared → Prop} {E : Value → Shared → Prop}
    (hRR : ∀ D C s' ys H' m, Fin ys H' → H' D = none → Inv X pins σ (upd H' D (.lst ys)) s' → s'.heap.Ns C m → FpOk X pins (upd H' D (.lst ys)) C → RR (.ref D) C (.ok .next) s') :
    wpAny (model X.prog X.w) X.A (newList []) (fun acc s₃ => wpAny (model X.prog X.w) X.A (newFunctionEnv scope X.env.globals (clOf X.env.cells scope.names []) [] X.env.qual none .none (some X.env)) (fun cenv s₄ =>
      codeAny (model X.prog X.w) X.A (.compStart (.ListComp elt [⟨tg, iter, ifs, 0⟩] scope pos) 0 (.ref it) acc { cenv with scope := relabel scope X.env }) (RR acc cenv.locals) s₄) E s₃) E s₂ := by
  refine wpAny_newObj_type (wpAny_newFunctionEnv S.hcell (by intro y hy; simp at hy) (fun h₁ hns₁ hsb₁ => ?_) S.kind)
  dsimp only at hns₁ hsb₁ ⊢
  generalize hH2 : s₂.heap.push { cls := .type "list", dict := none, data := .seq ([] : List Value).toArray } = HH at hns₁ hsb₁ ⊢
  generalize hDD : s₂.heap.objs.size = D at hns₁ hsb₁ ⊢
  have hC : HH.objs.size = D + 1 := by rw [← hH2, Heap.size_push, hDD]
  generalize hCC : HH.objs.size = C at hns₁ hsb₁ hC ⊢
  have hDC : D ≠ C := by omega
  have below : ∀ b, b < s₂.heap.objs.size → b ≠ C ∧ b ≠ D := fun b hb => by rw [hDD] at hb; exact ⟨by rw [hC]; exact Nat.ne_of_lt (Nat.lt_succ_of_lt hb), Nat.ne_of_lt hb⟩
  have belowO : ∀ {b o}, s₂.heap.get? b = some o → b ≠ C ∧ b ≠ D := fun {b o} e => below b (Heap.lt_size e)
  have old : ∀ b o, s₂.heap.get? b = some o → h₁.get? b = some o := fun b o e => hsb₁.extBut b o (belowO e).1 (Heap.get?_push_of_some _ (hH2 ▸ Heap.get?_push_of_some _ e))
  have hacc : h₁.get? D = some { cls := .type "list", data := .seq ([] : List Value).toArray } := hsb₁.extBut _ _ hDC (Heap.get?_push_of_some _ (hH2 ▸ hDD ▸ Heap.get?_push_size _ rfl))
  have fpO : ∀ b ∈ fp, ∃ o, s₂.heap.get? b = some o := fun b hb => let ⟨o, e, _⟩ := T.obj _ _ st b hb; ⟨o, e⟩
  have fpC : ∀ b ∈ fp, b ≠ C ∧ b ≠ D := fun b hb => let ⟨o, e⟩ := fpO b hb; belowO e
  have sub : ∀ {x c}, (clOf X.env.cells scope.names []).lookup x = some c → X.env.cells.lookup x = some c := fun {x c} e => by
    rcases clOf_sub scope.names [] S.hfree e with z | z
    · simp at z
    · exact z
  have ltD : ∀ {b o}, s₂.heap.get? b = some o → b < D := fun {b o} e => by rw [← hDD]; exact Heap.lt_size e
  have fresh : ∀ a, D ≤ a → H₂ a = none := fun a ha => I₂.hok.fresh (by rw [hDD]; exact ha)
  have cellO : ∀ {x c}, X.env.cells.lookup x = some c → ∃ o, s₂.heap.get? c = some o := fun {x c} e => let ⟨v, o, ho, _⟩ := I₂.cell x c e; ⟨o, ho⟩
  have stkC : ∀ b ∈ frs X.stack, ∃ o, s₂.heap.get? b = some o := fun b hb => by
    rcases List.mem_cons.mp (I₂.stkSub b hb) with e | hb
    · rw [e]
      obtain ⟨m, ⟨o, _, _, ho, _⟩, _⟩ := I₂.loc
      exact ⟨o, ho⟩
    · obtain ⟨_, o, ho, _⟩ := I₂.funs.mem hb
      exact ⟨o, ho⟩
  have nstk : ∀ a, D ≤ a → a ∉ frs X.stack := fun a ha hb => by
    obtain ⟨o, e⟩ := stkC a hb
    exact absurd (Nat.lt_of_lt_of_le (ltD e) ha) (Nat.lt_irrefl _)
  have fpS : ∀ b ∈ fp, b ∉ frs X.stack := fun b hb z => by
    obtain ⟨_, f1, f2, _⟩ := hf b hb
    rcases List.mem_cons.mp (I₂.stkSub b z) with e | e
    · exact f1 e
    · exact f2 e
  -- the block's context
  generalize hX' : cxC X scope Nc C fp pins s₂ H₂ = X'
  obtain ⟨hg, ht, he⟩ := hb C fp pins s₂ H₂
  rw [hX'] at hg ht he
  have ok' : X'.Ok := by
    subst hX'
    refine ⟨I₂.ok.mod, S.kind, I₂.ok.glob, I₂.ok.blt, ?_, ?_, ?_, ?_, I₂.ok.hd, I₂.ok.frames, .inl rfl, ?_, I₂.bs, Nat.le_trans I₂.ok.bsz I₂.sz, ?_, fpS, I₂.stack, I₂.stkFree⟩
    · show s₂.heap.objs.size ≤ C
      omega
    · exact fun x y c e1 e2 => I₂.ok.inj x y c (sub e1) (sub e2)
    · intro x hx
      have hx : (relabel scope X.env).names.lookup x = some .cell ∨ (relabel scope X.env).names.lookup x = some .free := hx
      have : ∃ k', (x, k') ∈ scope.names ∧ k' = NameKind.free := by
        rcases hx with z | z
        · exact relabel_mem S.hcell z (.inl rfl)
        · exact relabel_mem S.hcell z (.inr rfl)
      exact clOf_has scope.names [] (.inl this)
    · intro x c z
      exact absurd z (by show ¬ (false = true); simp)
    · intro b hb
      exact ⟨(fpC b hb).1, fun x c e => (hf b hb).2.2.2.2.1 x c (sub e)⟩
    · intro b o e hb
      obtain ⟨_, _, _, f3, _⟩ := hf b hb
      rcases f3 with z | z
      · exact I₂.ok.noex b o e z
      · exact absurd (Nat.lt_of_lt_of_le (Heap.lt_size (I₂.ok.bs b o e).1) z) (Nat.lt_irrefl _)
  have eP : X'.prog = X.prog := by subst hX'; rfl
  have ew : X'.w = X.w := by subst hX'; rfl
  have eK : X'.K = X.K := by subst hX'; rfl
  have eA : X'.A = X.A := by subst hX'; rfl
  have eE : X'.xe = fun _ _ => False := by subst hX'; rfl
  have eL : X'.env.locals = C := by subst hX'; rfl
  have eN : X'.env = compEnvC scope (clOf X.env.cells scope.names []) C X.env := by subst hX'; rfl
  have ec : X'.calm = true := by subst hX'; exact hc
  have eS : X'.s₀ = s₂ := by subst hX'; rfl
  have eH : X'.H₀ = H₂ := by subst hX'; rfl
  have ef : X'.fs = frs X.stack := by subst hX'; rfl
  have ex : X'.ex = fp := by subst hX'; rfl
  have ep : X'.pn = X.pn ++ pins := by subst hX'; rfl
  have I0 : Inv X' [] (capσ σ src) H₂ { s₂ with heap := h₁, toks := s₂.toks + ([] : List (Str × Value)).length } := by
    refine ⟨ok', by rw [eS], I₂.bare, by rw [eS, eH]; exact Un.kept old, ⟨_, by rw [eL]; exact hns₁, ?_⟩, ?_, by rw [eL]; exact fresh _ (by omega), ?_, ?_, by rw [eP, ew]; exact I₂.hok.kept old, ?_⟩
    · intro j x v e1 e2 e3
      have e1 : Nc[j]? = some x := by subst hX'; exact e1
      have e4 : ∃ i, src[j]? = some (some i) ∧ (σ[i]?).join = some v := by
        unfold capσ at e2
        rw [List.getElem?_map] at e2
        cases q : src[j]? with
        | none => rw [q] at e2; cases e2
        | some o =>
          rw [q] at e2
          cases o with
          | none => simp at e2
          | some i => exact ⟨i, rfl, by simpa using e2⟩
      obtain ⟨i, e5, e6⟩ := e4
      obtain ⟨c1, c2, c3, c4⟩ := (hcaps C).get e1 e5
      have e7 : σ[i]? = some (some v) := by
        cases q : σ[i]? with
        | none => rw [q] at e6; simp at e6
        | some o => rw [q] at e6; simp at e6; rw [e6]
      obtain ⟨m, _, hl⟩ := I₂.loc
      obtain ⟨u, r, l⟩ := hl i x v c1 e7 (.inr (by rcases c2 with z | z; exact .inl z; exact .inr z))
      refine ⟨u, r, ?_⟩
      rcases l with ⟨k, _⟩ | ⟨_, c, e, z⟩
      · rcases c2 with c2 | c2 <;> (rw [k] at c2; cases c2)
      · refine .inr ⟨by rw [eN]; exact c4, c, by rw [eN]; exact c3.trans e, ?_⟩
        obtain ⟨o, ho, hd⟩ := z
        exact ⟨o, old c o ho, hd⟩
    · intro x c e
      rw [eN] at e
      obtain ⟨v, o, ho, hd⟩ := I₂.cell x c (sub e)
      exact ⟨v, o, old c o ho, hd⟩
    · intro x c e
      rw [eN] at e
      exact I₂.freeC x c (sub e)
    · intro p hp
      rw [ep, List.append_nil] at hp
      obtain ⟨e, n, ne, nf, d⟩ := I₂.pin p hp
      refine ⟨old _ _ e, n, by rw [eL]; exact (belowO e).1, ?_, d⟩
      rw [ef]
      intro z
      rcases List.mem_cons.mp (I₂.stkSub _ z) with q | q
      · exact ne q
      · exact nf q
    · have := (hcaps C).len
      subst hX'
      show (capσ σ src).length = Nc.length
      unfold capσ
      rw [List.length_map, this]
  -- the iterator's objects, the collected list
  have pnD : ∀ p ∈ X'.pn, p.1 ≠ D := fun p hp => by
    rw [ep] at hp
    exact (belowO (I₂.pin p hp).1).2
  have cellD : ∀ x c, X'.env.cells.lookup x = some c → c ≠ D := fun x c e => by
    rw [eN] at e
    obtain ⟨o, ho⟩ := cellO (sub e)
    exact (belowO ho).2
  have fpk : ∀ {P : List (Addr × Obj)} {H : Hp}, (∀ p ∈ P, p.1 = D) → (∀ b ∈ fp, H b = none) → ∀ b ∈ fp, FpOk X' P H b := fun {P H} hP hn b hb => by
    refine ⟨hn b hb, by rw [eL]; exact (fpC b hb).1, by rw [ef]; exact fpS b hb, .inl (by rw [ex]; exact hb), fun x c e => ?_, fun p hp => ?_⟩
    · rw [eN] at e
      exact (hf b hb).2.2.2.2.1 x c (sub e)
    · rcases List.mem_append.mp hp with z | z
      · rw [ep] at z
        exact (hf b hb).2.2.2.2.2 p z
      · rw [hP p z]
        exact (fpC b hb).2.symm
  obtain ⟨W, ⟨m0, w0⟩, step⟩ := hW
  have loop : ∀ s₃ : Shared, s₃ = { s₂ with heap := h₁, toks := s₂.toks + ([] : List (Str × Value)).length } →
      codeAny (model X.prog X.w) X.A (.compLoop (.ListComp elt [⟨tg, iter, ifs, 0⟩] scope pos) 0 (.ref it) (.ref D) (compEnvC scope (clOf X.env.cells scope.names []) C X.env)) (RR (.ref D) C) s₃ := by
    rintro s₃ rfl
    refine compLoop_any (fun n s' => ∃ i ys us k σ' H', Inv X' [] σ' H' s' ∧ tn i s'.heap ∧ (∀ b ∈ fp, H' b = none) ∧ H' D = none ∧ s'.heap.get? D = some { cls := .type "list", data := .seq (List.toArray us) k } ∧ Vals ys us ∧ W i n ys σ' H') ?_ m0
      ⟨0, [], [], _, _, _, I0, T.keep _ _ _ st fun b _ o e => old b o e, fun b hb => (hf b hb).1, fresh _ (Nat.le_refl _), hacc, .nil, w0⟩
    rintro n s3 ⟨i, ys, us, k, σ3, H3, I3, st3, fr3, nD3, oD3, rv3, w3⟩
    obtain ⟨hsz, cases3⟩ := step i n ys σ3 H3 w3
    have I3' : Inv X' [(D, { cls := .type "list", data := .seq us.toArray k })] σ3 H3 s3 := I3.pins_of fun p hp => by
      rw [List.mem_singleton.mp hp]
      exact ⟨oD3, nD3, by rw [eL]; exact hDC, by rw [ef]; exact nstk _ (Nat.le_refl _), fun v z => by cases z⟩
    have oneD : ∀ p ∈ [(D, ({ cls := .type "list", data := .seq us.toArray k } : Obj))], p.1 = D := fun p hp => by rw [List.mem_singleton.mp hp]
    rcases cases3 with ⟨stop, fin⟩ | ⟨go, turn⟩
    · -- the end
      have hd := T.done X' eP ew eK ec i _ s3 σ3 H3 (fun _ _ => False) I3' (fpk oneD fr3) st3 stop
      rw [eA] at hd
      refine thn hd fun r s4 ⟨hr, I4⟩ => ?_
      subst hr
      have pD := I4.pin (D, { cls := .type "list", data := .seq us.toArray k }) (List.mem_append_right _ (List.mem_singleton.mpr rfl))
      obtain ⟨mC, hnC, _⟩ := I4.loc
      rw [eL] at hnC
      have un4 := I4.base
      rw [eS, eH, ef, ex] at un4
      have hlen : ys.length ≤ sizeLine := Nat.le_of_lt hsz
      have hok4 : HOk X.prog X.w (upd H3 D (.lst ys)) s4.heap := fun b u e => by
        by_cases hb : b = D
        · subst hb
          rw [upd_same] at e
          cases e
          exact ⟨hlen, us, k, rv3, pD.1⟩
        · rw [upd_ne hb] at e
          have z := I4.hok b u e
          rw [eP, ew] at z
          exact z.stay (fun c v _ q => q) (fun c q => by rw [upd_ne (ne_of_none q nD3)]; exact q) fun c xs q => by rw [upd_ne (ne_of_none q nD3)]; exact q
      have un : Un (frs X.stack) fp H₂ (upd H3 D (.lst ys)) s₂.heap s4.heap := ⟨un4.keep, un4.slot, fun b o e n hx => by rw [upd_ne (belowO e).2]; exact un4.free b o e n hx, un4.there,
        fun b xs e => by
          have z := un4.tups b xs e
          rw [upd_ne (ne_of_none z nD3)]; exact z,
        fun b o u e => by
          have z := un4.frzs b o u e
          rw [upd_ne (ne_of_none z nD3)]; exact z,
        fun b ps e => by
          obtain ⟨mo, z⟩ := un4.tbls b ps e
          exact ⟨mo, by rw [upd_ne (ne_of_none z nD3)]; exact z⟩⟩
      have J4 : Inv X pins σ (upd H3 D (.lst ys)) s4 := I₂.call' (ch := fp) (by have := I4.os; rw [eS] at this; exact this) un hok4 I4.bare fun b hb => by
        obtain ⟨_, f1, f2, f3, f4, f5⟩ := hf b hb
        exact ⟨f3, f1, f4, f5⟩
      refine hRR D C s4 ys H3 mC fin nD3 J4 hnC ⟨?_, ?_, ?_, .inr ?_, ?_, ?_⟩
      · rw [upd_ne hDC.symm]
        have := I4.free
        rw [eL] at this
        exact this
      · have := I₂.lt
        rw [hDD] at this
        exact Nat.ne_of_gt (Nat.lt_of_lt_of_le this (by rw [hC]; exact Nat.le_succ _))
      · intro z
        obtain ⟨_, o, ho, _⟩ := I₂.funs.mem z
        exact (belowO ho).1 rfl
      · have := I₂.sz
        rw [hDD] at this
        omega
      · intro x c e z
        obtain ⟨o, ho⟩ := cellO e
        exact (belowO ho).1 z
      · intro p hp z
        exact (belowO (I₂.pin p hp).1).1 z
    · -- a turn
      have hd := T.item X' eP ew eK ec i _ s3 σ3 H3 (fun _ _ => False) I3' (fpk oneD fr3) st3 go
      rw [eA] at hd
      refine thn hd fun r s4 ⟨u, hr, h4⟩ => ?_
      subst hr
      refine thn h4 fun _ s5 ⟨x, H5, I5, r5, y5, st5, fr5⟩ => ?_
      have I5' := I5.pinned (fpk oneD fr5) (T.obj _ _ st5)
      have hg' := hg _ s5 σ3 H5 x u _ I5' r5 (turn x H5 y5)
      rw [eP, ew, eA, eE, eN] at hg'
      refine thn hg' fun _ s6 ⟨σ6, H6, I6, q6⟩ => ?_
      have ht' := ht _ s6 σ6 H6 _ I6 q6
      rw [eP, ew, eA, eE, eN] at ht'
      refine thn ht' fun okb s7 ⟨H7, I7, q7⟩ => ?_
      have back : ∀ {H8 : Hp} {s8 : Shared}, Inv X' ([(D, ({ cls := .type "list", data := .seq us.toArray k } : Obj))] ++ pinsAt fp s5.heap) σ6 H8 s8 →
          Inv X' [] σ6 H8 s8 ∧ tn (i + 1) s8.heap ∧ (∀ b ∈ fp, H8 b = none) ∧ H8 D = none ∧ s8.heap.get? D = some { cls := .type "list", data := .seq us.toArray k } ∧ (∀ b ∈ fp, ∀ o, s5.heap.get? b = some o → s8.heap.get? b = some o) := fun {H8 s8} I8 => by
        have pD := I8.pin (D, { cls := .type "list", data := .seq us.toArray k }) (List.mem_append_right _ (List.mem_append_left _ (List.mem_singleton.mpr rfl)))
        have pf : ∀ b ∈ fp, ∀ o, s5.heap.get? b = some o → s8.heap.get? b = some o := fun b hb o e => (I8.pin (b, o) (List.mem_append_right _ (List.mem_append_right _ (mem_pinsAt hb e)))).1
        refine ⟨I8.pins_of fun p hp => absurd hp (by simp), T.keep _ _ _ st5 pf, fun b hb => ?_, pD.2.1, pD.1, pf⟩
        obtain ⟨o, e, d⟩ := T.obj _ _ st5 b hb
        exact (I8.pin (b, o) (List.mem_append_right _ (List.mem_append_right _ (mem_pinsAt hb e)))).2.1
      cases okb with
      | false =>
        obtain ⟨b1, b2, b3, b4, b5, _⟩ := back I7
        obtain ⟨m', hm, w7⟩ := q7
        exact ⟨m', hm, i + 1, ys, us, k, σ6, H7, b1, b2, b3, b4, b5, rv3, w7⟩
      | true =>
        have he' := he _ s7 σ6 H7 _ I7 q7
        rw [eP, ew, eA, eE, eN] at he'
        show wpAny _ _ (eval elt _) _ _ s7
        refine thn he' fun xv s8 ⟨y, H8, I8, r8, m', hm, w8⟩ => ?_
        obtain ⟨b1, b2, b3, b4, b5, b6⟩ := back I8
        refine append_at (hsz := by rw [List.size_toArray, ← rv3.length]; exact Nat.le_of_lt hsz) b5 fun h9 hs9 hD9 => ?_
        have I9 : Inv X' [] σ6 H8 { s8 with heap := h9 } := b1.turned (t' := s8.toks) (fun b o hb e => hs9.extBut b o hb e) b4 (by rw [eL]; exact hDC) (.inr (by rw [eS, hDD]; exact Nat.le_refl _)) cellD fun p hp => by
          rw [List.append_nil] at hp
          exact pnD p hp
        refine ⟨m', hm, i + 1, ys ++ [y], us ++ [xv], k + 1, σ6, H8, I9, T.keep _ _ _ b2 fun b hb o e => hs9.extBut b o (fpC b hb).2 e, b3, b4, ?_, rv3.append (.cons r8 .nil), w8⟩
        show h9.get? D = _
        rw [hD9, List.push_toArray]
  refine codeAny_compStart_list (loop _ rfl) ?_
  exact T.self _ 0 _ _ _ (T.keep _ _ _ st fun b _ o e => old b o e) (loop _ rfl)

/-! ### the two rules: a comprehension as a value, and straight into a name -/
def tComp (wi : TI) (src : List (Option Nat)) (g : TG) (tt : TT) (te : TE) : TE := fun σ H Q => wi σ H fun J H1 => CompW J g tt te (fun ys H' => ∀ D, H' D = none → Q (.ref D) (upd H' D (.lst ys))) (capσ σ src) H1
section
variable {X : Cx} {tg iter elt : Expr} {ifs : List Expr} {scope : Scope} {pos : Pos} {Nc : List Str} {wi : TI} {g : TG} {tt : TT} {te : TE}
theorem pe_comp (Nc : List Str) (src : List (Option Nat)) (hc : X.calm = true) (hi : PI X tg iter wi)
    (hb : ∀ C fp pins s₂ H₂, PG (cxC X scope Nc C fp pins s₂ H₂) tg g ∧ PTs (cxC X scope Nc C fp pins s₂ H₂) ifs tt ∧ PE (cxC X scope Nc C fp pins s₂ H₂) elt te)
    (hcaps : ∀ C, Caps X (compEnvC scope (clOf X.env.cells scope.names []) C X.env) Nc src) (S : CScope X scope)
    (hs : ∀ x, foldedSetIterable iter X.env x = pure x := by intro _; rfl) : PE X (.ListComp elt [⟨tg, iter, ifs, 0⟩] scope pos) (tComp wi src g tt te) := by
  intro pins s σ H Q I h
  rw [eval_ListComp]
  refine wpAny_comprehension_free (use := none) rfl hs (clos_eq S.hfree) S.kind S.hnames ?_
  refine thn (hi pins s σ H _ I h) fun v s1 h1 => thn h1 fun itv s2 h2 => ?_
  obtain ⟨it, fp, tn, J, H2, e, I2, T, st2, f2, hW⟩ := h2
  subst e
  refine comp_core (RR := fun acc C => compPost (model X.prog X.w) X.A X.xe none (EP X pins σ Q) acc C) hc S hcaps hb I2 T st2 f2 hW ?_
  intro D C s' ys H' m fin nD J' hn fC
  obtain ⟨f0, f1, _, f3, f4, f5⟩ := fC
  refine ⟨m, hn, fun h'' hs'' => ?_⟩
  exact ⟨.ref D, _, J'.turned (t' := s'.toks) (fun b o hb e => hs''.extBut b o hb e) f0 f1 f3 f4 f5, rfl, fin D nD⟩
end

/-! ### the forms one uses -/
end L2

set_option Elab.async false
set_option linter.all false
set_option maxRecDepth 100000
/-! More of the built-ins, by the hand layer's judgements. -/
namespace L2
open PySem PySem.Spec PyProof.Rows
section
variable {X : Cx}
/-! ### isinstance of one class -/
theorem call_isinst : CallR X (.builtin "isinstance") (fun xs H Q => ∃ x t n b, xs = [x, .ty n] ∧ TyOf X.K H x t ∧ PySem.W.kitOne X.K t (.type n) = some b ∧ Q (.bl b) H) := by
  intro pins s σ H xs us Q I r h
  obtain ⟨x, t, n, b, rfl, ty, e, q⟩ := h
  obtain ⟨u, c, rfl, ru, rc⟩ := vals2 r
  obtain rfl : c = Value.type n := rc
  exact isinst_ok I ru ty e fun tk => ⟨.bl b, H, I.tok _, rfl, q⟩
/-! ### all of a list of truths -/
theorem truth_bools {prog : Program} {w : World} {A : Around} (bs : List Bool) : TruthOf prog w A (fun i v => ∃ b, bs[i]? = some b ∧ v = Value.bool b) (fun i => (bs[i]?).getD false) := by
  intro i v s Q E hP hQ
  obtain ⟨b, hb, rfl⟩ := hP
  dsimp only at hQ
  rw [hb] at hQ
  exact wpAny_truthy_bool hQ
theorem all_range (bs : List Bool) : (List.range bs.length).all (fun i => (bs[i]?).getD false) = bs.all id := by
  apply Bool.eq_iff_iff.mpr
  rw [List.all_eq_true, List.all_eq_true]
  constructor
  · intro h b hb
    obtain ⟨i, hi, e⟩ := List.getElem_of_mem hb
    have := h i (List.mem_range.mpr hi)
    rw [List.getElem?_eq_getElem hi, e] at this
    exact this
  · intro h i hi
    have hi := List.mem_range.mp hi
    rw [List.getElem?_eq_getElem hi]
    exact h _ (List.getElem_mem hi)
theorem vals_bools : ∀ {bs : List Bool} {us : List Value}, Vals (bs.map V.bl) us → us = bs.map Value.bool
  | [], _, .nil => rfl
  | _ :: bs, _, .cons r t => by
    rw [vals_bools (bs := bs) t, show _ = Value.bool _ from r]
    rfl
theorem call_all (hc : X.calm = true) : CallR X (.builtin "all") (fun xs H Q => ∃ (p : Addr) (bs : List Bool), xs = [.ref p] ∧ SqL X.K H p (bs.map V.bl) ∧ Q (.bl (bs.all id)) H) := by
  intro pins s σ H xs us Q I r h
  obtain ⟨p, bs, rfl, hq, q⟩ := h
  obtain ⟨u, rfl, ru⟩ := vals1 r
  cases ru
  obtain ⟨its, rv, pl, hz⟩ := I.list hq
  have ei := vals_bools rv
  subst ei
  have hlt : p < s.heap.objs.size := by obtain ⟨_, e, _⟩ := pl.isList; exact Heap.lt_size e
  refine call_all_walk (wpAny_pyIter_list pl.isList ?_)
  have W := Walks.list (prog := X.prog) (w := X.w) (A := X.A.in1) (I.ok.hd hc) s.heap.objs.size p (Nat.ne_of_lt hlt) (bs.map Value.bool).toArray
  refine ⟨_, _, _, _, _, _, _, rfl, { sub := W.sub, frame := W.frame, item := fun i s Q E hi st hQ => W.item i s Q E hi st fun v h' tk hP => hQ v h' tk ?_, done := W.done, self := W.self }, ⟨⟨_, Heap.get?_push_size _ rfl, rfl, rfl⟩, pl.isList.push _⟩, truth_bools bs, fun h' tk k => ?_⟩
  · have hP' : (bs.map Value.bool).toArray[i]? = some v := hP
    rw [List.getElem?_toArray, List.getElem?_map] at hP'
    cases e : bs[i]? with
    | none => rw [e] at hP'; cases hP'
    | some b => rw [e] at hP'; exact ⟨b, rfl, (Option.some.inj hP').symm⟩
  · have hsz : (bs.map Value.bool).toArray.size = bs.length := by simp
    rw [hsz, all_range]
    refine ⟨.bl _, H, ?_, rfl, q⟩
    refine I.kept (h' := h') (t' := tk) fun b o e => k b o ?_ (Heap.get?_push_of_some _ e)
    intro z
    have : b = s.heap.objs.size := by simpa using z
    exact absurd (Heap.lt_size e) (by rw [this]; exact Nat.lt_irrefl _)
end
/-! ### classes of built-in things -/
theorem kit_NoneType_int {K : PySem.W.Frag} : PySem.W.kitOne K (.type "NoneType") (.type "int") = some false := by kernel_rfl
theorem kit_NoneType_bool {K : PySem.W.Frag} : PySem.W.kitOne K (.type "NoneType") (.type "bool") = some false := by kernel_rfl
theorem kit_NoneType_tuple {K : PySem.W.Frag} : PySem.W.kitOne K (.type "NoneType") (.type "tuple") = some false := by kernel_rfl
theorem kit_bool_int {K : PySem.W.Frag} : PySem.W.kitOne K (.type "bool") (.type "int") = some true := by kernel_rfl
theorem kit_bool_bool {K : PySem.W.Frag} : PySem.W.kitOne K (.type "bool") (.type "bool") = some true := by kernel_rfl
theorem kit_bool_tuple {K : PySem.W.Frag} : PySem.W.kitOne K (.type "bool") (.type "tuple") = some false := by kernel_rfl
theorem kit_int_int {K : PySem.W.Frag} : PySem.W.kitOne K (.type "int") (.type "int") = some true := by kernel_rfl
theorem kit_int_bool {K : PySem.W.Frag} : PySem.W.kitOne K (.type "int") (.type "bool") = some false := by kernel_rfl
theorem kit_int_tuple {K : PySem.W.Frag} : PySem.W.kitOne K (.type "int") (.type "tuple") = some false := by kernel_rfl
theorem kit_str_int {K : PySem.W.Frag} : PySem.W.kitOne K (.type "str") (.type "int") = some false := by kernel_rfl
theorem kit_str_bool {K : PySem.W.Frag} : PySem.W.kitOne K (.type "str") (.type "bool") = some false := by kernel_rfl
theorem kit_str_tuple {K : PySem.W.Frag} : PySem.W.kitOne K (.type "str") (.type "tuple") = some false := by kernel_rfl
theorem kit_list_int {K : PySem.W.Frag} : PySem.W.kitOne K (.type "list") (.type "int") = some false := by kernel_rfl
theorem kit_list_bool {K : PySem.W.Frag} : PySem.W.kitOne K (.type "list") (.type "bool") = some false := by kernel_rfl
theorem kit_list_tuple {K : PySem.W.Frag} : PySem.W.kitOne K (.type "list") (.type "tuple") = some false := by kernel_rfl
theorem kit_tuple_int {K : PySem.W.Frag} : PySem.W.kitOne K (.type "tuple") (.type "int") = some false := by kernel_rfl
theorem kit_tuple_bool {K : PySem.W.Frag} : PySem.W.kitOne K (.type "tuple") (.type "bool") = some false := by kernel_rfl
theorem kit_tuple_tuple {K : PySem.W.Frag} : PySem.W.kitOne K (.type "tuple") (.type "tuple") = some true := by kernel_rfl
theorem kit_dict_int {K : PySem.W.Frag} : PySem.W.kitOne K (.type "dict") (.type "int") = some false := by kernel_rfl
theorem kit_dict_bool {K : PySem.W.Frag} : PySem.W.kitOne K (.type "dict") (.type "bool") = some false := by kernel_rfl
theorem kit_dict_tuple {K : PySem.W.Frag} : PySem.W.kitOne K (.type "dict") (.type "tuple") = some false := by kernel_rfl
end L2

set_option Elab.async false
set_option linter.all false
set_option maxRecDepth 100000
namespace L2
open PySem PySem.Spec PyProof.Rows

/-! ### lists of pairs as tables -/
section
variable {κ : Type} [DecidableEq κ]
def valV (kvs : List (κ × V)) (k : κ) : Option V := (kvs.find? fun kv => decide (kv.1 = k)).map (·.2)
/-- in its place, or at the end -/
def putK (kvs : List (κ × V)) (k : κ) (v : V) : List (κ × V) :=
  if (kvs.any fun kv => decide (kv.1 = k)) = true then kvs.map (fun kv => if kv.1 = k then (kv.1, v) else kv) else kvs ++ [(k, v)]

theorem valV_pos {p : κ × V} {r : List (κ × V)} {k : κ} (e : p.1 = k) : valV (p :: r) k = some p.2 := by simp [valV, List.find?_cons, e]
theorem valV_neg {p : κ × V} {r : List (κ × V)} {k : κ} (e : ¬ p.1 = k) : valV (p :: r) k = valV r k := by simp [valV, List.find?_cons, e]
theorem valV_any (k : κ) : ∀ kvs : List (κ × V), (kvs.any fun kv => decide (kv.1 = k)) = (valV kvs k).isSome
  | [] => rfl
  | p :: r => by
    rw [List.any_cons]
    by_cases e : p.1 = k
    · simp only [valV_pos e, decide_eq_true e, Bool.true_or, Option.isSome_some]
    · rw [valV_neg e, decide_eq_false e, Bool.false_or]; exact valV_any k r
theorem valV_map (k j : κ) (y : V) : ∀ kvs : List (κ × V), valV (kvs.map fun kv => if kv.1 = k then (kv.1, y) else kv) j = (valV kvs j).map fun x => if j = k then y else x
  | [] => rfl
  | p :: r => by
    have ih := valV_map k j y r
    rw [List.map_cons]
    by_cases h : p.1 = k
    · rw [if_pos h]
      by_cases e : p.1 = j
      · rw [valV_pos (p := (p.1, y)) e, valV_pos e, Option.map_some, if_pos (e.symm.trans h)]
      · rw [valV_neg (p := (p.1, y)) e, valV_neg e, ih]
    · rw [if_neg h]
      by_cases e : p.1 = j
      · rw [valV_pos (p := p) e, valV_pos e, Option.map_some, if_neg (fun z => h (e.trans z))]
      · rw [valV_neg (p := p) e, valV_neg e, ih]
theorem valV_snoc (k j : κ) (y : V) : ∀ kvs : List (κ × V), valV kvs k = none → valV (kvs ++ [(k, y)]) j = if j = k then some y else valV kvs j
  | [], _ => by
    by_cases e : k = j
    · rw [if_pos e.symm]; exact valV_pos (p := (k, y)) e
    · rw [if_neg (fun z => e z.symm)]; exact valV_neg (p := (k, y)) e
  | p :: r, hn => by
    rw [List.cons_append]
    have hk : ¬ p.1 = k := fun z => by rw [valV_pos z] at hn; cases hn
    rw [valV_neg hk] at hn
    have ih := valV_snoc k j y r hn
    by_cases e : p.1 = j
    · rw [valV_pos e, valV_pos e, if_neg (fun z => hk (e.trans z))]
    · rw [valV_neg e, valV_neg e, ih]
theorem valV_put (kvs : List (κ × V)) (k j : κ) (y : V) : valV (putK kvs k y) j = if j = k then some y else valV kvs j := by
  unfold putK
  by_cases a : (kvs.any fun kv => decide (kv.1 = k)) = true
  · rw [if_pos a, valV_map]
    rw [valV_any] at a
    by_cases e : j = k
    · obtain ⟨x, hx⟩ := Option.isSome_iff_exists.mp a
      rw [if_pos e, e, hx, Option.map_some, if_pos rfl]
    · rw [if_neg e]
      cases valV kvs j with
      | none => rfl
      | some x => rw [Option.map_some, if_neg e]
  · rw [if_neg a]
    refine valV_snoc k j y kvs ?_
    rw [valV_any] at a
    cases q : valV kvs k with
    | none => rfl
    | some x => rw [q] at a; exact (a rfl).elim
theorem length_putK (kvs : List (κ × V)) (k : κ) (v : V) : (putK kvs k v).length ≤ kvs.length + 1 := by
  unfold putK
  split
  · rw [List.length_map]; omega
  · rw [List.length_append, List.length_cons, List.length_nil]; omega

theorem RelO.isSome_eq {o : Option V} {u : Option Value} (r : RelO o u) : o.isSome = u.isSome := by
  cases o with
  | none => cases u with
    | none => rfl
    | some _ => exact (show False from r).elim
  | some _ => cases u with
    | none => exact (show False from r).elim
    | some _ => rfl
theorem RelO.getD {o : Option V} {u : Option Value} {d : V} {d' : Value} (r : RelO o u) (rd : RelV d d') : RelV (o.getD d) (u.getD d') := by
  cases o with
  | none => cases u with
    | none => exact rd
    | some _ => exact (show False from r).elim
  | some _ => cases u with
    | none => exact (show False from r).elim
    | some _ => exact r

/-- raw tables of the same keys -/
theorem KV.val {kvs : List (κ × V)} {vs : List (κ × Value)} (r : KV kvs vs) (k : κ) : RelO (valV kvs k) (valueAt vs k) := by
  unfold KV at r
  induction r with
  | nil => exact True.intro
  | @cons p q ps qs h t ih =>
    obtain ⟨h1, h2⟩ := h
    by_cases e : p.1 = k
    · have e' : q.1 = k := h1.symm.trans e
      have b : valueAt (q :: qs) k = some q.2 := by simp [valueAt, List.find?_cons, e']
      rw [valV_pos e, b]; exact h2
    · have e' : ¬ q.1 = k := fun z => e (h1.trans z)
      have b : valueAt (q :: qs) k = valueAt qs k := by simp [valueAt, List.find?_cons, e']
      rw [valV_neg e, b]; exact ih
theorem KV.any {kvs : List (κ × V)} {vs : List (κ × Value)} (r : KV kvs vs) (k : κ) : (kvs.any fun kv => decide (kv.1 = k)) = vs.any fun kv => decide (kv.1 = k) := by
  unfold KV at r
  induction r with
  | nil => rfl
  | cons h t ih => rw [List.any_cons, List.any_cons, ih, h.1]
theorem KV.repl {kvs : List (κ × V)} {vs : List (κ × Value)} (r : KV kvs vs) (k : κ) {y : V} {u : Value} (ry : RelV y u) :
    KV (kvs.map fun kv => if kv.1 = k then (kv.1, y) else kv) (vs.map fun kv => if kv.1 = k then (kv.1, u) else kv) := by
  unfold KV at r ⊢
  induction r with
  | nil => exact .nil
  | @cons p q ps qs h t ih =>
    rw [List.map_cons, List.map_cons]
    refine .cons ?_ ih
    obtain ⟨h1, h2⟩ := h
    by_cases e : p.1 = k
    · rw [if_pos e, if_pos (h1.symm.trans e)]; exact ⟨h1, ry⟩
    · rw [if_neg e, if_neg (fun z => e (h1.trans z))]; exact ⟨h1, h2⟩
theorem KV.put {kvs : List (κ × V)} {vs : List (κ × Value)} (r : KV kvs vs) (k : κ) {y : V} {u : Value} (ry : RelV y u) : KV (putK kvs k y) (stored vs k u) := by
  unfold putK stored
  rw [r.any k]
  by_cases e : (vs.any fun kv => decide (kv.1 = k)) = true
  · rw [if_pos e, if_pos e]; exact r.repl k ry
  · rw [if_neg e, if_neg e]; exact Paired.snoc r ⟨rfl, ry⟩
theorem KV.length {kvs : List (κ × V)} {vs : List (κ × Value)} (r : KV kvs vs) : kvs.length = vs.length := Paired.length r
end


/-! ### a tracked dict, its keys ints and texts or tuples of these -/
theorem kV_is {P : Program} {w : World} {k : Key} {u : Value} (r : RelV (kV k) u) : (mixKind P w).is k u = true := by
  cases k with
  | inl i => obtain ⟨t, e⟩ := (show ∃ t, u = Value.int i t from r); subst e; exact mixKind_int P w i t
  | inr x => obtain ⟨t, e⟩ := (show ∃ t, u = Value.str x t from r); subst e; exact mixKind_str P w x t
theorem items_are {P : Program} {w : World} : ∀ {ks : List Key} {us : List Value}, Vals (ks.map kV) us → ItemsAre (mixKind P w) ks us
  | [], _, r => by rw [List.map_nil] at r; cases r; exact .nil
  | k :: ks, _, r => by
    rw [List.map_cons] at r
    cases r with
    | cons h t => exact .cons (kV_is h) (items_are t)

/-- raw entries of a dict with tuple keys -/
abbrev KT (H : Hp) : List (List Key × V) → List (List Key × Addr × Value) → Prop := Paired fun p q => p.1 = q.1 ∧ H q.2.1 = some (.tup (p.1.map kV)) ∧ RelV p.2 q.2.2
theorem KT.val {H : Hp} {kvs : List (List Key × V)} {xs : List (List Key × Addr × Value)} (r : KT H kvs xs) (k : List Key) : RelO (valV kvs k) ((atKey xs k).map (·.2)) := by
  induction r with
  | nil => exact True.intro
  | @cons p q ps qs h t ih =>
    obtain ⟨h1, _, h2⟩ := h
    by_cases e : p.1 = k
    · have e' : q.1 = k := h1.symm.trans e
      have b : atKey (q :: qs) k = some q.2 := by simp [atKey, List.find?_cons, e']
      rw [valV_pos e, b]; exact h2
    · have e' : ¬ q.1 = k := fun z => e (h1.trans z)
      have b : atKey (q :: qs) k = atKey qs k := by simp [atKey, List.find?_cons, e']
      rw [valV_neg e, b]; exact ih
theorem KT.repl {H : Hp} {kvs : List (List Key × V)} {xs : List (List Key × Addr × Value)} (r : KT H kvs xs) (k : List Key) {y : V} {u : Value} (ry : RelV y u) :
    KT H (kvs.map fun kv => if kv.1 = k then (kv.1, y) else kv) (xs.map (putAt k u)) := by
  induction r with
  | nil => exact .nil
  | @cons p q ps qs h t ih =>
    rw [List.map_cons, List.map_cons]
    refine .cons ?_ ih
    obtain ⟨h1, h2, h3⟩ := h
    unfold putAt
    by_cases e : p.1 = k
    · rw [if_pos e, if_pos (h1.symm.trans e)]; exact ⟨h1, h2, ry⟩
    · rw [if_neg e, if_neg (fun z => e (h1.trans z))]; exact ⟨h1, h2, h3⟩
theorem KT.put {H : Hp} {kvs : List (List Key × V)} {xs : List (List Key × Addr × Value)} (r : KT H kvs xs) (k : List Key) {b : Addr} {y : V} {u : Value} (hb : H b = some (.tup (k.map kV))) (ry : RelV y u) :
    KT H (putK kvs k y) (storedH xs k b u) := by
  have e : (kvs.any fun kv => decide (kv.1 = k)) = (atKey xs k).isSome := by
    rw [valV_any, (r.val k).isSome_eq, Option.isSome_map]
  unfold putK storedH
  rw [e]
  by_cases q : (atKey xs k).isSome = true
  · rw [if_pos q, if_pos q]; exact r.repl k ry
  · rw [if_neg q, if_neg q]; exact Paired.snoc r ⟨rfl, hb, ry⟩
theorem KT.keeps {H H' : Hp} {kvs : List (List Key × V)} {xs : List (List Key × Addr × Value)} (r : KT H kvs xs) (ht : ∀ b ys, H b = some (.tup ys) → H' b = some (.tup ys)) : KT H' kvs xs :=
  Paired.mapP r fun _ _ z => ⟨z.1, ht _ _ z.2.1, z.2.2⟩

section
variable {P : Program} {w : World} {H : Hp} {h : Heap} {a : Addr}
theorem rd_of {u : HO} (ok : HOk P w H h) (e : Rd H a u) : ObjOk P w H h a u := e.ok ok
theorem dk_rd {kvs : List (Key × V)} (ok : HOk P w H h) (e : Rd H a (.dK kvs)) : kvs.length ≤ sizeLine ∧ (a == sysModules) = false ∧ ∃ vs, KV kvs vs ∧ h.DictOf (mixKind P w) a vs :=
  show ObjOk P w H h a (.dK kvs) from rd_of ok e
theorem dk_of {kvs : List (Key × V)} (ok : HOk P w H h) (e : H a = some (.dK kvs)) : kvs.length ≤ sizeLine ∧ (a == sysModules) = false ∧ ∃ vs, KV kvs vs ∧ h.DictOf (mixKind P w) a vs := dk_rd ok (.inl e)
/-- a tracked tuple of ints and texts is a key -/
theorem key_of {ks : List Key} (ok : HOk P w H h) (e : H a = some (.tup (ks.map kV))) : (tupleKind (mixKind P w)).is h ks a := by
  obtain ⟨_, its, r, o, h1, h2, n, h3⟩ := (show ObjOk P w H h a (.tup (ks.map kV)) from ok a _ e)
  exact ⟨o, its.toArray, n, h1, h2, h3, by simpa using items_are r⟩
theorem dt_rd {kvs : List (List Key × V)} (ok : HOk P w H h) (e : Rd H a (.dT kvs)) : kvs.length ≤ sizeLine ∧ (a == sysModules) = false ∧
    ∃ xs, KT H kvs xs ∧ h.DictOfH (tupleKind (mixKind P w)) a xs := by
  obtain ⟨z, y, xs, r, o, es, ep, h1, h2, h3, h4, h5⟩ := (show ObjOk P w H h a (.dT kvs) from rd_of ok e)
  refine ⟨z, y, xs, r, o, es, ep, h1, h2, h3, h4, fun x hx => ?_, h5⟩
  have all : ∀ {l : List (List Key × V)} {m : List (List Key × Addr × Value)}, KT H l m → ∀ x ∈ m, (tupleKind (mixKind P w)).is h x.1 x.2.1 := by
    intro l m q
    induction q with
    | nil => intro x hx; exact nomatch hx
    | @cons p q ps qs hq t ih =>
      intro x hx
      rcases List.mem_cons.mp hx with e | hx
      · subst e
        exact key_of ok (by rw [← hq.1]; exact hq.2.1)
      · exact ih x hx
  exact all r x hx
theorem dt_of {kvs : List (List Key × V)} (ok : HOk P w H h) (e : H a = some (.dT kvs)) : kvs.length ≤ sizeLine ∧ (a == sysModules) = false ∧
    ∃ xs, KT H kvs xs ∧ h.DictOfH (tupleKind (mixKind P w)) a xs := dt_rd ok (.inl e)
end

/-- what the dict at a holds at the key y -/
def DGet (H : Hp) (a : Addr) (y : V) (r : Option V) : Prop :=
  (∃ kvs k, Rd H a (.dK kvs) ∧ y = kV k ∧ r = valV kvs k) ∨ ∃ kvs k b, Rd H a (.dT kvs) ∧ y = .ref b ∧ H b = some (.tup (k.map kV)) ∧ r = valV kvs k
/-- the heap behind a[y] = v -/
def DPut (H : Hp) (a : Addr) (y v : V) (H' : Hp) : Prop :=
  (∃ kvs k, H a = some (.dK kvs) ∧ y = kV k ∧ kvs.length < sizeLine ∧ H' = upd H a (.dK (putK kvs k v))) ∨
  ∃ kvs k b, H a = some (.dT kvs) ∧ y = .ref b ∧ H b = some (.tup (k.map kV)) ∧ kvs.length < sizeLine ∧ H' = upd H a (.dT (putK kvs k v))
theorem DGet.k {H : Hp} {a : Addr} {kvs : List (Key × V)} {k : Key} (e : H a = some (.dK kvs)) : DGet H a (kV k) (valV kvs k) := .inl ⟨kvs, k, .inl e, rfl, rfl⟩
theorem DGet.t {H : Hp} {a b : Addr} {kvs : List (List Key × V)} {k : List Key} (e : H a = some (.dT kvs)) (eb : H b = some (.tup (k.map kV))) : DGet H a (.ref b) (valV kvs k) := .inr ⟨kvs, k, b, .inl e, rfl, eb, rfl⟩
theorem DPut.k {H : Hp} {a : Addr} {kvs : List (Key × V)} {k : Key} {v : V} (e : H a = some (.dK kvs)) (hl : kvs.length < sizeLine) : DPut H a (kV k) v (upd H a (.dK (putK kvs k v))) := .inl ⟨kvs, k, e, rfl, hl, rfl⟩
theorem DPut.t {H : Hp} {a b : Addr} {kvs : List (List Key × V)} {k : List Key} {v : V} (e : H a = some (.dT kvs)) (eb : H b = some (.tup (k.map kV))) (hl : kvs.length < sizeLine) :
    DPut H a (.ref b) v (upd H a (.dT (putK kvs k v))) := .inr ⟨kvs, k, b, e, rfl, eb, hl, rfl⟩


section
variable {X : Cx} {pins : List (Addr × Obj)} {σ : St} {H : Hp} {s : Shared} {a : Addr} {y v : V} {u r : Value} {o : Option V} {A : Around} {E : Value → Shared → Prop}

theorem Inv.big (I : Inv X pins σ H s) : sysModules < s.heap.objs.size := by
  have h : mainGlobals < s.heap.objs.size := (I.mod.glob.keeps I.bk).lt
  exact Nat.lt_trans (by decide) h

/-- d[y], there -/
theorem d_getItem {Q : Value → Shared → Prop} (hu : A.units + 1 < cLine) (I : Inv X pins σ H s) (g : DGet H a y (some v)) (ry : RelV y u) (h : ∀ w' s', Inv X pins σ H s' → RelV v w' → Q w' s') :
    wpAny (model X.prog X.w) A (getItem (.ref a) u) Q E s := by
  rcases g with ⟨kvs, k, e, ey, l⟩ | ⟨kvs, k, b, e, ey, eb, l⟩
  · subst ey
    obtain ⟨z, hd, vs, rel, dd⟩ := dk_rd I.hok e
    obtain ⟨w', hw, rw'⟩ := RelO.some_of (v := v) (o := valueAt vs k) (by rw [l]; exact rel.val k)
    exact wpAny_getItem_of (kV_is ry) dd.mapOf hw (h w' _ (I.tok _) rw')
  · subst ey
    cases (show u = Value.ref b from ry)
    obtain ⟨z, hd, xs, rel, dd⟩ := dt_rd I.hok e
    obtain ⟨w', hw, rw'⟩ := RelO.some_of (v := v) (o := (atKey xs k).map (·.2)) (by rw [l]; exact rel.val k)
    obtain ⟨p, hp, hp2⟩ := Option.map_eq_some_iff.mp hw
    refine wpAny_getItem_heap (tupleKind_room_in1 hu) (key_of I.hok eb) dd hp ?_
    rw [hp2]
    exact h w' _ (I.tok _) rw'
/-- a dict's object is replaced -/
theorem d_write {h' : Heap} {t' : Nat} {ob : HO} (I : Inv X pins σ H s) (mu : Mut (H a)) (hs : Heap.SameBut a s.heap h') (he : ∃ q, h'.get? a = some q) (new : ObjOk X.prog X.w (upd H a ob) h' a ob) :
    Inv X pins σ (upd H a ob) { s with heap := h', toks := t' } :=
  I.write (x := a) (e := a) mu (.inl rfl) (fun b q hb z => (hs.2 b hb).trans z) he new
theorem dk_new {P : Program} {w : World} {H' : Hp} {h' : Heap} {kvs : List (Key × V)} {vs : List (Key × Value)} (z : kvs.length ≤ sizeLine) (hd : (a == sysModules) = false) (rel : KV kvs vs) (dd : h'.DictOf (mixKind P w) a vs) :
    ObjOk P w H' h' a (.dK kvs) := ⟨z, hd, vs, rel, dd⟩
/-- d[y] = v -/
theorem d_setItem {H' : Hp} {Q : Unit → Shared → Prop} (hu : A.units + 1 < cLine) (I : Inv X pins σ H s) (g : DPut H a y v H') (ry : RelV y u) (rv : RelV v r) (h : ∀ s', Inv X pins σ H' s' → Q () s') :
    wpAny (model X.prog X.w) A (setItem (.ref a) u r) Q E s := by
  rcases g with ⟨kvs, k, e, ey, l, eH⟩ | ⟨kvs, k, b, e, ey, eb, l, eH⟩
  · subst ey eH
    obtain ⟨z, hd, vs, rel, dd⟩ := dk_of I.hok e
    have hz : vs.length ≤ sizeLine := by rw [← rel.length]; exact z
    have hl : (putK kvs k v).length ≤ sizeLine := by have := length_putK kvs k v; omega
    refine wpAny_setItem_pairs (hsz := hz) (kV_is ry) dd fun h' dd' hs => h _ ?_
    have he : ∃ q, h'.get? a = some q := let ⟨q, _, _, hq, _⟩ := dd'; ⟨q, hq⟩
    exact d_write I (by rw [e]; exact True.intro) hs he (dk_new hl hd (rel.put k rv) dd')
  · subst ey eH
    cases (show u = Value.ref b from ry)
    obtain ⟨z, hd, xs, rel, dd⟩ := dt_of I.hok e
    have hz : xs.length ≤ sizeLine := by rw [← Paired.length rel]; exact z
    have hl : (putK kvs k v).length ≤ sizeLine := by have := length_putK kvs k v; omega
    refine wpAny_setItem_heap (hsz := hz) (tupleKind_room_in1 hu) (key_of I.hok eb) dd fun h' dd' hs => h _ ?_
    obtain ⟨q, es, ep, hq, h2, h3, h4, _, h5⟩ := dd'
    refine d_write I (by rw [e]; exact True.intro) hs ⟨q, hq⟩ ⟨hl, hd, _, (rel.put k eb rv).keeps fun c ys ec => ?_, q, es, ep, hq, h2, h3, h4, h5⟩
    rw [upd_ne (ne_of ec e (fun z => nomatch z))]
    exact ec
end

section
variable {X : Cx} {pins : List (Addr × Obj)} {σ : St} {H : Hp} {s : Shared} {a : Addr} {kvs : List (Key × V)} {k : Key} {u : Value} {A : Around} {E : Value → Shared → Prop}
end


/-! ### readings and rules -/
/-- the element of a subscription, not a slice -/
def NoSl (i : Expr) : Prop := ∀ ov iv, subscripted i false ov iv = operate [ov, iv] (getItem ov iv)
theorem subD_of {prog : Program} {w : World} {A : Around} {E : Value → Shared → Prop} {s : Shared} {env : Env} {value slice : Expr} {pos : Pos} {T id : String} {Q : Value → Shared → Prop}
    (hl : typeLookup (.type T) "__getitem__" = pure (some (.builtin id))) (hs : NoSl slice)
    (h : wpAny (model prog w) A (eval value env) (fun o s₁ => wpAny (model prog w) A (eval slice env) (fun i s₂ => s₂.TypeIs o T ∧ wpAny (model prog w) A (getItem o i) Q E s₂) E s₁) E s) :
    wpAny (model prog w) A (eval (.Subscript value slice pos) env) Q E s := by
  refine Subscript_ (wpAny_mono h (fun o s₁ h₁ => wpAny_mono h₁ (fun i s₂ h₂ => ?_) fun _ _ x => x) fun _ _ x => x)
  obtain ⟨hT, h₂⟩ := h₂
  unfold subscriptTail
  refine wpAny_bind ?_
  rw [getitemInPython_of_ne hT.not_modules]
  refine wpAny_bind (wpAny_specialOf hT hl ?_)
  have fin : wpAny (model prog w) A (subscripted slice false o i) (fun r s₃ => wpAny (model prog w) A (letTemporaryGo value o r >>= fun _ => pure r) Q E s₃) E s₂ := by
    rw [hs o i]
    exact wpAny_operating (wpAny_mono h₂ (fun r s₃ h₃ => wpAny_bind (wpAny_letTemporaryGo (wpAny_pure h₃))) fun _ _ x => x)
  first
    | exact wpAny_pure (wpAny_bind fin)
    | exact wpAny_bind (wpAny_pure (wpAny_bind fin))
    | exact wpAny_bind fin

theorem dict_typeIs {X : Cx} {pins : List (Addr × Obj)} {σ : St} {H : Hp} {s : Shared} {a : Addr} {y : V} {o : Option V} (I : Inv X pins σ H s) (g : DGet H a y o) : s.TypeIs (.ref a) "dict" := by
  rcases g with ⟨kvs, k, e, _, _⟩ | ⟨kvs, k, b, e, _, _, _⟩
  · obtain ⟨_, _, vs, _, dd⟩ := dk_rd I.hok e
    exact dd.typeIs
  · obtain ⟨_, _, xs, _, dd⟩ := dt_rd I.hok e
    exact dd.typeIs

/-- d[y] -/
def tDGet (td ty : TE) : TE := fun σ H Q => td σ H fun x H1 => ty σ H1 fun y H2 => ∃ a v, x = .ref a ∧ DGet H2 a y (some v) ∧ Q v H2
/-- d[y] = v -/
def sDPut (td ty tv : TE) : TS := fun D σ H => tv σ H fun v H1 => td σ H1 fun x H2 => ty σ H2 fun y H3 => ∃ a H4, x = .ref a ∧ DPut H3 a y v H4 ∧ D.nx σ H4

section
variable {X : Cx} {o i e value : Expr} {pos pos' tpos : Pos} {td ty tv : TE}
theorem pe_dget (hu : X.A.units + 1 < cLine) (ho : PE X o td) (hi : PE X i ty) (hs : NoSl i) : PE X (.Subscript o i pos) (tDGet td ty) := by
  intro pins s σ H Q I h
  refine subD_of PySem.F.slot_dict_getitem.lookup hs (thn (ho pins s σ H _ I h) fun u s1 ⟨x, H1, I1, rx, q1⟩ => thn (hi pins s1 σ H1 _ I1 q1) fun iv s2 ⟨y, H2, I2, ry, a, v, ex, g, q2⟩ => ?_)
  subst ex
  obtain rfl : u = Value.ref a := rx
  exact ⟨dict_typeIs I2 g, d_getItem hu I2 g ry fun w' s3 I3 rw' => ⟨v, H2, I3, rw', q2⟩⟩
theorem ps_dput (hu : X.A.units + 1 < cLine) (ho : PE X o td) (hi : PE X i ty) (hv : PE X value tv) (hs : swapsWith value (some (.Subscript o i pos')) pos.line X.env = pure false) :
    PS X (.Assign [.Subscript o i pos'] value pos) (sDPut td ty tv) := by
  intro pins s σ H D I h
  refine wpAny_Assign_Subscript (thn (hv pins s σ H _ I h) fun r s1 ⟨v, H1, I1, rv, q1⟩ => thn (ho pins s1 σ H1 _ I1 q1) fun u s2 ⟨x, H2, I2, rx, q2⟩ => thn (hi pins s2 σ H2 _ I2 q2) fun iv s3 ⟨y, H3, I3, ry, a, H4, ex, g, q3⟩ => ?_) hs
  subst ex
  obtain rfl : u = Value.ref a := rx
  exact d_setItem hu I3 g ry rv fun s4 I4 => ⟨σ, H4, I4, q3⟩
end


/-! ### displays -/
theorem dk_empty {P : Program} {w : World} {H : Hp} (h : Heap) (hb : sysModules < h.objs.size) : ObjOk P w H (h.push { cls := .type "dict", data := .dict #[] }) h.objs.size (.dK []) :=
  ⟨Nat.zero_le _, beq_eq_false_iff_ne.mpr (Ne.symm (Nat.ne_of_lt hb)), [], .nil, Heap.DictOf.new h⟩
theorem dt_empty {P : Program} {w : World} {H : Hp} (h : Heap) (hb : sysModules < h.objs.size) : ObjOk P w H (h.push { cls := .type "dict", data := .dict #[] }) h.objs.size (.dT []) :=
  ⟨Nat.zero_le _, beq_eq_false_iff_ne.mpr (Ne.symm (Nat.ne_of_lt hb)), [], .nil, _, #[], 0, Heap.get?_push_size _ rfl, ⟨rfl, rfl, rfl⟩, rfl, rfl, List.nodup_nil⟩
def tDNewT : TE := fun _ H Q => ∀ p, H p = none → Q (.ref p) (upd H p (.dT []))
section
variable {X : Cx} {pos : Pos}
theorem pe_dnewT : PE X (.Dict [] [] pos) tDNewT := fun pins s σ H Q I h =>
  wpAny_Dict_empty ⟨.ref s.heap.objs.size, _, I.laid (a := s.heap.objs.size) (o := .dT []) (t' := s.toks) (fun _ _ q => Heap.get?_push_of_some _ q) (Nat.le_refl _) (dt_empty s.heap I.big), rfl, h _ (I.hok.fresh (Nat.le_refl _))⟩
end

/-- the pairs of a display, from the left -/
def tPairs : List (TE × TE) → St → Hp → (List (V × V) → Hp → Prop) → Prop
  | [], _, H, Q => Q [] H
  | (tk, tv) :: r, σ, H, Q => tk σ H fun x H1 => tv σ H1 fun y H2 => tPairs r σ H2 fun ps H3 => Q ((x, y) :: ps) H3
abbrev VV : List (V × V) → List (Value × Value) → Prop := Paired fun p q => RelV p.1 q.1 ∧ RelV p.2 q.2
def PPs (X : Cx) (pos : Pos) (keys : List (Option Expr)) (values : List Expr) (trs : List (TE × TE)) : Prop :=
  ∀ (pins : List (Addr × Obj)) (s : Shared) (σ : St) (H : Hp) (Q : List (V × V) → Hp → Prop), Inv X pins σ H s → tPairs trs σ H Q →
    wpAny (model X.prog X.w) X.A (evalPairs (pairTrees keys values X.env pos)) (fun vs s' => ∃ ps H', Inv X pins σ H' s' ∧ VV ps vs ∧ Q ps H') X.xe s
theorem pps_nil {X : Cx} {pos : Pos} : PPs X pos [] [] [] := fun pins s σ H Q I h => pairTrees_nil_walk ⟨[], H, I, .nil, h⟩
theorem pps_cons {X : Cx} {pos : Pos} {k v : Expr} {ks : List (Option Expr)} {vs : List Expr} {tk tv : TE} {trs : List (TE × TE)} (hk : PE X k tk) (hv : PE X v tv) (hr : PPs X pos ks vs trs) :
    PPs X pos (some k :: ks) (v :: vs) ((tk, tv) :: trs) := fun pins s σ H Q I h =>
  pairTrees_cons_walk (thn (hk pins s σ H _ I h) fun u s1 ⟨x, H1, I1, rx, q1⟩ => thn (hv pins s1 σ H1 _ I1 q1) fun w2 s2 ⟨y, H2, I2, ry, q2⟩ =>
    thn (hr pins s2 σ H2 _ I2 q2) fun ws s3 ⟨ps, H3, I3, rel, q3⟩ => ⟨(x, y) :: ps, H3, I3, .cons ⟨rx, ry⟩ rel, q3⟩)

def mergeK (kvs more : List (Key × V)) : List (Key × V) := more.foldl (fun acc kv => putK acc kv.1 kv.2) kvs
theorem KV.merge : ∀ {more : List (Key × V)} {rs : List (Key × Value)} {kvs : List (Key × V)} {vs : List (Key × Value)}, KV more rs → KV kvs vs → KV (mergeK kvs more) (merged vs rs) := by
  intro more rs kvs vs r
  unfold KV at r
  induction r generalizing kvs vs with
  | nil => intro q; exact q
  | @cons p q ps qs h t ih =>
    intro r0
    have e : KV (putK kvs p.1 p.2) (stored vs q.1 q.2) := by
      have := r0.put p.1 h.2
      rw [← h.1]; exact this
    exact ih e
theorem length_mergeK : ∀ (more kvs : List (Key × V)), (mergeK kvs more).length ≤ kvs.length + more.length
  | [], kvs => by show kvs.length ≤ kvs.length + 0; omega
  | p :: r, kvs => by
    have h1 := length_mergeK r (putK kvs p.1 p.2)
    have h2 := length_putK kvs p.1 p.2
    show (mergeK (putK kvs p.1 p.2) r).length ≤ _
    rw [List.length_cons]; omega
theorem carries_of {P : Program} {w : World} : ∀ {kvs : List (Key × V)} {ws : List (Value × Value)}, VV (kvs.map fun kv => (kV kv.1, kv.2)) ws → ∃ rs, Carries (mixKind P w) ws rs ∧ KV kvs rs
  | [], _, r => by rw [List.map_nil] at r; cases r; exact ⟨[], True.intro, .nil⟩
  | p :: kvs, _, r => by
    rw [List.map_cons] at r
    cases r with
    | @cons a b as bs h t =>
      obtain ⟨rs, c, q⟩ := carries_of (P := P) (w := w) t
      obtain ⟨b1, b2⟩ := b
      exact ⟨(p.1, b2) :: rs, ⟨kV_is h.1, rfl, c⟩, .cons ⟨rfl, h.2⟩ q⟩
/-- {k: v, ..} with keys ints and texts; the new dict stands empty while the pairs are made -/
def tDisp (trs : List (TE × TE)) : TE := fun σ H Q => ∀ p, H p = none → tPairs trs σ (upd H p (.dK [])) fun ps H2 => H2 p = some (.dK []) ∧ ∃ kvs : List (Key × V), ps = kvs.map (fun kv => (kV kv.1, kv.2)) ∧ kvs.length ≤ 15 ∧ Q (.ref p) (upd H2 p (.dK (mergeK [] kvs)))
theorem pe_disp {X : Cx} {pos : Pos} {keys : List (Option Expr)} {values : List Expr} {trs : List (TE × TE)} (h : PPs X pos keys values trs) (hall : keys.all (·.isSome) = true) (hl : keys.length = values.length) (h0 : keys ≠ [])
    (h15 : keys.length ≤ 15) : PE X (.Dict keys values pos) (tDisp trs) := by
  intro pins s σ H Q I q
  have hn := I.hok.fresh (Nat.le_refl s.heap.objs.size)
  have I1 := I.laid (a := s.heap.objs.size) (o := .dK []) (h' := s.heap.push { cls := .type "dict", data := .dict #[] }) (t' := s.toks) (fun _ _ q => Heap.get?_push_of_some _ q) (Nat.le_refl _) (dk_empty s.heap I.big)
  refine wpAny_Dict_walk (knd := mixKind X.prog X.w) hall hl h0 h15 (thn (h pins _ σ _ _ I1 (q _ hn)) fun ws s2 ⟨ps, H2, I2, rel, e, kvs, ep, lk, q2⟩ => ?_)
  subst ep
  obtain ⟨rs, c, rk⟩ := carries_of (P := X.prog) (w := X.w) rel
  obtain ⟨z, hd, vs0, r0, dd⟩ := dk_of I2.hok e
  cases r0
  refine ⟨rs, c, dd, fun h' dd' hs => ⟨.ref s.heap.objs.size, _, ?_, rfl, q2⟩⟩
  have hz : (mergeK [] kvs).length ≤ sizeLine := by
    have h1 := length_mergeK kvs []
    rw [List.length_nil] at h1
    rw [sizeLine_eq]; omega
  have he : ∃ q, h'.get? s.heap.objs.size = some q := let ⟨q, _, _, hq, _⟩ := dd'; ⟨q, hq⟩
  exact d_write I2 (by rw [e]; exact True.intro) hs he (dk_new hz hd (rk.merge .nil) dd')


/-! ### methods -/
structure M2 (X : Cx) (o : Expr) (m : Str) (apos : Pos) (e f : Expr) (cpos : Pos) : Prop where
  base : attributeBase o m X.env (eval o X.env) = eval o X.env
  few : ((backTo cpos (starEach [e, f] X.env)).all (fun x => !x.1) && (backToKw cpos (keywordEach [] X.env)).all (fun x => x.1.isSome)
    && decide (([e, f] : List Expr).length + ([] : List Keyword).length + (if ([] : List Keyword).isEmpty then 0 else 1) < 30)) = true
  line : (apos.endLine == cpos.line) = true
  trees : backTo cpos (starEach [e, f] X.env) = [(false, eval e X.env), (false, eval f X.env)]

/-- a is a dict, whatever its keys -/
def IsD (H : Hp) (a : Addr) : Prop := (∃ kvs, Rd H a (.dK kvs)) ∨ ∃ kvs, Rd H a (.dT kvs)
theorem isD_at {X : Cx} {pins : List (Addr × Obj)} {σ : St} {H : Hp} {s : Shared} {a : Addr} (I : Inv X pins σ H s) (d : IsD H a) :
    s.TypeIs (.ref a) "dict" ∧ (∀ b, Value.ref a = .ref b → ∃ ob, s.heap.get? b = some ob ∧ ob.dict = none) ∧ (a == sysModules) = false := by
  rcases d with ⟨kvs, e⟩ | ⟨kvs, e⟩
  · obtain ⟨_, hd, vs, _, dd⟩ := dk_rd I.hok e
    refine ⟨dd.typeIs, fun b q => ?_, hd⟩
    cases q
    obtain ⟨ob, _, _, h1, h2, _⟩ := dd
    exact ⟨ob, h1, h2.2.1⟩
  · obtain ⟨_, hd, xs, _, dd⟩ := dt_rd I.hok e
    refine ⟨dd.typeIs, fun b q => ?_, hd⟩
    cases q
    obtain ⟨ob, _, _, h1, h2, _⟩ := dd
    exact ⟨ob, h1, h2.2.1⟩

section
variable {X : Cx} {pins : List (Addr × Obj)} {σ : St} {H : Hp} {s : Shared} {a : Addr} {y d : V} {u r : Value} {o : Option V} {A : Around} {E : Value → Shared → Prop}
/-- d.get(y, x) -/
theorem d_get2 {Q : Value → Shared → Prop} (hu : A.units + 1 < cLine) (I : Inv X pins σ H s) (g : DGet H a y o) (ry : RelV y u) (rd : RelV d r) (h : ∀ w' s', Inv X pins σ H s' → RelV (o.getD d) w' → Q w' s') :
    wpAny (model X.prog X.w) A (call (.builtin "dict.get") [.ref a, u, r]) Q E s := by
  rcases g with ⟨kvs, k, e, ey, l⟩ | ⟨kvs, k, b, e, ey, eb, l⟩
  · subst ey
    obtain ⟨z, hd, vs, rel, dd⟩ := dk_rd I.hok e
    refine call_meetsIn PySem.F.slot_dict_get dd.typeIs PySem.F.entry_dict_get (PySem.F.args_dict_get_3 _ _ _) (meets_dict_get_default (mixKind X.prog X.w) a (kV_is ry) hd r) ⟨_, dd.mapOf, h _ _ (I.tok _) ?_⟩
    rw [l]
    exact (rel.val k).getD rd
  · subst ey
    cases (show u = Value.ref b from ry)
    obtain ⟨z, hd, xs, rel, dd⟩ := dt_rd I.hok e
    refine call_meetsIn PySem.F.slot_dict_get dd.typeIs PySem.F.entry_dict_get (PySem.F.args_dict_get_3 _ _ _) (meetsH_dict_get_default (tupleKind (mixKind X.prog X.w)) a b hd r) ⟨tupleKind_room_in1 hu, k, xs, key_of I.hok eb, dd, h _ _ (I.tok _) ?_⟩
    rw [l]
    exact (rel.val k).getD rd
end

def tDGet2 (td ty tx : TE) : TE := fun σ H Q => td σ H fun x H1 => ∃ a, x = .ref a ∧ IsD H1 a ∧ ty σ H1 fun y H2 => tx σ H2 fun z H3 => ∃ o, DGet H3 a y o ∧ Q (o.getD z) H3
section
variable {X : Cx} {o e f : Expr} {apos cpos : Pos} {td ty tx : TE}
theorem pe_dget2 (hu : X.A.units + 1 < cLine) (ho : PE X o td) (he : PE X e ty) (hf : PE X f tx) (m : M2 X o "get" apos e f cpos) : PE X (.Call (.Attribute o "get" apos) [e, f] [] cpos) (tDGet2 td ty tx) := by
  intro pins s σ H Q I h
  refine wpAny_Call_method m.base m.few m.line PySem.F.plainAttrs_dict PySem.F.slot_dict_get PySem.F.type_dict_get (thn (ho pins s σ H _ I h) fun u s1 ⟨x, H1, I1, rx, a, ex, d, q1⟩ => ?_)
  subst ex
  obtain rfl : u = Value.ref a := rx
  obtain ⟨t1, t2, _⟩ := isD_at I1 d
  refine ⟨t1, t2, ?_⟩
  rw [m.trees]
  refine Calls.callWith_builtin rfl (Calls.evalArgs_plain (Calls.spliced_cons (thn (he pins s1 σ H1 _ I1 q1) fun iv s2 ⟨y, H2, I2, ry, q2⟩ =>
    Calls.spliced_cons (thn (hf pins s2 σ H2 _ I2 q2) fun fv s3 ⟨z, H3, I3, rz, ov, g, q3⟩ => Calls.spliced_nil ?_))))
  exact d_get2 hu I3 g ry rz fun w' s4 I4 rw' => ⟨_, H3, I4, rw', q3⟩
end

/-! ### dict(d): a copy -/
section
variable {X : Cx} {pins : List (Addr × Obj)} {σ : St} {H : Hp} {s : Shared} {a : Addr} {kvs : List (Key × V)} {A : Around} {E : Value → Shared → Prop}
end


section
variable {X : Cx} {pins : List (Addr × Obj)} {σ : St} {H : Hp} {s : Shared} {a : Addr} {y : V} {u : Value} {A : Around} {E : Value → Shared → Prop}
end
end L2


set_option Elab.async false
set_option linter.all false
set_option maxRecDepth 100000
/-! Things: trees of tuples, lists, small dicts, numbers, truths, texts, as they lie in the abstract heap; their repr. -/
namespace L2
open PySem PySem.Spec PyProof.Rows
/-- a key as a thing -/
def keyD : Key → PyData
  | .inl i => .int i
  | .inr x => .str x
mutual
/-- v is the thing d; its lists and dicts stand at addresses of S -/
inductive IsTh (S : Addr → Prop) (H : Hp) : V → PyData → Prop
  | non : IsTh S H .non .none
  | bl (b : Bool) : IsTh S H (.bl b) (.bool b)
  | int (i : Int) : IsTh S H (.int i) (.int i)
  | str (x : Str) : IsTh S H (.str x) (.str x)
  | lst {a : Addr} {xs : List V} {ds : List PyData} (hs : S a) (e : H a = some (.lst xs)) (r : IsThs S H xs ds) : IsTh S H (.ref a) (.list ds)
  | tup {a : Addr} {xs : List V} {ds : List PyData} (e : H a = some (.tup xs)) (r : IsThs S H xs ds) : IsTh S H (.ref a) (.tuple ds)
  | dct {a : Addr} {ks : List (Key × Int)} (hs : S a) (e : H a = some (.dK (ks.map fun p => (p.1, V.int p.2)))) : IsTh S H (.ref a) (.dict (ks.map fun p => (keyD p.1, .int p.2)))
inductive IsThs (S : Addr → Prop) (H : Hp) : List V → List PyData → Prop
  | nil : IsThs S H [] []
  | cons {v : V} {d : PyData} {vs : List V} {ds : List PyData} (h : IsTh S H v d) (t : IsThs S H vs ds) : IsThs S H (v :: vs) (d :: ds)
end
section
variable {S S' : Addr → Prop} {H H' : Hp}
theorem IsThs.length : ∀ {vs : List V} {ds : List PyData}, IsThs S H vs ds → vs.length = ds.length
  | _, _, .nil => rfl
  | _, _, .cons _ t => by rw [List.length_cons, List.length_cons, IsThs.length t]
theorem IsThs.get : ∀ {vs : List V} {ds : List PyData} {i : Nat} {v : V}, IsThs S H vs ds → vs[i]? = some v → ∃ d, ds[i]? = some d ∧ IsTh S H v d
  | _, _, _, _, .nil, e => by simp at e
  | _, _, 0, _, .cons h _, e => by simp at e; subst e; exact ⟨_, rfl, h⟩
  | _, _, i + 1, v, .cons _ t, e => by
    obtain ⟨d, h1, h2⟩ := IsThs.get (i := i) (v := v) t (by simpa using e)
    exact ⟨d, by simpa using h1, h2⟩
theorem IsThs.append : ∀ {vs ws : List V} {ds es : List PyData}, IsThs S H vs ds → IsThs S H ws es → IsThs S H (vs ++ ws) (ds ++ es)
  | _, _, _, _, .nil, s => s
  | _, _, _, _, .cons h t, s => .cons h (IsThs.append t s)
theorem IsThs.set {x : V} {e : PyData} (h : IsTh S H x e) : ∀ {vs : List V} {ds : List PyData} (i : Nat), IsThs S H vs ds → IsThs S H (vs.set i x) (ds.set i e)
  | _, _, _, .nil => .nil
  | _, _, 0, .cons _ t => .cons h t
  | _, _, i + 1, .cons q t => .cons q (IsThs.set h i t)
theorem IsThs.take : ∀ {vs : List V} {ds : List PyData} (n : Nat), IsThs S H vs ds → IsThs S H (vs.take n) (ds.take n)
  | _, _, 0, _ => .nil
  | _, _, _ + 1, .nil => .nil
  | _, _, n + 1, .cons h t => .cons h (IsThs.take n t)
theorem IsThs.drop : ∀ {vs : List V} {ds : List PyData} (n : Nat), IsThs S H vs ds → IsThs S H (vs.drop n) (ds.drop n)
  | _, _, 0, r => r
  | _, _, _ + 1, .nil => .nil
  | _, _, n + 1, .cons _ t => IsThs.drop n t
theorem IsThs.erase : ∀ {vs : List V} {ds : List PyData} (i : Nat), IsThs S H vs ds → IsThs S H (vs.eraseIdx i) (ds.eraseIdx i)
  | _, _, _, .nil => .nil
  | _, _, 0, .cons _ t => t
  | _, _, i + 1, .cons r t => .cons r (IsThs.erase i t)
theorem IsThs.ints : ∀ (ns : List Int), IsThs S H (ns.map V.int) (ns.map PyData.int)
  | [] => .nil
  | n :: ns => .cons (.int n) (IsThs.ints ns)
/-! what a thing leans on: its tuples, and its lists and dicts at addresses of S -/
mutual
theorem IsTh.keep (ht : ∀ b xs, H b = some (.tup xs) → H' b = some (.tup xs)) (hs : ∀ b o, S b → H b = some o → H' b = some o) (hS : ∀ b o, S b → H b = some o → S' b) : ∀ {v : V} {d : PyData}, IsTh S H v d → IsTh S' H' v d
  | _, _, .non => .non
  | _, _, .bl b => .bl b
  | _, _, .int i => .int i
  | _, _, .str x => .str x
  | _, _, .lst s e r => .lst (hS _ _ s e) (hs _ _ s e) (IsThs.keep ht hs hS r)
  | _, _, .tup e r => .tup (ht _ _ e) (IsThs.keep ht hs hS r)
  | _, _, .dct s e => .dct (hS _ _ s e) (hs _ _ s e)
theorem IsThs.keep (ht : ∀ b xs, H b = some (.tup xs) → H' b = some (.tup xs)) (hs : ∀ b o, S b → H b = some o → H' b = some o) (hS : ∀ b o, S b → H b = some o → S' b) : ∀ {vs : List V} {ds : List PyData}, IsThs S H vs ds → IsThs S' H' vs ds
  | _, _, .nil => .nil
  | _, _, .cons h t => .cons (IsTh.keep ht hs hS h) (IsThs.keep ht hs hS t)
end
/-- the type of a thing -/
def tyD : PyData → String
  | .none => "NoneType"
  | .bool _ => "bool"
  | .int _ => "int"
  | .str _ => "str"
  | .list _ => "list"
  | .tuple _ => "tuple"
  | .dict _ => "dict"
theorem IsTh.ty {K : PySem.W.Frag} {v : V} {d : PyData} (h : IsTh S H v d) : TyOf K H v (.type (tyD d)) := by
  cases h with
  | non => exact .non
  | bl b => exact .bl b
  | int i => exact .int i
  | str x => exact .str x
  | lst s e r => exact .lst e
  | tup e r => exact .tup e
  | dct s e => exact .dK e
def isIntD : PyData → Bool
  | .int _ => true
  | .bool _ => true
  | _ => false
def isBoolD : PyData → Bool
  | .bool _ => true
  | _ => false
def isTupD : PyData → Bool
  | .tuple _ => true
  | _ => false
theorem kit_int {K : PySem.W.Frag} (d : PyData) : PySem.W.kitOne K (.type (tyD d)) (.type "int") = some (isIntD d) := by
  cases d
  · exact kit_NoneType_int
  · exact kit_bool_int
  · exact kit_int_int
  · exact kit_str_int
  · exact kit_list_int
  · exact kit_tuple_int
  · exact kit_dict_int
theorem kit_bool {K : PySem.W.Frag} (d : PyData) : PySem.W.kitOne K (.type (tyD d)) (.type "bool") = some (isBoolD d) := by
  cases d
  · exact kit_NoneType_bool
  · exact kit_bool_bool
  · exact kit_int_bool
  · exact kit_str_bool
  · exact kit_list_bool
  · exact kit_tuple_bool
  · exact kit_dict_bool
theorem kit_tup {K : PySem.W.Frag} (d : PyData) : PySem.W.kitOne K (.type (tyD d)) (.type "tuple") = some (isTupD d) := by
  cases d
  · exact kit_NoneType_tuple
  · exact kit_bool_tuple
  · exact kit_int_tuple
  · exact kit_str_tuple
  · exact kit_list_tuple
  · exact kit_tuple_tuple
  · exact kit_dict_tuple
end
/-! ### how long a thing's text may be -/
mutual
def sz : PyData → Nat
  | .none => 1
  | .bool _ => 1
  | .int _ => 1
  | .str _ => 1
  | .list xs => 1 + szs xs
  | .tuple xs => 1 + szs xs
  | .dict kvs => 1 + 4 * kvs.length
def szs : List PyData → Nat
  | [] => 0
  | x :: xs => sz x + szs xs
end
mutual
def tame : PyData → Bool
  | .none => true
  | .bool _ => true
  | .int i => decide (i.natAbs < 2 ^ 128)
  | .str x => decide (x.length ≤ 10) && x.cps.toList.all fun c => decide (c < 16 ^ 8)
  | .list xs => tames xs
  | .tuple xs => tames xs
  | .dict kvs => tameKv kvs
def tames : List PyData → Bool
  | [] => true
  | x :: xs => tame x && tames xs
def tameKv : List (PyData × PyData) → Bool
  | [] => true
  | (.int i, .int j) :: r => decide (i.natAbs < 2 ^ 128) && decide (j.natAbs < 2 ^ 128) && tameKv r
  | (.str x, .int j) :: r => (decide (x.length ≤ 10) && x.cps.toList.all fun c => decide (c < 16 ^ 8)) && decide (j.natAbs < 2 ^ 128) && tameKv r
  | _ :: _ => false
end
theorem int_len {i : Int} (h : i.natAbs < 2 ^ 128) : (Str.ofString (toString i)).length ≤ 130 := by
  have e := int_text_length_le (a := i) (k := 128) (by decide) (by
    by_cases h0 : i.natAbs = 0
    · rw [h0]; decide
    · exact (Nat.log2_lt h0).mpr h)
  rw [PySem.ofString_length]
  omega
theorem textFrom_le : ∀ (ts : List Str) (k : Nat) (acc : Str), (textFrom k acc ts).length ≤ acc.length + piled ts
  | [], k, acc => by show acc.length ≤ acc.length + 0; omega
  | t :: r, k, acc => by
    have h := textFrom_le r (k + 1) (acc ++ (if k > 0 then ", " else "" : String) ++ t)
    have e : (acc ++ (if k > 0 then ", " else "" : String) ++ t).length ≤ acc.length + 2 + t.length := by
      rw [strLen_append, strLen_append]
      split
      · show acc.length + 2 + t.length ≤ _
        omega
      · show acc.length + 0 + t.length ≤ _
        omega
    rw [piled_cons]
    show (textFrom (k + 1) _ r).length ≤ _
    omega
theorem listText_le (ts : List Str) : (listText ts).length ≤ piled ts + 2 := by
  have h := textFrom_le ts 0 "["
  unfold listText
  rw [strLen_append]
  have e1 : (("[" : Str)).length = 1 := rfl
  have e2 : (("]" : Str)).length = 1 := rfl
  omega
theorem join_le (ts : List Str) : (Str.join ", " ts).length ≤ piled ts := by
  by_cases h : ts = []
  · subst h
    show 0 ≤ _
    omega
  · have := join_length_add ts h
    omega
theorem tupleText_le (ts : List Str) : (tupleText ts).length ≤ piled ts + 3 := by
  have h := join_le ts
  unfold tupleText
  rw [strLen_append, strLen_append]
  have e1 : (("(" : Str)).length = 1 := rfl
  have e2 : ((if ts.length == 1 then ",)" else ")" : String) : Str).length ≤ 2 := by
    split
    · exact Nat.le_refl 2
    · exact Nat.le_succ 1
  omega
theorem dictText_le (ts : List Str) : (dictText ts).length ≤ piled ts + 2 := by
  have h := join_le ts
  unfold dictText
  rw [strLen_append, strLen_append]
  have e1 : (("{" : Str)).length = 1 := rfl
  have e2 : (("}" : Str)).length = 1 := rfl
  omega
theorem shownKv_le : ∀ (kvs : List (PyData × PyData)), tameKv kvs = true → piled (PyData.shownKv kvs) ≤ 400 * kvs.length
  | [], _ => by show 0 ≤ _; omega
  | (.int i, .int j) :: r, h => by
    have h' : (decide (i.natAbs < 2 ^ 128) && decide (j.natAbs < 2 ^ 128) && tameKv r) = true := h
    simp only [Bool.and_eq_true, decide_eq_true_eq] at h'
    have h1 := int_len h'.1.1
    have h2 := int_len h'.1.2
    have h3 := shownKv_le r h'.2
    show piled ((PyData.shown (.int i) ++ ": " ++ PyData.shown (.int j)) :: PyData.shownKv r) ≤ _
    rw [piled_cons, strLen_append, strLen_append]
    have e1 : ((": " : Str)).length = 2 := rfl
    have e2 : PyData.shown (.int i) = Str.ofString (toString i) := rfl
    have e3 : PyData.shown (.int j) = Str.ofString (toString j) := rfl
    rw [e1, e2, e3, List.length_cons]
    omega
  | (.none, _) :: _, h => by simp [tameKv] at h
  | (.bool _, _) :: _, h => by simp [tameKv] at h
  | (.str x, .int j) :: r, h => by
    have h' : ((decide (x.length ≤ 10) && x.cps.toList.all fun c => decide (c < 16 ^ 8)) && decide (j.natAbs < 2 ^ 128) && tameKv r) = true := h
    rw [Bool.and_eq_true, Bool.and_eq_true, Bool.and_eq_true, decide_eq_true_eq, decide_eq_true_eq] at h'
    have h0 : x.length ≤ 10 := h'.1.1.1
    have h1 := StrLaws.reprText_len x fun c hc => by simpa using List.all_eq_true.mp h'.1.1.2 c hc
    have h2 := int_len h'.1.2
    have h3 := shownKv_le r h'.2
    show piled ((PyData.shown (.str x) ++ ": " ++ PyData.shown (.int j)) :: PyData.shownKv r) ≤ _
    rw [piled_cons, strLen_append, strLen_append]
    have e1 : ((": " : Str)).length = 2 := rfl
    have e2 : PyData.shown (.str x) = reprText x := rfl
    have e3 : PyData.shown (.int j) = Str.ofString (toString j) := rfl
    rw [e1, e2, e3, List.length_cons]
    omega
  | (.str _, .none) :: _, h => by simp [tameKv] at h
  | (.str _, .bool _) :: _, h => by simp [tameKv] at h
  | (.str _, .str _) :: _, h => by simp [tameKv] at h
  | (.str _, .list _) :: _, h => by simp [tameKv] at h
  | (.str _, .tuple _) :: _, h => by simp [tameKv] at h
  | (.str _, .dict _) :: _, h => by simp [tameKv] at h
  | (.list _, _) :: _, h => by simp [tameKv] at h
  | (.tuple _, _) :: _, h => by simp [tameKv] at h
  | (.dict _, _) :: _, h => by simp [tameKv] at h
  | (.int _, .none) :: _, h => by simp [tameKv] at h
  | (.int _, .bool _) :: _, h => by simp [tameKv] at h
  | (.int _, .str _) :: _, h => by simp [tameKv] at h
  | (.int _, .list _) :: _, h => by simp [tameKv] at h
  | (.int _, .tuple _) :: _, h => by simp [tameKv] at h
  | (.int _, .dict _) :: _, h => by simp [tameKv] at h
mutual
theorem shown_len : ∀ (d : PyData), tame d = true → d.shown.length + 2 ≤ 200 * sz d
  | .none, _ => by decide +kernel
  | .bool true, _ => by decide +kernel
  | .bool false, _ => by decide +kernel
  | .int i, h => by
    have := int_len (i := i) (by simpa [tame] using h)
    show (Str.ofString (toString i)).length + 2 ≤ 200 * 1
    omega
  | .str x, h => by
    have h' : (decide (x.length ≤ 10) && x.cps.toList.all fun c => decide (c < 16 ^ 8)) = true := h
    rw [Bool.and_eq_true] at h'
    have h1 : x.length ≤ 10 := by simpa using h'.1
    have := StrLaws.reprText_len x fun c hc => by simpa using List.all_eq_true.mp h'.2 c hc
    show (reprText x).length + 2 ≤ 200 * 1
    omega
  | .list xs, h => by
    have h1 := shownAll_len xs (by simpa [tame] using h)
    have h2 := listText_le (PyData.shownAll xs)
    show (listText (PyData.shownAll xs)).length + 2 ≤ 200 * (1 + szs xs)
    omega
  | .tuple xs, h => by
    have h1 := shownAll_len xs (by simpa [tame] using h)
    have h2 := tupleText_le (PyData.shownAll xs)
    show (tupleText (PyData.shownAll xs)).length + 2 ≤ 200 * (1 + szs xs)
    omega
  | .dict kvs, h => by
    have h1 := shownKv_le kvs (by simpa [tame] using h)
    have h2 := dictText_le (PyData.shownKv kvs)
    show (dictText (PyData.shownKv kvs)).length + 2 ≤ 200 * (1 + 4 * kvs.length)
    omega
theorem shownAll_len : ∀ (xs : List PyData), tames xs = true → piled (PyData.shownAll xs) ≤ 200 * szs xs
  | [], _ => by show 0 ≤ _; omega
  | x :: xs, h => by
    have h' : (tame x && tames xs) = true := h
    rw [Bool.and_eq_true] at h'
    have h1 := shown_len x h'.1
    have h2 := shownAll_len xs h'.2
    show piled (PyData.shown x :: PyData.shownAll xs) ≤ 200 * (sz x + szs xs)
    rw [piled_cons]
    omega
end
theorem showableKv_ok : ∀ (kvs : List (PyData × PyData)), tameKv kvs = true → PyData.showableKv kvs = true
  | [], _ => rfl
  | (.int i, .int j) :: r, h => by
    have h' : (decide (i.natAbs < 2 ^ 128) && decide (j.natAbs < 2 ^ 128) && tameKv r) = true := h
    simp only [Bool.and_eq_true, decide_eq_true_eq] at h'
    have big : ∀ {n : Int}, n.natAbs < 2 ^ 128 → n.natAbs.log2 < 1920 := fun {n} hn => by
      by_cases h0 : n.natAbs = 0
      · rw [h0]; decide
      · exact Nat.lt_trans ((Nat.log2_lt h0).mpr hn) (by decide)
    simp only [PyData.showableKv, PyData.showable, Bool.and_eq_true, decide_eq_true_eq]
    exact ⟨⟨big h'.1.1, big h'.1.2⟩, showableKv_ok r h'.2⟩
  | (.none, _) :: _, h => by simp [tameKv] at h
  | (.bool _, _) :: _, h => by simp [tameKv] at h
  | (.str x, .int j) :: r, h => by
    have h' : ((decide (x.length ≤ 10) && x.cps.toList.all fun c => decide (c < 16 ^ 8)) && decide (j.natAbs < 2 ^ 128) && tameKv r) = true := h
    rw [Bool.and_eq_true, Bool.and_eq_true, decide_eq_true_eq] at h'
    have big : ∀ {n : Int}, n.natAbs < 2 ^ 128 → n.natAbs.log2 < 1920 := fun {n} hn => by
      by_cases h0 : n.natAbs = 0
      · rw [h0]; decide
      · exact Nat.lt_trans ((Nat.log2_lt h0).mpr hn) (by decide)
    simp only [PyData.showableKv, PyData.showable, Bool.and_eq_true, decide_eq_true_eq]
    exact ⟨⟨trivial, big h'.1.2⟩, showableKv_ok r h'.2⟩
  | (.str _, .none) :: _, h => by simp [tameKv] at h
  | (.str _, .bool _) :: _, h => by simp [tameKv] at h
  | (.str _, .str _) :: _, h => by simp [tameKv] at h
  | (.str _, .list _) :: _, h => by simp [tameKv] at h
  | (.str _, .tuple _) :: _, h => by simp [tameKv] at h
  | (.str _, .dict _) :: _, h => by simp [tameKv] at h
  | (.list _, _) :: _, h => by simp [tameKv] at h
  | (.tuple _, _) :: _, h => by simp [tameKv] at h
  | (.dict _, _) :: _, h => by simp [tameKv] at h
  | (.int _, .none) :: _, h => by simp [tameKv] at h
  | (.int _, .bool _) :: _, h => by simp [tameKv] at h
  | (.int _, .str _) :: _, h => by simp [tameKv] at h
  | (.int _, .list _) :: _, h => by simp [tameKv] at h
  | (.int _, .tuple _) :: _, h => by simp [tameKv] at h
  | (.int _, .dict _) :: _, h => by simp [tameKv] at h
mutual
theorem showable_ok : ∀ (d : PyData), tame d = true → d.showable = true
  | .none, _ => rfl
  | .bool _, _ => rfl
  | .int i, h => by
    have h' : i.natAbs < 2 ^ 128 := by simpa [tame] using h
    have : i.natAbs.log2 < 1920 := by
      by_cases h0 : i.natAbs = 0
      · rw [h0]; decide
      · exact Nat.lt_trans ((Nat.log2_lt h0).mpr h') (by decide)
    simp only [PyData.showable]
    exact decide_eq_true this
  | .str _, _ => rfl
  | .list xs, h => by
    simp only [PyData.showable]
    exact showables_ok xs (by simpa [tame] using h)
  | .tuple xs, h => by
    simp only [PyData.showable]
    exact showables_ok xs (by simpa [tame] using h)
  | .dict kvs, h => by
    simp only [PyData.showable]
    exact showableKv_ok kvs (by simpa [tame] using h)
theorem showables_ok : ∀ (xs : List PyData), tames xs = true → PyData.showableAll xs = true
  | [], _ => rfl
  | x :: xs, h => by
    have h' : (tame x && tames xs) = true := h
    rw [Bool.and_eq_true] at h'
    simp only [PyData.showableAll, Bool.and_eq_true]
    exact ⟨showable_ok x h'.1, showables_ok xs h'.2⟩
end
theorem depthKv_le : ∀ (kvs : List (PyData × PyData)), tameKv kvs = true → PyData.depthKv kvs = 0
  | [], _ => rfl
  | (.int i, .int j) :: r, h => by
    have h' : (decide (i.natAbs < 2 ^ 128) && decide (j.natAbs < 2 ^ 128) && tameKv r) = true := h
    simp only [Bool.and_eq_true, decide_eq_true_eq] at h'
    simp only [PyData.depthKv, PyData.depth, depthKv_le r h'.2]
    rfl
  | (.none, _) :: _, h => by simp [tameKv] at h
  | (.bool _, _) :: _, h => by simp [tameKv] at h
  | (.str x, .int j) :: r, h => by
    have h' : ((decide (x.length ≤ 10) && x.cps.toList.all fun c => decide (c < 16 ^ 8)) && decide (j.natAbs < 2 ^ 128) && tameKv r) = true := h
    rw [Bool.and_eq_true] at h'
    simp only [PyData.depthKv, PyData.depth, depthKv_le r h'.2]
    rfl
  | (.str _, .none) :: _, h => by simp [tameKv] at h
  | (.str _, .bool _) :: _, h => by simp [tameKv] at h
  | (.str _, .str _) :: _, h => by simp [tameKv] at h
  | (.str _, .list _) :: _, h => by simp [tameKv] at h
  | (.str _, .tuple _) :: _, h => by simp [tameKv] at h
  | (.str _, .dict _) :: _, h => by simp [tameKv] at h
  | (.list _, _) :: _, h => by simp [tameKv] at h
  | (.tuple _, _) :: _, h => by simp [tameKv] at h
  | (.dict _, _) :: _, h => by simp [tameKv] at h
  | (.int _, .none) :: _, h => by simp [tameKv] at h
  | (.int _, .bool _) :: _, h => by simp [tameKv] at h
  | (.int _, .str _) :: _, h => by simp [tameKv] at h
  | (.int _, .list _) :: _, h => by simp [tameKv] at h
  | (.int _, .tuple _) :: _, h => by simp [tameKv] at h
  | (.int _, .dict _) :: _, h => by simp [tameKv] at h
mutual
theorem depth_le : ∀ (d : PyData), tame d = true → d.depth ≤ sz d
  | .none, _ => Nat.zero_le _
  | .bool _, _ => Nat.zero_le _
  | .int i, _ => Nat.zero_le _
  | .str _, _ => Nat.zero_le _
  | .list xs, h => by
    have := depths_le xs (by simpa [tame] using h)
    simp only [PyData.depth, sz]
    omega
  | .tuple xs, h => by
    have := depths_le xs (by simpa [tame] using h)
    simp only [PyData.depth, sz]
    omega
  | .dict kvs, h => by
    have := depthKv_le kvs (by simpa [tame] using h)
    simp only [PyData.depth, sz]
    omega
theorem depths_le : ∀ (xs : List PyData), tames xs = true → PyData.depthAll xs ≤ szs xs
  | [], _ => Nat.zero_le _
  | x :: xs, h => by
    have h' : (tame x && tames xs) = true := h
    rw [Bool.and_eq_true] at h'
    have h1 := depth_le x h'.1
    have h2 := depths_le xs h'.2
    simp only [PyData.depthAll, szs]
    omega
end
end L2

set_option Elab.async false
set_option linter.all false
set_option maxRecDepth 100000
/-! repr of things; insert; t * n; t == (). -/
namespace L2
open PySem PySem.Spec PyProof.Rows
section
variable {X : Cx} {pins : List (Addr × Obj)} {σ : St} {H : Hp} {s : Shared} {S : Addr → Prop}
theorem pairs_ints {P : Program} {w : World} : ∀ {ks : List (Key × Int)} {vs : List (Key × Value)} {es : List DictEntry}, KV (ks.map fun p => (p.1, V.int p.2)) vs → Pairs (mixKind P w) es vs →
    (∃ as, ReadsAll s.heap (es.map (·.key)) ((ks.map fun p => (keyD p.1, PyData.int p.2)).map (·.1)) as ∧ as = []) ∧ ∃ as, ReadsAll s.heap (es.map (·.val)) ((ks.map fun p => (keyD p.1, PyData.int p.2)).map (·.2)) as ∧ as = []
  | [], vs, es, r, p => by
    cases r
    cases p
    exact ⟨⟨_, .nil, rfl⟩, ⟨_, .nil, rfl⟩⟩
  | (k, n) :: ks, vs, es, r, p => by
    cases r with
    | @cons a b l1 l2 h t =>
      cases p with
      | @cons e kv es' kvs' h1 h2 h3 =>
        obtain ⟨⟨_, i1, rfl⟩, ⟨_, i2, rfl⟩⟩ := pairs_ints (ks := ks) t h3
        obtain ⟨q1, q2⟩ := h
        have h1' : keyIs b.1 e.key = true := h1
        rw [← q1] at h1'
        obtain ⟨tv, ev2⟩ : ∃ t, b.2 = Value.int n t := q2
        rw [ev2] at h2
        refine ⟨⟨_, ?_, rfl⟩, ⟨_, ?_, rfl⟩⟩
        · show ReadsAll s.heap (e.key :: es'.map (·.key)) (keyD k :: _) ([] ++ [])
          rcases keyIs_shape h1' with ⟨i, tk, ei, ev⟩ | ⟨x, tk, ei, ev⟩
          · have ei : k = Sum.inl i := ei
            rw [ev, ei]
            exact .cons (.int _ _) i1
          · have ei : k = Sum.inr x := ei
            rw [ev, ei]
            exact .cons (.str _ _) i1
        · show ReadsAll s.heap (e.val :: es'.map (·.val)) (PyData.int n :: _) ([] ++ [])
          rw [h2]
          exact .cons (.int _ _) i2
mutual
theorem IsTh.reads (I : Inv X pins σ H s) : ∀ {v : V} {d : PyData} {u : Value}, IsTh S H v d → RelV v u → ∃ as, Reads s.heap u d as ∧ ∀ a ∈ as, S a
  | _, _, _, .non, r => by cases (show _ = Value.none from r); exact ⟨[], .none, fun _ h => nomatch h⟩
  | _, _, _, .bl b, r => by cases (show _ = Value.bool b from r); exact ⟨[], .bool b, fun _ h => nomatch h⟩
  | _, _, _, .int i, r => by obtain ⟨t, rfl⟩ := r; exact ⟨[], .int i t, fun _ h => nomatch h⟩
  | _, _, _, .str x, r => by obtain ⟨t, rfl⟩ := r; exact ⟨[], .str x t, fun _ h => nomatch h⟩
  | _, _, _, @IsTh.lst _ _ a xs ds hs e t, r => by
    cases (show _ = Value.ref a from r)
    obtain ⟨_, its, n, rv, ho⟩ := (show ObjOk X.prog X.w H s.heap a (.lst xs) from I.hok a _ e)
    obtain ⟨as, h1, h2⟩ := IsThs.reads I t rv
    refine ⟨a :: as, .list ho rfl rfl (by simpa using h1), fun b hb => ?_⟩
    rcases List.mem_cons.mp hb with z | z
    · rw [z]; exact hs
    · exact h2 b z
  | _, _, _, @IsTh.tup _ _ a xs ds e t, r => by
    cases (show _ = Value.ref a from r)
    obtain ⟨_, its, rv, o, ho, hc, n, hd⟩ := (show ObjOk X.prog X.w H s.heap a (.tup xs) from I.hok a _ e)
    obtain ⟨as, h1, h2⟩ := IsThs.reads I t rv
    exact ⟨as, .tuple ho hc hd (by simpa using h1), h2⟩
  | _, _, _, @IsTh.dct _ _ a ks hs e, r => by
    cases (show _ = Value.ref a from r)
    obtain ⟨_, _, vs, rel, o, es, ep, ho, hx, hd, _, hp, _⟩ := (show ObjOk X.prog X.w H s.heap a (.dK _) from I.hok a _ e)
    obtain ⟨⟨_, i1, rfl⟩, ⟨_, i2, rfl⟩⟩ := pairs_ints (s := s) rel hp
    refine ⟨a :: [] ++ [], .dict ho hx.1 hd i1 i2, fun b hb => ?_⟩
    rw [show b = a by simpa using hb]
    exact hs
theorem IsThs.reads (I : Inv X pins σ H s) : ∀ {vs : List V} {ds : List PyData} {us : List Value}, IsThs S H vs ds → Vals vs us → ∃ as, ReadsAll s.heap us ds as ∧ ∀ a ∈ as, S a
  | _, _, _, .nil, r => by cases r; exact ⟨[], .nil, fun _ h => nomatch h⟩
  | _, _, _, .cons h t, r => by
    cases r with
    | cons r1 r2 =>
      obtain ⟨as, h1, h2⟩ := IsTh.reads I h r1
      obtain ⟨bs, h3, h4⟩ := IsThs.reads I t r2
      exact ⟨as ++ bs, .cons h1 h3, fun b hb => (List.mem_append.mp hb).elim (h2 b) (h4 b)⟩
end
theorem call_repr (hg : X.A.guards = some []) (hS : ¬ S sysModules) : CallR X (.builtin "repr") (fun xs H Q => ∃ v d, xs = [v] ∧ IsTh S H v d ∧ tame d = true ∧ sz d ≤ 4000 ∧ X.A.units + (sz d + 1) < cLine ∧ Q (.str d.shown) H) := by
  intro pins s σ H xs us Q I r h
  obtain ⟨v, d, rfl, th, tm, hz, hu, q⟩ := h
  obtain ⟨u, rfl, ru⟩ := vals1 r
  have hl := shown_len d tm
  have hsz : d.shown.length ≤ sizeLine := by rw [sizeLine_eq]; omega
  have fin : ∀ t h' tk, (∀ b o, s.heap.get? b = some o → h'.get? b = some o) → EP X pins σ Q (.str d.shown t) { s with heap := h', toks := tk } := fun t h' tk k => ⟨.str d.shown, H, I.kept k, ⟨t, rfl⟩, q⟩
  have show1 := showable_ok d tm
  cases th with
  | non => cases (show u = Value.none from ru); exact PySem.P.repr_of_none (fin _ s.heap _ fun _ _ e => e)
  | bl b => cases (show u = Value.bool b from ru); exact PySem.P.repr_of_bool (fin _ s.heap _ fun _ _ e => e)
  | int i =>
    obtain ⟨t, rfl⟩ := ru
    have : i.natAbs.log2 < 1920 := by simpa [PyData.showable] using show1
    exact PySem.P.repr_of_int this (fin _ s.heap _ fun _ _ e => e)
  | str x => obtain ⟨t, rfl⟩ := ru; exact PySem.P.repr_of_str (fin _ s.heap _ fun _ _ e => e) hsz
  | @lst a xs ds hs e t =>
    obtain ⟨as, rd, ha⟩ := (IsTh.lst hs e t).reads I ru
    cases (show u = Value.ref a from ru)
    exact repr_of_reads' rd show1 (fun _ hm => hS (ha _ hm)) hg (by have := depth_le _ tm; omega) (fun b o e => e) (fun h' t tk k => fin t h' tk k) hsz
  | @tup a xs ds e t =>
    obtain ⟨as, rd, ha⟩ := (IsTh.tup (S := S) e t).reads I ru
    cases (show u = Value.ref a from ru)
    exact repr_of_reads' rd show1 (fun _ hm => hS (ha _ hm)) hg (by have := depth_le _ tm; omega) (fun b o e => e) (fun h' t tk k => fin t h' tk k) hsz
  | @dct a ks hs e =>
    obtain ⟨as, rd, ha⟩ := (IsTh.dct hs e).reads I ru
    cases (show u = Value.ref a from ru)
    exact repr_of_reads' rd show1 (fun _ hm => hS (ha _ hm)) hg (by have := depth_le _ tm; omega) (fun b o e => e) (fun h' t tk k => fin t h' tk k) hsz
end
section
variable {X : Cx}
/-! ### xs.insert(i, y), i not below 0 -/
def insV (xs : List V) (i : Nat) (y : V) : List V := xs.take i ++ y :: xs.drop i
def rInsert : V → List V → Hp → VK → Prop := fun x vs H Q => ∃ l xs i y, x = .ref l ∧ vs = [.int i, y] ∧ H l = some (.lst xs) ∧ 0 ≤ i ∧ i ≤ xs.length ∧ xs.length < sizeLine ∧ Q .non (upd H l (.lst (insV xs i.toNat y)))
theorem mt_insert : MtM X "list.insert" rInsert := by
  intro pins s σ H x vs v us Q I rx rv h
  obtain ⟨l, xs, i, y, rfl, rfl, hH, h0, h1, hz, q⟩ := h
  cases rx
  obtain ⟨u, w', rfl, ⟨t, rfl⟩, rw'⟩ := rv.two
  obtain ⟨z, its, n, r, hl, e⟩ := I.lstM hH
  have hn := line63
  refine call_meets F.slot_list_insert ⟨_, e, rfl⟩ F.entry_list_insert (F.args_list_insert_3 _ _ _)
    (AutoSeq1.list_insert_list_int_val_1 l its.toArray n i t w' (by rw [fitsIndex_both (by omega) (by omega)]; exact Bool.false_ne_true) (by rw [List.size_toArray]; omega)) ⟨e, ?_⟩
  refine ⟨.non, _, I.lset (its' := its.take i.toNat ++ w' :: its.drop i.toNat) hH e ?_ (Vals.append (r.take _) (.cons rw' (r.drop _))) ?_, rfl, q⟩
  · have h2 : ¬ i < 0 := by omega
    have h3 : min i.toNat its.toArray.size = i.toNat := by rw [List.size_toArray]; omega
    simp only [h2, if_false, h3]
    simp
    exact List.take_of_length_le (by rw [List.length_drop]; omega)
  · rw [List.length_append, List.length_cons, List.length_take, List.length_drop]
    omega
/-! ### t == () -/
theorem op_eq_nil (hu : X.A.units < cLine) : OpR X (compareOp .Eq) (fun x y H Q => ∃ a b xs, x = .ref a ∧ y = .ref b ∧ SqT X.K H a xs ∧ SqT X.K H b [] ∧ Q (.bl xs.isEmpty) H) := by
  intro pins s σ H x y v u Q I rx ry h
  obtain ⟨a, b, xs, rfl, rfl, ha, hb, q⟩ := h
  cases rx
  cases ry
  obtain ⟨its, r1, p1, _⟩ := I.tuple ha
  obtain ⟨its2, r2, p2, _⟩ := I.tuple hb
  have e2 : its2 = [] := r2.zero
  subst e2
  refine PySem.SeqAt.eq_tupleAt (e := fun _ => true) p1 p2 hu (fun j h1 h2 => absurd h2 (by simp)) ?_
  have e3 : ((List.range (min its.toArray.size ([] : List Value).toArray.size)).all (fun _ => true) && its.toArray.size == ([] : List Value).toArray.size) = xs.isEmpty := by
    have := r1.length
    cases its with
    | nil =>
      cases r1
      rfl
    | cons a r => cases xs with
      | nil => simp at this
      | cons b r' => simp
  rw [e3]
  exact ⟨.bl _, H, I, rfl, q⟩
end
end L2

set_option Elab.async false
set_option linter.all false
set_option maxRecDepth 100000
/-! zip of a tuple and a list, walked. -/
namespace L2
open PySem PySem.Spec PyProof.Rows
section
variable {prog : Program} {w : World} {A : Around} {E : Value → Shared → Prop} {s : Shared}
theorem nx_tup {j t : Addr} {i : Nat} {its : Array Value} {x : Value} {Q : Value → Shared → Prop} (hj : s.heap.IsTupleIter j t i) (ht : s.heap.IsTuple t its) (hx : its[i]? = some x)
    (hQ : ∀ h', h'.IsTupleIter j t (i + 1) → Heap.SameBut j s.heap h' → Q x { s with heap := h' }) : wpAny (model prog w) A (Builtin.SmallTypes.nextOf (.ref j)) Q E s := by
  obtain ⟨o, ho, hc, hd⟩ := id hj
  obtain ⟨p, hp, _, m, hm⟩ := ht
  unfold Builtin.SmallTypes.nextOf
  refine wpAny_bind (wpAny_callSpecial?_slot (name := Str.ofString "__next__") hj.typeIs F.slot_tuple_iterator_next (wpAny_call_entry F.slot_tuple_iterator_next hj.typeIs F.entry_tuple_iterator_next ?_ (F.args_tuple_iterator_next_1 _)))
  show wpAny _ _ (field (.ref j) 0 >>= _) _ _ s
  refine wpAny_bind (wpAny_field ho hd (x := .ref t) rfl ?_)
  show wpAny _ _ (if (Value.ref t == Value.none) = true then _ else _) _ _ s
  rw [if_neg (show ¬ ((Value.ref t == Value.none) = true) by intro z; exact Bool.false_ne_true z)]
  show wpAny _ _ (field (.ref j) 1 >>= _) _ _ s
  refine wpAny_bind (wpAny_field ho hd (x := .int i 0) rfl (wpAny_bind (wpAny_seqItems hp hm ?_)))
  simp only [Int.toNat_natCast, hx]
  refine wpAny_bind (wpAny_setField ho hd (by simp) (wpAny_pure ⟨x, rfl, wpAny_pure (hQ _ ⟨_, Heap.get?_update_self _ ho (Obj.isFreed_of_fields (Obj.data_mapFields hd _)), (Obj.cls_mapFields ..).trans hc, by
    rw [Obj.data_mapFields hd]
    simp [rawInt]⟩ (Heap.SameBut.update ..))⟩))
theorem nx_tup_end {j t : Addr} {i : Nat} {its : Array Value} {Q : Value → Shared → Prop} (hh : A.handled = none) (hj : s.heap.IsTupleIter j t i) (ht : s.heap.IsTuple t its) (hx : its[i]? = none)
    (hE : ∀ h' e, Heap.ExtBut j s.heap h' → (∃ o, h'.get? e = some o ∧ o.cls = .type "StopIteration") → E (.ref e) { s with heap := h' }) : wpAny (model prog w) A (Builtin.SmallTypes.nextOf (.ref j)) Q E s := by
  obtain ⟨o, ho, hc, hd⟩ := id hj
  obtain ⟨p, hp, _, m, hm⟩ := ht
  unfold Builtin.SmallTypes.nextOf
  refine wpAny_bind (wpAny_callSpecial?_slot (name := Str.ofString "__next__") hj.typeIs F.slot_tuple_iterator_next (wpAny_call_entry F.slot_tuple_iterator_next hj.typeIs F.entry_tuple_iterator_next ?_ (F.args_tuple_iterator_next_1 _)))
  show wpAny _ _ (field (.ref j) 0 >>= _) _ _ s
  refine wpAny_bind (wpAny_field ho hd (x := .ref t) rfl ?_)
  show wpAny _ _ (if (Value.ref t == Value.none) = true then _ else _) _ _ s
  rw [if_neg (show ¬ ((Value.ref t == Value.none) = true) by intro z; exact Bool.false_ne_true z)]
  show wpAny _ _ (field (.ref j) 1 >>= _) _ _ s
  refine wpAny_bind (wpAny_field ho hd (x := .int i 0) rfl (wpAny_bind (wpAny_seqItems hp hm ?_)))
  simp only [Int.toNat_natCast, hx]
  refine wpAny_bind (wpAny_rule (wpAny_bind (wpAny_setField ho hd (by simp) ?_)))
  show wpAny _ _ (newExc (.type "StopIteration") [] >>= _) _ _ _
  refine wpAny_bind ?_
  simp only [newExc, newTuple]
  refine wpAny_bind (wpAny_newObj_type (wpAny_bind (m := firstArgMember _ _) (wpAny_of_eq (a := Value.none) (by first | rfl | (simp only [firstArgMember]; rfl)) (wpAny_newObj_type ?_ (by size_fits)))) (by size_fits))
  simp only [raiseNew]
  refine wpAny_bind (wpAny_handled ?_)
  first
    | rw [show A.in1.handled = none from hh]
    | rw [hh]
  exact wpAny_bind (wpAny_pure (wpAny_throw (hE _ _ (((Heap.SameBut.update ..).extBut.push _).push _) ⟨_, Heap.get?_push_size _ rfl, rfl⟩)))

theorem zip_tl_item {z TI TO i1 i2 l1 l2 : Addr} {k : Nat} {xs ys : Array Value} {x y a b : Value} {Q : Option Value → Shared → Prop} (D : ZipApart z TI TO i1 i2 l1 l2)
    (hz : IsZip s.heap z TI TO .none) (hTI : IsPair s.heap TI (.ref i1) (.ref i2)) (hTO : IsPair s.heap TO a b)
    (h1 : s.heap.IsTupleIter i1 l1 k) (h2 : s.heap.IsListIter i2 l2 k) (hl1 : s.heap.IsTuple l1 xs) (hl2 : s.heap.IsList l2 ys) (hx : xs[k]? = some x) (hy : ys[k]? = some y)
    (hQ : ∀ h', IsZip h' z TI TO (rawInt s.heap.objs.size) → IsPair h' TO x y → h'.IsTupleIter i1 l1 (k + 1) → h'.IsListIter i2 l2 (k + 1) → IsPair h' s.heap.objs.size x y → h'.objs.size = s.heap.objs.size + 1 →
      (∀ c o, c ≠ z → c ≠ TO → c ≠ i1 → c ≠ i2 → s.heap.get? c = some o → h'.get? c = some o) → Q (some (.ref s.heap.objs.size)) { s with heap := h' }) :
    wpAny (model prog w) A (pyNext (.ref z)) Q E s := by
  have hT : s.TypeIs (.ref z) "zip" := ⟨_, hz, rfl⟩
  unfold pyNext
  refine wpAny_bind (wpAny_attempt (wpAny_callSpecial?_slot (name := Str.ofString "__next__") hT F.slot_zip_next (wpAny_call_entry F.slot_zip_next hT F.entry_zip_next ?_ (F.args_zip_next_1 _))))
  show wpAny _ _ (field (.ref z) 2 >>= _) _ _ _
  refine wpAny_bind (wpAny_field hz rfl (x := .bool false) rfl ?_)
  show wpAny _ _ (field (.ref z) 3 >>= _) _ _ _
  refine wpAny_bind (wpAny_field hz rfl (x := .ref TI) rfl (wpAny_bind (wpAny_seqItems hTI rfl ?_)))
  show wpAny _ _ (Builtin.SmallTypes.ownedTupleIsFree (.ref z) >>= _) _ _ _
  refine wpAny_bind ?_
  unfold Builtin.SmallTypes.ownedTupleIsFree
  refine wpAny_bind (wpAny_field hz rfl (x := .none) rfl (wpAny_pure ?_))
  simp only [if_true]
  refine wpAny_bind (wpAny_rule (wpAny_bind (wpAny_field hz rfl (x := .ref TO) rfl (wpAny_bind (wpAny_setField_rec hz (by simp) fun g1 z1 s1 => ?_)))))
  replace z1 : IsZip g1 z TI TO .ellipsis := z1
  refine wpAny_bind ?_
  simp only [List.zipIdx_cons, List.zipIdx_nil, List.forIn_cons, List.forIn_nil]
  refine wpAny_bind (wpAny_bind (wpAny_onRaise ?_))
  show wpAny _ _ (Builtin.SmallTypes.nextOf (.ref i1) >>= _) _ _ _
  refine wpAny_bind (nx_tup (h1.extBut s1.extBut D.i1z) (hl1.extBut s1.extBut D.l1z) hx fun g2 q1 s2 => wpAny_pure ?_)
  have o2 : IsPair g2 TO a b := s2.extBut _ _ D.TOi1 (s1.extBut _ _ D.TOz hTO)
  refine wpAny_bind (wpAny_seqItems o2 rfl (wpAny_bind (wpAny_updateSeq_pair o2 fun g3 o3 s3 => ?_)))
  replace o3 : IsPair g3 TO x b := o3
  refine wpAny_bind (wpAny_letGo (wpAny_pure (wpAny_bind (wpAny_bind (wpAny_onRaise ?_)))))
  show wpAny _ _ (Builtin.SmallTypes.nextOf (.ref i2) >>= _) _ _ _
  refine wpAny_bind (wpAny_nextOf_list_item (((h2.extBut s1.extBut D.i2z).extBut s2.extBut D.i12.symm).extBut s3.extBut D.TOi2.symm) (((hl2.extBut s1.extBut D.l2z).extBut s2.extBut D.l2i1).extBut s3.extBut D.l2TO) hy fun g4 q2 s4 => wpAny_pure ?_)
  have o4 : IsPair g4 TO x b := s4.extBut _ _ D.TOi2 o3
  refine wpAny_bind (wpAny_seqItems o4 rfl (wpAny_bind (wpAny_updateSeq_pair o4 fun g5 o5 s5 => ?_)))
  replace o5 : IsPair g5 TO x y := o5
  refine wpAny_bind (wpAny_letGo (wpAny_pure (wpAny_pure (wpAny_bind (wpAny_seqItems o5 rfl (wpAny_bind (wpAny_newTuple ?_)))))))
  have hsz : g5.objs.size = s.heap.objs.size := by rw [s5.1, s4.1, s3.1, s2.1, s1.1]
  have z5 : IsZip g5 z TI TO .ellipsis := s5.extBut _ _ D.TOz.symm (s4.extBut _ _ D.i2z.symm (s3.extBut _ _ D.TOz.symm (s2.extBut _ _ D.i1z.symm z1)))
  have k5 : ∀ c o, c ≠ z → c ≠ TO → c ≠ i1 → c ≠ i2 → s.heap.get? c = some o → g5.get? c = some o := fun c o c1 c2 c3 c4 e => s5.extBut _ _ c2 (s4.extBut _ _ c4 (s3.extBut _ _ c2 (s2.extBut _ _ c3 (s1.extBut _ _ c1 e))))
  have p1 : g5.IsTupleIter i1 l1 (k + 1) := ((q1.extBut s3.extBut D.TOi1.symm).extBut s4.extBut D.i12).extBut s5.extBut D.TOi1.symm
  have p2 : g5.IsListIter i2 l2 (k + 1) := q2.extBut s5.extBut D.TOi2.symm
  have zlt : z < g5.objs.size := Heap.lt_size z5
  show wpAny _ _ (Builtin.SmallTypes.ownedTupleHandOut (.ref z) (.ref g5.objs.size) >>= _) _ _ _
  refine wpAny_bind ?_
  unfold Builtin.SmallTypes.ownedTupleHandOut
  have z6 : IsZip (g5.push { cls := .type "tuple", data := .seq #[x, y] }) z TI TO .ellipsis := Heap.get?_push_of_some _ z5
  refine wpAny_bind (wpAny_setField_rec z6 (by simp) fun g7 z7 s7 => ?_)
  replace z7 : IsZip g7 z TI TO (rawInt g5.objs.size) := z7
  refine wpAny_setField_rec z7 (by simp) fun g8 z8 s8 => ?_
  replace z8 : IsZip g8 z TI TO (rawInt g5.objs.size) := z8
  have up : ∀ c o, c ≠ z → g5.get? c = some o → g8.get? c = some o := fun c o c1 e => s8.extBut _ _ c1 (s7.extBut _ _ c1 (Heap.get?_push_of_some _ e))
  have t8 : IsPair g8 g5.objs.size x y := s8.extBut _ _ (Nat.ne_of_gt zlt) (s7.extBut _ _ (Nat.ne_of_gt zlt) (Heap.get?_push_size _ rfl))
  have n8 : g8.objs.size = g5.objs.size + 1 := by rw [s8.1, s7.1, Heap.size_push]
  rw [hsz] at z8 t8 n8
  refine wpAny_pure ⟨_, rfl, wpAny_pure ?_⟩
  show Q (some (.ref g5.objs.size)) _
  rw [hsz]
  exact hQ g8 z8 (up _ _ D.TOz o5) (p1.at fun o e => up _ o D.i1z e) (p2.at fun o e => up _ o D.i2z e) t8 n8 fun c o c1 c2 c3 c4 e => up c o c1 (k5 c o c1 c2 c3 c4 e)
theorem zip_tl_end {z TI TO i1 i2 l1 l2 : Addr} {k : Nat} {xs : Array Value} {a b : Value} {Q : Option Value → Shared → Prop} (hh : A.handled = none) (D : ZipApart z TI TO i1 i2 l1 l2)
    (hz : IsZip s.heap z TI TO .none) (hTI : IsPair s.heap TI (.ref i1) (.ref i2)) (hTO : IsPair s.heap TO a b) (h1 : s.heap.IsTupleIter i1 l1 k) (hl1 : s.heap.IsTuple l1 xs) (hx : xs[k]? = none)
    (hQ : ∀ h', (∀ c o, c ≠ z → c ≠ i1 → s.heap.get? c = some o → h'.get? c = some o) → Q none { s with heap := h' }) : wpAny (model prog w) A (pyNext (.ref z)) Q E s := by
  have hT : s.TypeIs (.ref z) "zip" := ⟨_, hz, rfl⟩
  unfold pyNext
  refine wpAny_bind (wpAny_attempt (wpAny_callSpecial?_slot (name := Str.ofString "__next__") hT F.slot_zip_next (wpAny_call_entry F.slot_zip_next hT F.entry_zip_next ?_ (F.args_zip_next_1 _))))
  show wpAny _ _ (field (.ref z) 2 >>= _) _ _ _
  refine wpAny_bind (wpAny_field hz rfl (x := .bool false) rfl ?_)
  show wpAny _ _ (field (.ref z) 3 >>= _) _ _ _
  refine wpAny_bind (wpAny_field hz rfl (x := .ref TI) rfl (wpAny_bind (wpAny_seqItems hTI rfl ?_)))
  show wpAny _ _ (Builtin.SmallTypes.ownedTupleIsFree (.ref z) >>= _) _ _ _
  refine wpAny_bind ?_
  unfold Builtin.SmallTypes.ownedTupleIsFree
  refine wpAny_bind (wpAny_field hz rfl (x := .none) rfl (wpAny_pure ?_))
  simp only [if_true]
  refine wpAny_bind (wpAny_rule (wpAny_bind (wpAny_field hz rfl (x := .ref TO) rfl (wpAny_bind (wpAny_setField_rec hz (by simp) fun g1 z1 s1 => ?_)))))
  replace z1 : IsZip g1 z TI TO .ellipsis := z1
  refine wpAny_bind ?_
  simp only [List.zipIdx_cons, List.zipIdx_nil, List.forIn_cons, List.forIn_nil]
  refine wpAny_bind (wpAny_bind (wpAny_onRaise ?_))
  show wpAny _ _ (Builtin.SmallTypes.nextOf (.ref i1) >>= _) _ _ _
  refine wpAny_bind (nx_tup_end hh (h1.extBut s1.extBut D.i1z) (hl1.extBut s1.extBut D.l1z) hx fun g2 e s2 he => ?_)
  obtain ⟨oe, hoe, hce⟩ := he
  have z2 : IsZip g2 z TI TO .ellipsis := s2 _ _ D.i1z.symm z1
  have hez : e ≠ z := fun q => by
    subst q
    rw [z2] at hoe
    cases hoe
    simp at hce
  refine wpAny_setField_rec z2 (by simp) fun g3 _ s3 => ?_
  refine wpAny_bind (wpAny_isInstance (T := "StopIteration") (b := true) ⟨oe, s3.extBut _ _ hez hoe, hce⟩ isSubtype_stop (wpAny_pure (hQ _ fun c o c1 c2 q => s3.extBut _ _ c1 (s2 _ _ c2 (s1.extBut _ _ c1 q)))))
end

/-! ### zip(t, l) -/
abbrev zA (h : Heap) (t : Addr) : Heap := h.push { cls := .type "tuple_iterator", data := .fields #[.ref t, .int 0 0] }
abbrev zB (h : Heap) (t l : Addr) : Heap := (zA h t).push { cls := .type "list_iterator", data := .fields #[.ref l, .int 0 0] }
abbrev zC (h : Heap) (t l : Addr) : Heap := (zB h t l).push { cls := .type "tuple", data := .seq #[.ref h.objs.size, .ref (zA h t).objs.size] }
abbrev zD (h : Heap) (t l : Addr) : Heap := (zC h t l).push { cls := .type "tuple", data := .seq #[.none, .none] }
abbrev zE (h : Heap) (t l : Addr) : Heap := (zD h t l).push { cls := .type "zip", data := .fields #[.none, .bool false, .bool false, .ref (zB h t l).objs.size, .ref (zC h t l).objs.size] }
theorem meets_zip_tl (t l : Addr) (xs ys : Array Value) :
    Meets (Builtin.«zip.__new__» ⟨[.type "zip", .ref t, .ref l], []⟩) (fun _ R s => s.heap.IsTuple t xs ∧ s.heap.IsList l ys ∧ R (.ok (.ret (.ref (zD s.heap t l).objs.size))) { s with heap := zE s.heap t l }) :=
  .of_wp fun prog w A R s h => by
    obtain ⟨hp, g, d, tk, os⟩ := s
    obtain ⟨ht, hl, h⟩ := h
    have hsub := sub_zip
    have hT : Heap.IsTuple (Shared.heap ⟨hp, g, d, tk, os⟩) t xs := ht
    have hL : Heap.IsList (Shared.heap ⟨hp.push { cls := .type "tuple_iterator", data := .fields #[.ref t, .int 0 0] }, g, d, tk, os⟩) l ys := Heap.IsList.push hl _
    wp_walk using wpAny_pyIter_tuple hT, wpAny_pyIter_list hL
    exact ⟨_, rfl, h⟩
theorem call_zip_tl {prog : Program} {w : World} {A : Around} {E : Value → Shared → Prop} {s : Shared} {t l : Addr} {xs ys : Array Value} {Q : Value → Shared → Prop} (ht : s.heap.IsTuple t xs) (hl : s.heap.IsList l ys)
    (h : ∀ h', IsZip h' (s.heap.objs.size + 4) (s.heap.objs.size + 2) (s.heap.objs.size + 3) .none → IsPair h' (s.heap.objs.size + 2) (.ref s.heap.objs.size) (.ref (s.heap.objs.size + 1)) → IsPair h' (s.heap.objs.size + 3) .none .none →
      h'.IsTupleIter s.heap.objs.size t 0 → h'.IsListIter (s.heap.objs.size + 1) l 0 → (∀ c o, s.heap.get? c = some o → h'.get? c = some o) → Q (.ref (s.heap.objs.size + 4)) { s with heap := h' }) :
    wpAny (model prog w) A (call (.type "zip") [.ref t, .ref l]) Q E s := by
  refine callType_new F.called_zip (by decide) (F.typeCall_zip_2 _ _) (F.newCall_zip_2 _ _) (fun obj => F.args_object_init_3 obj _ _) F.entry_zip_new (meets_zip_tl t l xs ys) ⟨ht, hl, ?_⟩
  have e1 : (zA s.heap t).objs.size = s.heap.objs.size + 1 := Heap.size_push ..
  have e2 : (zB s.heap t l).objs.size = s.heap.objs.size + 2 := by rw [Heap.size_push, e1]
  have e3 : (zC s.heap t l).objs.size = s.heap.objs.size + 3 := by rw [Heap.size_push, e2]
  have e4 : (zD s.heap t l).objs.size = s.heap.objs.size + 4 := by rw [Heap.size_push, e3]
  have up4 : ∀ {c o}, (zD s.heap t l).get? c = some o → (zE s.heap t l).get? c = some o := fun e => Heap.get?_push_of_some _ e
  have up3 : ∀ {c o}, (zC s.heap t l).get? c = some o → (zE s.heap t l).get? c = some o := fun e => up4 (Heap.get?_push_of_some _ e)
  have up2 : ∀ {c o}, (zB s.heap t l).get? c = some o → (zE s.heap t l).get? c = some o := fun e => up3 (Heap.get?_push_of_some _ e)
  have up1 : ∀ {c o}, (zA s.heap t).get? c = some o → (zE s.heap t l).get? c = some o := fun e => up2 (Heap.get?_push_of_some _ e)
  have g5 : (zE s.heap t l).get? (zD s.heap t l).objs.size = some _ := Heap.get?_push_size _ rfl
  have g4 : (zE s.heap t l).get? (zC s.heap t l).objs.size = some _ := up4 (Heap.get?_push_size _ rfl)
  have g3 : (zE s.heap t l).get? (zB s.heap t l).objs.size = some _ := up3 (Heap.get?_push_size _ rfl)
  have g2 : (zE s.heap t l).get? (zA s.heap t).objs.size = some _ := up2 (Heap.get?_push_size _ rfl)
  have g1 : (zE s.heap t l).get? s.heap.objs.size = some _ := up1 (Heap.get?_push_size _ rfl)
  show _ ∧ _
  rw [e4, e2, e3] at g5
  rw [e2, e1] at g3
  rw [e3] at g4
  rw [e1] at g2
  rw [e4]
  exact ⟨⟨_, g5, rfl⟩, h _ g5 g3 g4 ⟨_, g1, rfl, rfl⟩ ⟨_, g2, rfl, rfl⟩ fun c o x => up1 (Heap.get?_push_of_some _ x)⟩
/-- the pairs of the tuple at a and the list at b -/
def Itz (K : PySem.W.Frag) (a b : Addr) : It :=
  ⟨fun i H => ∃ xs ys x y, SqT K H a xs ∧ SqL K H b ys ∧ xs[i]? = some x ∧ ys[i]? = some y,
   fun i H v H' => ∃ T, H T = none ∧ v = .ref T ∧ ∀ xs ys, SqT K H a xs → SqL K H b ys → ∃ x y, xs[i]? = some x ∧ ys[i]? = some y ∧ H' = upd H T (.tup [x, y]),
   fun i H => ∃ xs, SqT K H a xs ∧ xs.length ≤ i⟩
def tnz (z TI TO i1 i2 a b : Addr) (i : Nat) (h : Heap) : Prop := IsZip h z TI TO .none ∧ IsPair h TI (.ref i1) (.ref i2) ∧ (∃ u v, IsPair h TO u v) ∧ h.IsTupleIter i1 a i ∧ h.IsListIter i2 b i
theorem turn_zip {P : Program} {w : World} {K : PySem.W.Frag} {es : List Expr} {k : Nat} {pos : Pos} {z TI TO i1 i2 a b : Addr} (D : ZipApart z TI TO i1 i2 a b) :
    Turn P w K (.Tuple es k pos) (Itz K a b) [z, TI, TO, i1, i2] z (tnz z TI TO i1 i2 a b) where
  mem := by simp
  obj := fun i h st c hc => by
    obtain ⟨s1, s2, ⟨u, v, s3⟩, ⟨o4, s4, c4, d4⟩, ⟨o5, s5, c5, d5⟩⟩ := st
    simp only [List.mem_cons, List.not_mem_nil, or_false] at hc
    rcases hc with e | e | e | e | e <;> subst e
    · exact ⟨_, s1, fun v q => by cases q⟩
    · exact ⟨_, s2, fun v q => by cases q⟩
    · exact ⟨_, s3, fun v q => by cases q⟩
    · exact ⟨_, s4, fun v q => by rw [d4] at q; cases q⟩
    · exact ⟨_, s5, fun v q => by rw [d5] at q; cases q⟩
  keep := fun i h h' st kp => by
    obtain ⟨s1, s2, ⟨u, v, s3⟩, s4, s5⟩ := st
    exact ⟨kp z (by simp) _ s1, kp TI (by simp) _ s2, ⟨u, v, kp TO (by simp) _ s3⟩, s4.at fun o e => kp i1 (by simp) o e, s5.at fun o e => kp i2 (by simp) o e⟩
  item := by
    intro X hP hw hK hc i pins s σ H E I hf st hg
    subst hP hw hK
    obtain ⟨s1, s2, ⟨u, v, s3⟩, s4, s5⟩ := st
    obtain ⟨xs, ys, x, y, hxs, hys, hx, hy⟩ := hg
    obtain ⟨its, rv, p, _⟩ := I.tuple hxs
    obtain ⟨jts, rw', q, _⟩ := I.list hys
    obtain ⟨ux, hux, rx⟩ := rv.get hx
    obtain ⟨uy, huy, ry⟩ := rw'.get hy
    refine zip_tl_item D s1 s2 s3 s4 s5 (show s.heap.IsTuple a its.toArray from p) q.isList (x := ux) (y := uy) (by simpa using hux) (by simpa using huy) fun h1 g1 g2 g3 g4 g5 g6 kp => ?_
    refine ⟨_, rfl, ?_⟩
    refine wpAny_letOwnedTupleGo_zip g1 fun h2 e1 sb => ?_
    have ne : ∀ c, c ∈ [z, TI, TO, i1, i2] → c ≠ s.heap.objs.size := fun c hc' e => by
      obtain ⟨f0, f1, f2, f3, f4, f5⟩ := hf c hc'
      have : ∃ o, s.heap.get? c = some o := by
        simp only [List.mem_cons, List.not_mem_nil, or_false] at hc'
        rcases hc' with q | q | q | q | q <;> subst q
        · exact ⟨_, s1⟩
        · exact ⟨_, s2⟩
        · exact ⟨_, s3⟩
        · exact let ⟨o, h, _⟩ := s4; ⟨o, h⟩
        · exact let ⟨o, h, _⟩ := s5; ⟨o, h⟩
      obtain ⟨o, ho⟩ := this
      exact absurd (Heap.lt_size ho) (by rw [e]; exact Nat.lt_irrefl _)
    have hT : H s.heap.objs.size = none := I.hok.fresh (Nat.le_refl _)
    have kept : ∀ c o, c ∉ [z, TO, i1, i2] → s.heap.get? c = some o → h2.get? c = some o := fun c o hc' e =>
      sb.extBut _ _ (fun q => hc' (by simp [q])) (kp c o (fun q => hc' (by simp [q])) (fun q => hc' (by simp [q])) (fun q => hc' (by simp [q])) (fun q => hc' (by simp [q])) e)
    have inF : ∀ c, c ∈ [z, TO, i1, i2] → c ∈ [z, TI, TO, i1, i2] := fun c hc' => by
      simp only [List.mem_cons, List.not_mem_nil, or_false] at hc' ⊢
      rcases hc' with q | q | q | q <;> simp [q]
    have trk : ∀ c o, H c = some o → c ∉ [z, TO, i1, i2] := fun c o e hc' => by
      have := (hf c (inF c hc')).1
      rw [e] at this; cases this
    have newT : h2.get? s.heap.objs.size = some { cls := .type "tuple", data := .seq #[ux, uy] } := sb.extBut _ _ (Ne.symm (ne z (by simp))) g5
    have hok2 : HOk X.prog X.w (upd H s.heap.objs.size (.tup [x, y])) h2 := fun c o e => by
      by_cases hb : c = s.heap.objs.size
      · subst hb
        rw [upd_same] at e
        cases e
        exact ⟨by show 2 ≤ sizeLine; decide, [ux, uy], .cons rx (.cons ry .nil), _, newT, rfl, _, rfl⟩
      · rw [upd_ne hb] at e
        refine (I.hok c o e).stay (fun d v hd q => kept d v ?_ q) (fun d q => by rw [upd_ne (ne_of_none q hT)]; exact q) fun d l q => by rw [upd_ne (ne_of_none q hT)]; exact q
        rcases hd with e' | e'
        · rw [e']; exact trk c o e
        · exact trk d _ e'
    have I2 : Inv X pins σ (upd H s.heap.objs.size (.tup [x, y])) { s with heap := h2 } := by
      refine I.step (g' := s.gens) (d' := s.drawn) (t' := s.toks) (ch := [z, TO, i1, i2]) (fun c hc' => ?_) (fun c o _ _ hn e _ => kept c o hn e) (fun c o _ _ hn e _ => ⟨o.slots, kept c o hn e⟩)
        (fun c o _ e n => by rw [upd_ne (Nat.ne_of_lt (Heap.lt_size e))]; exact n) (fun c o hn e => ⟨o, kept c o hn e⟩) (fun c l e => by rw [upd_ne (ne_of_none e hT)]; exact e) (fun c o l e => by rw [upd_ne (ne_of_none e hT)]; exact e)
        (fun c l e => ⟨#[], by rw [upd_ne (ne_of_none e hT), e]; simp⟩) (fun m hm => ?_) hok2 I.bare
      · obtain ⟨f0, f1, f2, f3, f4, f5⟩ := hf c (inF c hc')
        exact ⟨f3, f1, f4, f5⟩
      · obtain ⟨o, es', ep, ho, r⟩ := hm
        refine ⟨o, es', ep, kept _ o (fun hc' => ?_) ho, r⟩
        exact (hf _ (inF _ hc')).2.1 rfl
    refine ⟨.ref s.heap.objs.size, _, I2, rfl, ⟨s.heap.objs.size, hT, rfl, fun xs' ys' e1' e2' => ⟨x, y, ?_, ?_, rfl⟩⟩, ⟨e1, ?_, ?_, ?_, ?_⟩, fun c hc' => ?_⟩
    · rw [I.tuple_inj e1' hxs]; exact hx
    · rw [I.list_inj e2' hys]; exact hy
    · exact sb.extBut _ _ D.TIz (kp _ _ D.TIz D.TITO D.TIi1 D.TIi2 s2)
    · exact ⟨_, _, sb.extBut _ _ D.TOz g2⟩
    · exact g3.extBut sb.extBut D.i1z
    · exact g4.extBut sb.extBut D.i2z
    · rw [upd_ne (ne c hc')]
      exact (hf c hc').1
  done := by
    intro X hP hw hK hc i pins s σ H E I hf st hg
    subst hP hw hK
    obtain ⟨s1, s2, ⟨u, v, s3⟩, s4, s5⟩ := st
    obtain ⟨xs, hxs, hlen⟩ := hg
    obtain ⟨its, rv, p, _⟩ := I.tuple hxs
    have hl := rv.length
    refine zip_tl_end (I.ok.hd hc) D s1 s2 s3 s4 (show s.heap.IsTuple a its.toArray from p) (by simp; omega) fun h' kp => ⟨rfl, ?_⟩
    refine I.step (h' := h') (H' := H) (g' := s.gens) (d' := s.drawn) (t' := s.toks) (ch := [z, i1]) (fun c hc' => ?_) (fun c o _ _ hn e _ => kp c o (fun q => hn (by simp [q])) (fun q => hn (by simp [q])) e)
      (fun c o _ _ hn e _ => ⟨o.slots, kp c o (fun q => hn (by simp [q])) (fun q => hn (by simp [q])) e⟩) (fun c o _ e n => n) (fun c o hn e => ⟨o, kp c o (fun q => hn (by simp [q])) (fun q => hn (by simp [q])) e⟩)
      (fun _ _ e => e) (fun _ _ _ e => e) (fun c l e => ⟨#[], by rw [e]; simp⟩) (fun m hm => ?_) (fun c o e => ?_) I.bare
    · have : c ∈ [z, TI, TO, i1, i2] := by
        simp only [List.mem_cons, List.not_mem_nil, or_false] at hc' ⊢
        rcases hc' with q | q <;> simp [q]
      obtain ⟨f0, f1, f2, f3, f4, f5⟩ := hf c this
      exact ⟨f3, f1, f4, f5⟩
    · obtain ⟨o, es', ep, ho, r⟩ := hm
      exact ⟨o, es', ep, kp _ o (Ne.symm (hf z (by simp)).2.1) (Ne.symm (hf i1 (by simp)).2.1) ho, r⟩
    · have nn : ∀ d v c', c' ∈ [z, TI, TO, i1, i2] → H d = some v → d ≠ c' := fun d v c' hc' q e' => by
        have := (hf c' hc').1
        rw [← e', q] at this
        cases this
      have nz : ∀ d v, H d = some v → d ≠ z ∧ d ≠ i1 := fun d v q => ⟨nn d v z (by simp) q, nn d v i1 (by simp) q⟩
      refine (I.hok c o e).stay (fun d v hd q => ?_) (fun _ q => q) fun _ _ q => q
      rcases hd with e' | e'
      · rw [e'] at q ⊢; exact kp c v (nz c o e).1 (nz c o e).2 q
      · exact kp d v (nz d _ e').1 (nz d _ e').2 q
  self := fun _ _ _ _ _ st h => wpAny_pyIter_zip st.1 h
section
variable {X : Cx}
def iZip (K : PySem.W.Frag) (t : TA) : TI := fun σ H R => t σ H fun vs H1 => ∃ a b xs ys, vs = [.ref a, .ref b] ∧ SqT K H1 a xs ∧ SqL K H1 b ys ∧ R (Itz K a b) H1
theorem pi_zip {es : List Expr} {k : Nat} {tp : Pos} {a b : Expr} {ta : TA} {p pos : Pos} (hg : Gl X "zip") (hm : X.mg "zip" = none) (ha : PA X [a, b] ta) (hs : starEach [a, b] X.env = [(false, eval a X.env), (false, eval b X.env)] := by rfl) (hs2 : starEach [b] X.env = [(false, eval b X.env)] := by rfl) :
    PI X (.Tuple es k tp) (.Call (.Name "zip" p) [a, b] [] pos) (iZip X.K ta) := by
  intro pins s σ H R I h
  refine Call_ (ld_blt I hg hm boot_zip (PyProof.Rows.callWith_type1 (thn (ha pos pins s σ H _ I h) fun us s1 ⟨vs, H1, I1, r1, q1⟩ => ?_) (by rw [hs, hs2]) (by rw [hs2]; rfl)))
  obtain ⟨x, y, xs, ys, e, hx, hy, q⟩ := q1
  subst e
  obtain ⟨u, v, rfl, ru, rv⟩ := vals2 r1
  cases ru
  cases rv
  obtain ⟨its, _, p1, _⟩ := I1.tuple hx
  obtain ⟨jts, _, p2, _⟩ := I1.list hy
  refine call_zip_tl (show s1.heap.IsTuple x its.toArray from p1) p2.isList fun h' z1 z2 z3 z4 z5 kp => ?_
  refine wpAny_pyIter_zip z1 ?_
  have lx : x < s1.heap.objs.size := by obtain ⟨_, e, _⟩ := (show s1.heap.IsTuple x its.toArray from p1); exact Heap.lt_size e
  have ly : y < s1.heap.objs.size := by obtain ⟨_, e, _⟩ := p2.isList; exact Heap.lt_size e
  refine ⟨_, _, _, _, H1, rfl, I1.kept (t' := s1.toks) kp, turn_zip (zipApart_new lx ly), ⟨z1, z2, ⟨_, _, z3⟩, z4, z5⟩, fun c hc => ?_, q⟩
  have hle : s1.heap.objs.size ≤ c := by
    simp only [List.mem_cons, List.not_mem_nil, or_false] at hc
    rcases hc with q | q | q | q | q <;> subst q
    · exact Nat.le_add_right _ 4
    · exact Nat.le_add_right _ 2
    · exact Nat.le_add_right _ 3
    · exact Nat.le_refl _
    · exact Nat.le_add_right _ 1
  exact I1.fpOk hle (I1.hok.fresh hle)
end
end L2

set_option Elab.async false
set_option linter.all false
set_option maxRecDepth 100000
/-! Comprehensions of truths over things; lists and dicts that become things; t * n. -/
namespace L2
open PySem PySem.Spec PyProof.Rows
theorem IsTh.same {S : Addr → Prop} {H H' : Hp} {v : V} {d : PyData} (h : IsTh S H v d) (s : Same H H') : IsTh S H' v d := h.keep (fun b xs e => s b _ e) (fun b o _ e => s b o e) fun _ _ z _ => z
theorem IsThs.same {S : Addr → Prop} {H H' : Hp} {v : List V} {d : List PyData} (h : IsThs S H v d) (s : Same H H') : IsThs S H' v d := h.keep (fun b xs e => s b _ e) (fun b o _ e => s b o e) fun _ _ z _ => z
theorem Same.upd {H : Hp} {D : Addr} {o : HO} (h : H D = none) : Same H (upd H D o) := fun b u e => by rw [upd_ne (ne_of_none e h)]; exact e
theorem Same.updR {H H' : Hp} {D : Addr} {o : HO} (s : Same H H') (h : H' D = none) : Same H (L2.upd H' D o) := s.trans (Same.upd h)
/-- [f(x) for x in t]: truths -/
theorem comp_truths {K : PySem.W.Frag} {S : Addr → Prop} {te : TE} {a : Addr} {xs : List V} {ds : List PyData} (f : PyData → Bool) {σ0 : St} {j : Nat} {H0 : Hp} {Fin : List V → Hp → Prop} (hT : H0 a = some (.tup xs)) (th : IsThs S H0 xs ds) (hl : xs.length < sizeLine)
    (hte : ∀ v d H Q, d ∈ ds → Same H0 H → IsTh S H v d → (∀ H', Same H H' → Q (.bl (f d)) H') → te (σ0.set j (some v)) H Q)
    (fin : ∀ H', Same H0 H' → Fin (ds.map fun d => V.bl (f d)) H') : CompW (Itt K a) (gName j) tYes te Fin σ0 H0 := by
  have hlen := th.length
  refine ⟨fun i m ys σ H => m = xs.length - i ∧ i ≤ xs.length ∧ ys = (ds.take i).map (fun d => V.bl (f d)) ∧ (∀ o, σ.set j o = σ0.set j o) ∧ Same H0 H, ⟨_, rfl, Nat.zero_le _, rfl, fun _ => rfl, Same.refl _⟩, ?_⟩
  rintro i m ys σ H ⟨rfl, hi, rfl, hσ, hs⟩
  have sq : SqT K H a xs := SqT.of (hs _ _ hT)
  refine ⟨by rw [List.length_map, List.length_take]; omega, ?_⟩
  by_cases hlt : i < xs.length
  · refine .inr ⟨⟨xs, xs[i], sq, by simp [hlt]⟩, fun x H' y => ?_⟩
    obtain ⟨e, y⟩ := y
    subst e
    have hx := y xs sq
    obtain ⟨d, hd, ht⟩ := (th.same hs).get hx
    show te (σ.set j (some x)) H' _
    rw [hσ]
    refine hte x d H' _ (List.mem_of_getElem? hd) hs ht fun H2 s2 => ⟨xs.length - (i + 1), by omega, rfl, hlt, ?_, fun o => by rw [List.set_set], hs.trans s2⟩
    rw [List.take_add_one, hd]
    simp
  · have e : i = xs.length := by omega
    subst e
    refine .inl ⟨⟨xs, sq, Nat.le_refl _⟩, ?_⟩
    rw [hlen, List.take_length]
    exact fin H hs
theorem bools_of {ds : List PyData} {f : PyData → Bool} : ds.map (fun d => V.bl (f d)) = (ds.map f).map V.bl := by rw [List.map_map]; rfl
theorem all_of {ds : List PyData} {f : PyData → Bool} : (ds.map f).all id = ds.all f := by rw [List.all_map]; rfl
section
variable {X : Cx} {es : List Expr} {t : TA} {pos : Pos}
/-! ### new lists and dicts that may become things: none is the table of modules -/
def tLstS (t : TA) : TE := fun σ H Q => t σ H fun xs H1 => xs.length ≤ sizeLine ∧ ∀ p, H1 p = none → p ≠ sysModules → Q (.ref p) (upd H1 p (.lst xs))
theorem pe_lstS (h : PA X es t) : PE X (.List es pos) (tLstS t) := by
  intro pins s σ H Q I hq
  refine wpAny_List_spliced (thn (h pos pins s σ H _ I hq) fun us s1 ⟨xs, H1, I1, r, z, q⟩ => ⟨by rw [← r.length]; exact z, ?_⟩)
  have hf : H1 s1.heap.objs.size = none := I1.hok.fresh (Nat.le_refl _)
  refine ⟨.ref s1.heap.objs.size, _, I1.laid (o := .lst xs) (t' := s1.toks) (fun b u e => Heap.get?_push_of_some _ e) (Nat.le_refl _) ⟨z, us, 0, r, Heap.get?_push_size _ rfl⟩, rfl, q _ hf (Nat.ne_of_gt I1.big)⟩
theorem call_list_ofS : CallR X (.type "list") (fun xs H Q => ∃ p ys, xs = [.ref p] ∧ SqT X.K H p ys ∧ ∀ l, H l = none → l ≠ sysModules → Q (.ref l) (upd H l (.lst ys))) := by
  intro pins s σ H xs us Q I r h
  obtain ⟨p, ys, rfl, hq, q⟩ := h
  obtain ⟨u, rfl, rx⟩ := vals1 r
  cases rx
  obtain ⟨its, r', pl, hz⟩ := I.tuple hq
  have hlen := r'.length
  obtain ⟨o, ho, hc, n, hd⟩ := pl
  refine call_list_seq p (.inr rfl) ho hc hd (fun h' c' kp e => ?_) (by simp only [List.size_toArray]; omega)
  exact ⟨.ref s.heap.objs.size, _, I.laid (t' := s.toks) kp (Nat.le_refl _) (show ObjOk X.prog X.w _ h' _ (.lst ys) from ⟨hz, its, c', r', e⟩), rfl, q _ (I.hok.fresh (Nat.le_refl _)) (Nat.ne_of_gt I.big)⟩
def tDNewS : TE := fun _ H Q => ∀ p, H p = none → p ≠ sysModules → Q (.ref p) (upd H p (.dK []))
theorem pe_dnewS : PE X (.Dict [] [] pos) tDNewS := fun pins s σ H Q I h =>
  wpAny_Dict_empty ⟨.ref s.heap.objs.size, _, I.laid (a := s.heap.objs.size) (o := .dK []) (t' := s.toks) (fun _ _ q => Heap.get?_push_of_some _ q) (Nat.le_refl _) (dk_empty s.heap I.big), rfl, h _ (I.hok.fresh (Nat.le_refl _)) (Nat.ne_of_gt I.big)⟩
def tDispS (trs : List (TE × TE)) : TE := fun σ H Q => ∀ p, H p = none → p ≠ sysModules → tPairs trs σ (upd H p (.dK [])) fun ps H2 => H2 p = some (.dK []) ∧ ∃ kvs : List (Key × V), ps = kvs.map (fun kv => (kV kv.1, kv.2)) ∧ kvs.length ≤ 15 ∧ Q (.ref p) (upd H2 p (.dK (mergeK [] kvs)))
theorem pe_dispS {keys : List (Option Expr)} {values : List Expr} {trs : List (TE × TE)} (h : PPs X pos keys values trs) (hall : keys.all (·.isSome) = true) (hl : keys.length = values.length) (h0 : keys ≠ [])
    (h15 : keys.length ≤ 15) : PE X (.Dict keys values pos) (tDispS trs) := by
  intro pins s σ H Q I q
  have hn := I.hok.fresh (Nat.le_refl s.heap.objs.size)
  have I1 := I.laid (a := s.heap.objs.size) (o := .dK []) (h' := s.heap.push { cls := .type "dict", data := .dict #[] }) (t' := s.toks) (fun _ _ q => Heap.get?_push_of_some _ q) (Nat.le_refl _) (dk_empty s.heap I.big)
  refine wpAny_Dict_walk (knd := mixKind X.prog X.w) hall hl h0 h15 (thn (h pins _ σ _ _ I1 (q _ hn (Nat.ne_of_gt I.big))) fun ws s2 ⟨ps, H2, I2, rel, e, kvs, ep, lk, q2⟩ => ?_)
  subst ep
  obtain ⟨rs, c, rk⟩ := carries_of (P := X.prog) (w := X.w) rel
  obtain ⟨z, hd, vs0, r0, dd⟩ := dk_of I2.hok e
  cases r0
  refine ⟨rs, c, dd, fun h' dd' hs => ⟨.ref s.heap.objs.size, _, ?_, rfl, q2⟩⟩
  have hz : (mergeK [] kvs).length ≤ sizeLine := by
    have h1 := length_mergeK kvs []
    rw [List.length_nil] at h1
    rw [sizeLine_eq]; omega
  have he : ∃ q, h'.get? s.heap.objs.size = some q := let ⟨q, _, _, hq, _⟩ := dd'; ⟨q, hq⟩
  exact d_write I2 (by rw [e]; exact True.intro) hs he (dk_new hz hd (rk.merge .nil) dd')
end

/-! ### a op1 b op2 c op3 d -/
section
variable {X : Cx} {a b c d : Expr} {ta tb tc td : TE} {pos : Pos}
def tChain3 (r r' r'' : R2) (ta tb tc td : TE) : TE := fun σ H Q => ta σ H fun x H1 => tb σ H1 fun y H2 => r x y H2 fun z H3 => ∃ k, z = .bl k ∧
  (if k = true then tc σ H3 fun x2 H4 => r' y x2 H4 fun z2 H5 => ∃ k2, z2 = .bl k2 ∧ (if k2 = true then td σ H5 fun x3 H6 => r'' x2 x3 H6 Q else Q (.bl false) H5) else Q (.bl false) H3)
theorem pe_chain3 {o1 o2 o3 : CmpOp} {r r' r'' : R2} (h1 : OpR X (compareOp o1) r) (h2 : OpR X (compareOp o2) r') (h3 : OpR X (compareOp o3) r'') (ha : PE X a ta) (hb : PE X b tb) (hc : PE X c tc) (hd : PE X d td)
    (hm : lastMarks [o1, o2, o3] [b, c, d] = false := by with_unfolding_all rfl) : PE X (.Compare a [o1, o2, o3] [b, c, d] pos) (tChain3 r r' r'' ta tb tc td) := by
  intro pins s σ H Q I h
  refine Compare_chain (thn (ha pins s σ H _ I h) fun v s1 ⟨x, H1, I1, r1, q1⟩ => chain_link (thn (hb pins s1 σ H1 _ I1 q1) fun u s2 ⟨y, H2, I2, r2, q2⟩ =>
    thn (h1 pins s2 σ H2 x y v u _ I2 r1 r2 q2) fun g s3 ⟨z, H3, I3, r3, k, e, q3⟩ => ?_)) hm
  subst e
  cases r3
  refine wpAny_truthy_bool ?_
  cases k with
  | false => exact ite_ff ⟨.bl false, H3, I3, rfl, q3⟩
  | true =>
    refine ite_tt (chain_link (thn (hc pins s3 σ H3 _ I3 q3) fun w' s4 ⟨z', H4, I4, r4, q4⟩ => thn (h2 pins s4 σ H4 y z' u w' _ I4 r2 r4 q4) fun g2 s5 ⟨z5, H5, I5, r5, k2, e2, q5⟩ => ?_))
    subst e2
    cases r5
    refine wpAny_truthy_bool ?_
    cases k2 with
    | false => exact ite_ff ⟨.bl false, H5, I5, rfl, q5⟩
    | true => exact ite_tt (chain_last (thn (hd pins s5 σ H5 _ I5 q5) fun w6 s6 ⟨z6, H6, I6, r6, q6⟩ => h3 pins s6 σ H6 z' z6 w' w6 Q I6 r4 r6 q6))
end

/-! ### readings that only reckon -/
def Ev (σ : St) (H : Hp) (t : TE) (v : V) : Prop := ∀ Q : VK, Q v H → t σ H Q
section
variable {σ : St} {H : Hp} {ta tb tc td : TE}
theorem ev_c {v : V} : Ev σ H (tC v) v := fun _ h => h
theorem ev_v {i : Nat} {v : V} (h : σ[i]? = some (some v)) : Ev σ H (tVar i) v := fun _ q => ⟨v, h, q⟩
theorem ev_op0 {g : Int → Int → V} {i j : Int} (a : Ev σ H ta (.int i)) (b : Ev σ H tb (.int j)) : Ev σ H (tOp (rI0 g) ta tb) (g i j) := fun _ q => a _ (b _ ⟨i, j, rfl, rfl, q⟩)
theorem ev_opC {C : Int → Int → Prop} {g : Int → Int → V} {i j : Int} (a : Ev σ H ta (.int i)) (b : Ev σ H tb (.int j)) (c : C i j) : Ev σ H (tOp (rI C g) ta tb) (g i j) := fun _ q => a _ (b _ ⟨i, j, rfl, rfl, c, q⟩)
theorem ev_chain {p q : Int → Int → Bool} {i j k : Int} (a : Ev σ H ta (.int i)) (b : Ev σ H tb (.int j)) (c : Ev σ H tc (.int k)) :
    Ev σ H (tChain (rI0 fun i j => .bl (p i j)) (rI0 fun i j => .bl (q i j)) ta tb tc) (.bl (p i j && q j k)) := fun Q h => a _ (b _ ⟨i, j, rfl, rfl, _, rfl, by
  cases e : p i j with
  | false =>
    rw [e] at h
    exact iteF h
  | true =>
    rw [e] at h
    exact iteT (c _ ⟨j, k, rfl, rfl, h⟩)⟩)
theorem ev_chain3 {p q r : Int → Int → Bool} {i j k l : Int} (a : Ev σ H ta (.int i)) (b : Ev σ H tb (.int j)) (c : Ev σ H tc (.int k)) (d : Ev σ H td (.int l)) :
    Ev σ H (tChain3 (rI0 fun i j => .bl (p i j)) (rI0 fun i j => .bl (q i j)) (rI0 fun i j => .bl (r i j)) ta tb tc td) (.bl (p i j && (q j k && r k l))) := fun Q h => a _ (b _ ⟨i, j, rfl, rfl, _, rfl, by
  cases e : p i j with
  | false =>
    rw [e] at h
    exact iteF h
  | true =>
    rw [e] at h
    refine iteT (c _ ⟨j, k, rfl, rfl, _, rfl, ?_⟩)
    cases e2 : q j k with
    | false =>
      rw [e2] at h
      exact iteF h
    | true =>
      rw [e2] at h
      exact iteT (d _ ⟨k, l, rfl, rfl, h⟩)⟩)
theorem ev_and {b c : Bool} (x : Ev σ H ta (.bl b)) (y : b = true → Ev σ H tb (.bl c)) : Ev σ H (tAndV ta tb) (.bl (b && c)) := fun Q h => x _ ⟨b, rfl, by
  cases e : b with
  | false =>
    rw [e] at h
    exact iteF h
  | true =>
    rw [e] at h
    exact iteT (y e _ h)⟩
end
end L2

set_option Elab.async false
set_option linter.all false
set_option maxRecDepth 100000
/-! Argument lists: that an item bears no star, once for each kind of item. -/
namespace L2
open PySem PySem.Spec PyProof.Rows
structure Plain (e : Expr) : Prop where
  eq : ∀ (es : List Expr) (env : Env), starEach (e :: es) env = (false, eval e env) :: starEach es env
theorem plain_const {c j p} : Plain (.Constant c j p) := ⟨fun _ _ => rfl⟩
theorem plain_name {x p} : Plain (.Name x p) := ⟨fun _ _ => rfl⟩
theorem plain_tuple {es k p} : Plain (.Tuple es k p) := ⟨fun _ _ => rfl⟩
theorem plain_list {es p} : Plain (.List es p) := ⟨fun _ _ => rfl⟩
theorem plain_dict {ks vs p} : Plain (.Dict ks vs p) := ⟨fun _ _ => rfl⟩
theorem plain_call {f as ks p} : Plain (.Call f as ks p) := ⟨fun _ _ => rfl⟩
theorem plain_bin {a o b p} : Plain (.BinOp a o b p) := ⟨fun _ _ => rfl⟩
theorem plain_un {o a p} : Plain (.UnaryOp o a p) := ⟨fun _ _ => rfl⟩
theorem plain_sub {a b p} : Plain (.Subscript a b p) := ⟨fun _ _ => rfl⟩
theorem plain_comp {a b c p} : Plain (.ListComp a b c p) := ⟨fun _ _ => rfl⟩
theorem plain_cmp {a b c p} : Plain (.Compare a b c p) := ⟨fun _ _ => rfl⟩
section
variable {X : Cx} {e : Expr} {es : List Expr} {te : TE} {t : TA}
theorem pa_c (ha : PE X e te) (hr : PA X es t) (hp : Plain e := by first | exact plain_name | exact plain_const | exact plain_call | exact plain_tuple | exact plain_list | exact plain_bin | exact plain_sub | exact plain_un | exact plain_dict | exact plain_comp | exact plain_cmp) : PA X (e :: es) (tCons te t) :=
  pa_cons ha hr (hp.eq _ _)
end

/-! ### argument lists that don't unfold while a term is built; written ints -/
structure AA (X : Cx) (es : List Expr) (t : TA) : Prop where
  run : PA X es t
section
variable {X : Cx} {e : Expr} {es : List Expr} {te : TE} {t : TA} {pos : Pos}
theorem aa_nil : AA X [] tNil := ⟨pa_nil⟩
theorem aa_c (ha : PE X e te) (hr : AA X es t) (hp : Plain e := by first | exact plain_name | exact plain_const | exact plain_call | exact plain_tuple | exact plain_list | exact plain_bin | exact plain_sub | exact plain_un | exact plain_dict | exact plain_comp | exact plain_cmp) : AA X (e :: es) (tCons te t) :=
  ⟨pa_cons ha hr.run (hp.eq _ _)⟩
theorem pe_tupA {x1} (h : AA X es t) : PE X (.Tuple es x1 pos) (tTup t) := pe_tup h.run
theorem pe_lstA (h : AA X es t) : PE X (.List es pos) (tLst t) := pe_lst h.run
end
inductive IsInts : List Expr → List Int → Prop
  | nil : IsInts [] []
  | cons {i : Int} {j : Nat} {p : Pos} {es : List Expr} {is : List Int} : IsInts es is → IsInts (.Constant (.int i) j p :: es) (i :: is)
def tInts (is : List Int) : TA := fun _ H Q => Q (is.map V.int) H
theorem pa_ints {X : Cx} : ∀ {es : List Expr} {is : List Int}, IsInts es is → PA X es (tInts is)
  | _, _, .nil => fun _ _ _ _ H Q I h => Calls.spliced_nil ⟨[], H, I, .nil, h⟩
  | _, _, @IsInts.cons i j p es is r => by
    have h := pa_c (X := X) (pe_int (i := i) (j := j) (pos := p)) (pa_ints r)
    exact h
theorem pe_two {X : Cx} {i j : Int} {a b c p q r} : PE X (.Tuple [.Constant (.int i) a p, .Constant (.int j) b q] c r) (tTup (tInts [i, j])) := pe_tup (pa_ints (.cons (.cons .nil)))
theorem pe_twoP {X : Cx} {i j k : Int} {a b c d p q q' r r'} : PE X (.Tuple [.Constant (.int i) a p, .BinOp (.Constant (.int j) b q) .Pow (.Constant (.int k) d q') r'] c r) (tTup (tCons (tC (.int i)) (tCons (tOp (rI CPow fun i j => .int (i ^ j.toNat)) (tC (.int j)) (tC (.int k))) tNil))) :=
  pe_tup (pa_c pe_int (pa_c (pe_op op_pow pe_int pe_int) pa_nil))

theorem pg_tupK {X : Cx} {es : List Expr} {k : Nat} {pos : Pos} {t : TGs} {K : PySem.W.Frag} {n : Nat} (hK : X.K = K) (hc : X.calm = true) (h : PGs X es t) (hn : (assignEach es X.env).length = n := by rfl) (hst : (assignEach es X.env).findIdx? (·.1) = none := by rfl) :
    PG X (.Tuple es k pos) (gTup K n t) := by
  subst hK
  exact pg_tup hc h hn hst
/-! ### values that don't unfold while a term is built -/
structure BE (X : Cx) (e : Expr) (t : TE) : Prop where
  run : PE X e t
section
variable {X : Cx} {e : Expr} {es : List Expr} {te : TE} {t : TA} {pos : Pos}
theorem ab_c (ha : BE X e te) (hr : AA X es t) (hp : Plain e := by first | exact plain_name | exact plain_const | exact plain_call | exact plain_tuple | exact plain_list | exact plain_bin | exact plain_sub | exact plain_un | exact plain_dict | exact plain_comp | exact plain_cmp) : AA X (e :: es) (tCons te t) := aa_c ha.run hr hp
theorem pe_be (h : BE X e te) : PE X e te := h.run
theorem be_int {i : Int} {j} : BE X (.Constant (.int i) j pos) (tC (.int i)) := ⟨pe_int⟩
theorem be_bl {b : Bool} {j} : BE X (.Constant (.bool b) j pos) (tC (.bl b)) := ⟨pe_bl⟩
theorem be_non {j} : BE X (.Constant .none j pos) (tC .non) := ⟨pe_non⟩
theorem be_str {x : Str} {j} : BE X (.Constant (.str x) j pos) (tC (.str x)) := ⟨pe_str⟩
theorem be_neg {i : Int} {j q} : BE X (.UnaryOp .USub (.Constant (.int i) j q) pos) (tUn (rU fun i => .int (-i)) (tC (.int i))) := ⟨pe_un un_neg pe_int⟩
theorem be_pow {i k : Int} {j j' q q'} : BE X (.BinOp (.Constant (.int i) j q) .Pow (.Constant (.int k) j' q') pos) (tOp (rI CPow fun i j => .int (i ^ j.toNat)) (tC (.int i)) (tC (.int k))) := ⟨pe_op op_pow pe_int pe_int⟩
theorem be_tup {x1} (h : AA X es t) : BE X (.Tuple es x1 pos) (tTup t) := ⟨pe_tup h.run⟩
theorem be_lst (h : AA X es t) : BE X (.List es pos) (tLst t) := ⟨pe_lst h.run⟩
theorem be_two {i j : Int} {a b c p q r} : BE X (.Tuple [.Constant (.int i) a p, .Constant (.int j) b q] c r) (tTup (tInts [i, j])) := ⟨pe_two⟩
theorem be_twoP {i j k : Int} {a b c d p q q' r r'} : BE X (.Tuple [.Constant (.int i) a p, .BinOp (.Constant (.int j) b q) .Pow (.Constant (.int k) d q') r'] c r) (tTup (tCons (tC (.int i)) (tCons (tOp (rI CPow fun i j => .int (i ^ j.toNat)) (tC (.int j)) (tC (.int k))) tNil))) := ⟨pe_twoP⟩
end
structure BS (X : Cx) (st : Stmt) (t : TS) : Prop where
  run : PS X st t
structure BSs (X : Cx) (sts : List Stmt) (t : TS) : Prop where
  run : PSs X sts t
section
variable {X : Cx} {st : Stmt} {rest : List Stmt} {t u : TS} {pos : Pos}
theorem pss_b (h : BSs X rest t) : PSs X rest t := h.run
theorem bss_cons (h1 : BS X st t) (h2 : BSs X rest u) : BSs X (st :: rest) (tSeq t u) := ⟨pss_cons h1.run h2.run⟩
theorem bss_one (h1 : BS X st t) : BSs X [st] t := ⟨pss_one h1.run⟩
theorem bs_set {i : Nat} {x : Str} {e : Expr} {te : TE} {pos' : Pos} (hN : X.N.Nodup) (hi : X.N[i]? = some x) (hx : Loc X.env.scope x) (he : BE X e te) (hs : swapsWith e (some (.Name x pos')) pos.line X.env = pure false := by rfl) (hf : X.fn x = true ∨ X.env.scope.names.lookup x = some .local := by first | exact .inl rfl | exact .inr rfl | assumption) :
    BS X (.Assign [.Name x pos'] e pos) (tAsg te (gName i)) := ⟨ps_set hN hi hx he.run hs hf⟩
theorem bs_ret {e : Expr} {te : TE} (he : BE X e te) : BS X (.Return (some e) pos) (tRet te) := ⟨ps_ret he.run⟩
theorem be_op {op : Operator} {r : R2} {a b : Expr} {ta tb : TE} (ho : OpR X (binaryOp op) r) (ha : BE X a ta) (hb : BE X b tb) : BE X (.BinOp a op b pos) (tOp r ta tb) := ⟨pe_op ho ha.run hb.run⟩
theorem be_ix {r : R2} {a b : Expr} {ta tb : TE} (hr : IxR X r) (ha : BE X a ta) (hb : BE X b tb) (hs : PlainIx b) : BE X (.Subscript a b pos) (tOp r ta tb) := ⟨pe_ix hr ha.run hb.run hs⟩
end
end L2

set_option Elab.async false
set_option linter.all false
set_option maxRecDepth 100000
/-! Readings that make things. -/
namespace L2
open PySem PySem.Spec PyProof.Rows
section
variable {X : Cx} {es : List Expr} {t : TA} {pos : Pos}
theorem be_lstS (h : AA X es t) : BE X (.List es pos) (tLstS t) := ⟨pe_lstS h.run⟩
theorem be_dnewS : BE X (.Dict [] [] pos) tDNewS := ⟨pe_dnewS⟩
theorem be_disp1 {i j : Int} {a b p q} : BE X (.Dict [some (.Constant (.int i) a p)] [.Constant (.int j) b q] pos) (tDispS [(tC (.int i), tC (.int j))]) := ⟨pe_dispS (pps_cons pe_int pe_int pps_nil) rfl rfl (by simp) (by show 1 ≤ 15; decide)⟩
end
/-- the reading makes the thing d, from H on, and turns nothing -/
def ThE (S : Addr → Prop) (σ : St) (H : Hp) (t : TE) (d : PyData) : Prop := ∀ H0, Same H H0 → ∀ Q : VK, (∀ v H', Same H0 H' → IsTh S H' v d → Q v H') → t σ H0 Q
def ThA (S : Addr → Prop) (σ : St) (H : Hp) (t : TA) (ds : List PyData) : Prop := ∀ H0, Same H H0 → ∀ Q : List V → Hp → Prop, (∀ vs H', Same H0 H' → IsThs S H' vs ds → Q vs H') → t σ H0 Q
section
variable {S : Addr → Prop} {σ : St} {H : Hp}
theorem th_c {v : V} {d : PyData} (h : ∀ H', IsTh S H' v d) : ThE S σ H (tC v) d := fun H0 _ Q q => q v H0 (Same.refl _) (h H0)
theorem th_int {i : Int} : ThE S σ H (tC (.int i)) (.int i) := th_c fun _ => .int i
theorem th_bl {b : Bool} : ThE S σ H (tC (.bl b)) (.bool b) := th_c fun _ => .bl b
theorem th_non : ThE S σ H (tC .non) .none := th_c fun _ => .non
theorem th_str {x : Str} : ThE S σ H (tC (.str x)) (.str x) := th_c fun _ => .str x
theorem th_ev {t : TE} {i : Int} (h : ∀ H', Ev σ H' t (.int i)) : ThE S σ H t (.int i) := fun H0 _ Q q => h H0 _ (q _ H0 (Same.refl _) (.int i))
theorem th_v {n : Nat} {v : V} {d : PyData} (h : σ[n]? = some (some v)) (th : IsTh S H v d) : ThE S σ H (tVar n) d := fun H0 s0 Q q => ⟨v, h, q v H0 (Same.refl _) (th.same s0)⟩
theorem th_nil : ThA S σ H tNil [] := fun H0 _ Q q => q [] H0 (Same.refl _) .nil
theorem th_cons {te : TE} {ta : TA} {d : PyData} {ds : List PyData} (h1 : ThE S σ H te d) (h2 : ThA S σ H ta ds) : ThA S σ H (tCons te ta) (d :: ds) := fun H0 s0 Q q =>
  h1 H0 s0 _ fun v H1 s1 t1 => h2 H1 (s0.trans s1) _ fun vs H2 s2 t2 => q (v :: vs) H2 (s1.trans s2) (.cons (t1.same s2) t2)
theorem th_ints (is : List Int) : ThA S σ H (tInts is) (is.map PyData.int) := fun H0 _ Q q => q _ H0 (Same.refl _) (IsThs.ints is)
theorem th_tup {ta : TA} {ds : List PyData} (h : ThA S σ H ta ds) (hl : ds.length ≤ 4000) : ThE S σ H (tTup ta) (.tuple ds) := fun H0 s0 Q q =>
  h H0 s0 _ fun vs H1 s1 t1 => ⟨by rw [t1.length, sizeLine_eq]; omega, fun p hp => q _ _ (s1.updR hp) (.tup upd_same (t1.same (Same.upd hp)))⟩
theorem th_lstS {ta : TA} {ds : List PyData} (h : ThA S σ H ta ds) (hl : ds.length ≤ 4000) (hS : ∀ H', Same H H' → ∀ p, H' p = none → p ≠ sysModules → S p) : ThE S σ H (tLstS ta) (.list ds) := fun H0 s0 Q q =>
  h H0 s0 _ fun vs H1 s1 t1 => ⟨by rw [t1.length, sizeLine_eq]; omega, fun p hp np => q _ _ (s1.updR hp) (.lst (hS H1 (s0.trans s1) p hp np) upd_same (t1.same (Same.upd hp)))⟩
theorem th_dnew (hS : ∀ H', Same H H' → ∀ p, H' p = none → p ≠ sysModules → S p) : ThE S σ H tDNewS (.dict []) := fun H0 s0 Q q p hp np => q _ _ (Same.upd hp) (.dct (ks := []) (hS H0 s0 p hp np) upd_same)
theorem th_disp1 {i j : Int} (hS : ∀ H', Same H H' → ∀ p, H' p = none → p ≠ sysModules → S p) : ThE S σ H (tDispS [(tC (.int i), tC (.int j))]) (.dict [(.int i, .int j)]) := fun H0 s0 Q q p hp np => by
  refine ⟨upd_same, [(Sum.inl i, .int j)], rfl, by show 1 ≤ 15; decide, q _ _ (fun b o e => ?_) (.dct (ks := [(Sum.inl i, j)]) (hS H0 s0 p hp np) upd_same)⟩
  rw [upd_ne (ne_of_none e hp), upd_ne (ne_of_none e hp)]
  exact e
end
/-! ### one step of a reading at a time -/
section
variable {D : Ends} {σ : St} {H : Hp} {t u : TS} {te : TE} {ta : TA} {g : TG} {Q : VK}
theorem rd_next (h : D.nx σ H) : tNext D σ H := h
theorem rd_seq (h : t { D with nx := u D } σ H) : tSeq t u D σ H := h
theorem rd_seqK (h : ∀ c : St → Hp → Prop, (∀ σ' H', u D σ' H' → c σ' H') → t { D with nx := c } σ H) : tSeq t u D σ H := h (u D) fun _ _ z => z
theorem rd_asg (h : te σ H fun x H1 => g x σ H1 D.nx) : tAsg te g D σ H := h
theorem rd_ret (h : te σ H D.rt) : tRet te D σ H := h
theorem rd_lst (h : ta σ H fun xs H1 => xs.length ≤ sizeLine ∧ ∀ p, H1 p = none → Q (.ref p) (upd H1 p (.lst xs))) : tLst ta σ H Q := h
theorem rd_name {i : Nat} {v : V} {R : St → Hp → Prop} (h : R (σ.set i (some v)) H) : gName i v σ H R := h
end
/-- [f(x, y) for (x, y) in zip(t, l)]: truths -/
theorem comp_zip {K : PySem.W.Frag} {S S' : Addr → Prop} {g : TG} {te : TE} {a b : Addr} {xs zs : List V} {ds es : List PyData} (f : PyData → PyData → Bool) {σ0 : St} {H0 : Hp} {Fin : List V → Hp → Prop} (inv : St → Prop) (h0 : inv σ0)
    (ea : H0 a = some (.tup xs)) (eb : H0 b = some (.lst zs)) (r1 : IsThs S H0 xs ds) (r2 : IsThs S' H0 zs es) (hl : ds.length = es.length) (hz : xs.length < sizeLine)
    (step : ∀ (T : Addr) x z d e σ H (R : St → VK), d ∈ ds → e ∈ es → inv σ → Same H0 H → H T = some (.tup [x, z]) → IsTh S H x d → IsTh S' H z e → (∀ σ2 H', inv σ2 → Same H H' → R σ2 (.bl (f d e)) H') → g (.ref T) σ H fun σ2 H2 => te σ2 H2 (R σ2))
    (fin : ∀ H', Same H0 H' → Fin ((List.zipWith f ds es).map V.bl) H') : CompW (Itz K a b) g tYes te Fin σ0 H0 := by
  have l1 := r1.length
  have l2 := r2.length
  refine ⟨fun i m ys σ H => m = xs.length - i ∧ i ≤ xs.length ∧ ys = ((List.zipWith f ds es).take i).map V.bl ∧ inv σ ∧ Same H0 H, ⟨_, rfl, Nat.zero_le _, rfl, h0, Same.refl _⟩, ?_⟩
  rintro i m ys σ H ⟨rfl, hi, rfl, hσ, hs⟩
  have q1 : SqT K H a xs := SqT.of (hs _ _ ea)
  have q2 : SqL K H b zs := SqL.of (hs _ _ eb)
  refine ⟨by rw [List.length_map, List.length_take]; omega, ?_⟩
  by_cases hlt : i < xs.length
  · have hlt2 : i < zs.length := by omega
    refine .inr ⟨⟨xs, zs, xs[i], zs[i], q1, q2, by simp [hlt], by simp [hlt2]⟩, fun v H' y => ?_⟩
    obtain ⟨T, nT, rfl, y⟩ := y
    obtain ⟨x, z, ex, ez, rfl⟩ := y xs zs q1 q2
    obtain ⟨d, hd, td⟩ := (r1.same (hs.updR (o := .tup [x, z]) nT)).get ex
    obtain ⟨e, he, t2⟩ := (r2.same (hs.updR (o := .tup [x, z]) nT)).get ez
    refine step T x z d e σ _ (fun σ2 y H4 => ∃ m', m' < xs.length - i ∧ m' = xs.length - (i + 1) ∧ i + 1 ≤ xs.length ∧ ((List.zipWith f ds es).take i).map V.bl ++ [y] = ((List.zipWith f ds es).take (i + 1)).map V.bl ∧ inv σ2 ∧ Same H0 H4) (List.mem_of_getElem? hd) (List.mem_of_getElem? he) hσ (hs.updR nT) upd_same td t2 fun σ2 H2 i2 s2 => ⟨xs.length - (i + 1), by omega, rfl, hlt, ?_, i2, (hs.updR nT).trans s2⟩
    have hz : (List.zipWith f ds es)[i]? = some (f d e) := by rw [List.getElem?_zipWith, hd, he]
    rw [List.take_add_one, hz]
    simp
  · have e : i = xs.length := by omega
    subst e
    refine .inl ⟨⟨xs, q1, Nat.le_refl _⟩, ?_⟩
    rw [List.take_of_length_le (by rw [List.length_zipWith]; omega)]
    exact fin H hs
end L2

set_option Elab.async false
set_option linter.all false
set_option maxRecDepth 100000
/-! Three names at once; t * n. -/
namespace L2
open PySem PySem.Spec PyProof.Rows
section
variable {X : Cx} {pos : Pos}
def tPar3 (i j k : Nat) (ta : TA) : TS := fun D σ H => ta σ H fun vs H1 => ∃ v w u, vs = [v, w, u] ∧ D.nx (((σ.set i (some v)).set j (some w)).set k (some u)) H1
theorem ps_par3 {i j k : Nat} {x y z : Str} {a b c : Expr} {ta : TA} {px py pz pt : Pos} {kt k2 pt2} (hc : X.calm = true) (hN : X.N.Nodup) (hi : X.N[i]? = some x) (hj : X.N[j]? = some y) (hk : X.N[k]? = some z) (hij : i ≠ j) (hik : i ≠ k) (hjk : j ≠ k)
    (hx : X.env.scope.names.lookup x = some .local) (hy : X.env.scope.names.lookup y = some .local) (hz : X.env.scope.names.lookup z = some .local) (ha : PA X [a, b, c] ta)
    (hw : swappedStores [.Tuple [.Name x px, .Name y py, .Name z pz] kt pt] (.Tuple [a, b, c] k2 pt2) X.env = pure (some [x, y, z]))
    (hs : swapsWithSole [.Tuple [.Name x px, .Name y py, .Name z pz] kt pt] (.Tuple [a, b, c] k2 pt2) pos.line X.env = pure false := by rfl) :
    PS X (.Assign [.Tuple [.Name x px, .Name y py, .Name z pz] kt pt] (.Tuple [a, b, c] k2 pt2) pos) (tPar3 i j k ta) := by
  intro pins s σ H D I h
  refine Assign_Tuple_swapped (names := [x, y, z]) (Tuple_ (thn (ha _ pins s σ H _ I h) fun us s1 ⟨vs, H1, I1, r1, q1⟩ => ?_)) hs hw
  obtain ⟨v, w, u, e1, q1⟩ := q1
  subst e1
  obtain ⟨u1, u2, u3, rfl, rv, rw', ru⟩ : ∃ u1 u2 u3, us = [u1, u2, u3] ∧ RelV v u1 ∧ RelV w u2 ∧ RelV u u3 := by
    cases r1 with
    | cons p q =>
      cases q with
      | cons p' q' =>
        cases q' with
        | cons p2 q2 =>
          cases q2
          exact ⟨_, _, _, rfl, p, p', p2⟩
  refine wpAny_newObj_type ?_ (by show 3 ≤ sizeLine; decide)
  have I2 : Inv X pins σ H1 { s1 with heap := s1.heap.push { cls := .type "tuple", data := .seq [u1, u2, u3].toArray } } := I1.kept (t' := s1.toks) fun b o e => Heap.get?_push_of_some _ e
  refine unpackItems_tuple (items := #[u1, u2, u3]) (I.ok.hd hc) (IsTup.new s1.heap _) fun h' hx' => ?_
  have I3 := I2.kept (h' := h') (t' := s1.toks) fun b o e => hx' b o (Nat.ne_of_lt (Heap.lt_size e)) e
  show wpAny _ _ (assignInOrder [fun v => bindName X.env z v, fun v => bindName X.env y v, fun v => bindName X.env x v] [u3, u2, u1]) _ _ _
  refine assignInOrder_cons (wpAny_bindName (store_ok I3 hN hk (.inl hz) ru (fun s2 I4 => ?_) (.inr hz)))
  refine assignInOrder_cons (wpAny_bindName (store_ok I4 hN hj (.inl hy) rw' (fun s3 I5 => ?_) (.inr hy)))
  refine assignInOrder_cons (wpAny_bindName (store_ok I5 hN hi (.inl hx) rv (fun s4 I6 => assignInOrder_nil ?_) (.inr hx)))
  rw [List.set_comm _ _ (Ne.symm hij), List.set_comm _ _ (Ne.symm hik), List.set_comm _ _ (Ne.symm hjk)] at I6
  exact ⟨_, H1, I6, q1⟩
end
/-! ### t * n -/
theorem noFill_tup_mul : fillsNumberSlot (.type "tuple") "mul" = pure false :=
  PySem.fillsNumberSlot_seq (id := "tuple.__mul__") (r := some (.builtin "tuple.__rmul__")) F.slot_tuple_mul.lookup (by decide +kernel) F.slot_tuple_rmul.lookup (by decide +kernel)
theorem repeat_tup : seqRepeat? (.type "tuple") = pure (some (.builtin "tuple.__mul__")) := by
  have e1 := PySem.seqSlot_of (T := "tuple") (name := "__mul__") (id := "tuple.__mul__") F.slot_tuple_mul.lookup (by decide +kernel)
  have e2 := PySem.seqSlot_of (T := "tuple") (name := "__rmul__") (id := "tuple.__rmul__") F.slot_tuple_rmul.lookup (by decide +kernel)
  unfold seqRepeat?
  rw [e1, e2]
  rfl
open Builtin in
theorem rmul_int_tup (a : Int) (t : Tok) (l : Addr) (items : Array Value) (n : Nat) (dd : Option Addr) (sl : Array (Option Value)) :
    Meets (Builtin.«int.__rmul__» ⟨[.int a t, .ref l], []⟩) (fun _ R s => s.heap.get? l = some { cls := .type "tuple", dict := dd, data := .seq items n, slots := sl } ∧ R (.ok (.ret Value.notImplemented)) s) := by
  refine .of_wp fun prog w A R s h => ?_
  obtain ⟨hp, g, d, tk, os⟩ := s
  obtain ⟨hl, h⟩ := h
  wp_walk
  exact ⟨_, rfl, h⟩
open Builtin in
theorem mul_tup1 (l : Addr) (items : Array Value) (n : Nat) (u : Tok) (dd : Option Addr) (sl : Array (Option Value)) :
    Meets (Builtin.«tuple.__mul__» ⟨[.ref l, .int 1 u], []⟩) (fun _ R s => s.heap.get? l = some { cls := .type "tuple", dict := dd, data := .seq items n, slots := sl } ∧ R (.ok (.ret (.ref l))) s) := by
  refine .of_wp fun prog w A R s h => ?_
  obtain ⟨hp, g, d, tk, os⟩ := s
  obtain ⟨hl, h⟩ := h
  have f1 := PySem.AutoSeq1.idx_int
  have f2 := PySem.AutoSeq1.sub_tuple_tuple
  wp_walk
  exact ⟨_, rfl, h⟩
open Builtin in
theorem mul_tup0 (l : Addr) (items : Array Value) (n : Nat) (u : Tok) (dd : Option Addr) (sl : Array (Option Value)) (hi : items.isEmpty = false) :
    Meets (Builtin.«tuple.__mul__» ⟨[.ref l, .int 0 u], []⟩) (fun _ R s => s.heap.get? l = some { cls := .type "tuple", dict := dd, data := .seq items n, slots := sl } ∧ R (.ok (.ret (.ref s.heap.objs.size))) { s with heap := s.heap.push { cls := .type "tuple", data := .seq #[] } }) := by
  refine .of_wp fun prog w A R s h => ?_
  obtain ⟨hp, g, d, tk, os⟩ := s
  obtain ⟨hl, h⟩ := h
  have f1 := PySem.AutoSeq1.idx_int
  have f2 := PySem.AutoSeq1.sub_tuple_tuple
  have g1 : (items.isEmpty || ((0 : Int) == 1)) = false := by rw [hi]; rfl
  wp_walk
  exact ⟨_, rfl, h⟩
open Builtin in
theorem mul_tupN (l : Addr) (items : Array Value) (n : Nat) (k : Int) (u : Tok) (dd : Option Addr) (sl : Array (Option Value)) (hi : items.isEmpty = false) (h2 : 2 ≤ k) (h3 : k ≤ 1000) (h4 : items.size ≤ 1000) :
    Meets (Builtin.«tuple.__mul__» ⟨[.ref l, .int k u], []⟩) (fun _ R s => s.heap.get? l = some { cls := .type "tuple", dict := dd, data := .seq items n, slots := sl } ∧ R (.ok (.ret (.ref s.heap.objs.size))) { s with heap := s.heap.push { cls := .type "tuple", data := .seq ((List.replicate k.toNat items).foldl (· ++ ·) #[]) } }) := by
  refine .of_wp fun prog w A R s h => ?_
  obtain ⟨hp, g, d, tk, os⟩ := s
  obtain ⟨hl, h⟩ := h
  have f1 := PySem.AutoSeq1.idx_int
  have f2 := PySem.AutoSeq1.sub_tuple_tuple
  have m1 : items.size * k.toNat ≤ 1000 * 1000 := Nat.mul_le_mul h4 (by omega)
  have m2 : (items.size : Int) * k = ((items.size * k.toNat : Nat) : Int) := by rw [Int.natCast_mul, Int.toNat_of_nonneg (by omega)]
  have c0 : (decide (k < -2 ^ 63) || decide (k ≥ 2 ^ 63)) = false := by
    rw [decide_eq_false (by omega), decide_eq_false (by omega)]
    rfl
  have c1 : (items.isEmpty || k == 1) = false := by
    rw [hi, show (k == 1) = false from by simpa using (by omega : k ≠ 1)]
    rfl
  have c2 : (decide (k ≤ 0) || items.isEmpty) = false := by
    rw [hi, decide_eq_false (by omega)]
    rfl
  have c3 : ¬ ((items.size : Int) * k > (2 ^ 63 - 1) / 8) := by
    rw [m2]
    omega
  have c4 : Builtin.Tuple.tupleTooMany ((items.size : Int) * k) = false := by
    rw [m2]
    unfold Builtin.Tuple.tupleTooMany
    refine decide_eq_false ?_
    rw [sizeLine_eq]
    omega
  wp_walk
  have nf : ∀ {b : Bool}, b = false → decide (b = true) = false := fun {b} e => by rw [e]; rfl
  refine wpAny_ite_false (nf c0) ?_
  wp_walk
  refine wpAny_ite_false (nf c1) ?_
  refine wpAny_ite_false (nf c2) ?_
  refine wpAny_ite_false (decide_eq_false c3) ?_
  refine wpAny_ite_false (nf c4) ?_
  have z : (List.foldl (fun x1 x2 => x1 ++ x2) #[] (List.replicate k.toNat items)).size ≤ sizeLine := by
    have e := foldl_rep items.toList k.toNat []
    rw [List.nil_append] at e
    have e : List.foldl (fun x1 x2 => x1 ++ x2) #[] (List.replicate k.toNat items) = (List.replicate k.toNat items.toList).flatten.toArray := e
    rw [e, List.size_toArray, len_rep, Array.length_toList, sizeLine_eq, Nat.mul_comm]
    omega
  wp_walk
  exact ⟨_, rfl, h⟩
/-- a tuple that isn't empty, times 0, 1, or 2 to 1000 -/
def rRepT (K : PySem.W.Frag) : R2 := fun x y H Q => ∃ a k xs, x = .ref a ∧ y = .int k ∧ SqT K H a xs ∧ xs ≠ [] ∧ xs.length ≤ 1000 ∧
  ((k = 1 ∧ Q (.ref a) H) ∨ ((k = 0 ∨ (2 ≤ k ∧ k ≤ 1000)) ∧ ∀ p, H p = none → Q (.ref p) (upd H p (.tup (List.replicate k.toNat xs).flatten))))
theorem op_repT {X : Cx} : OpR X (binaryOp .Mult) (rRepT X.K) := by
  intro pins s σ H x y v u Q I rx ry h
  obtain ⟨a, k, xs, rfl, rfl, ha, hx, hl, h⟩ := h
  cases rx
  obtain ⟨t, rfl⟩ := ry
  obtain ⟨its, r, p1, _⟩ := I.tuple ha
  have hlen := r.length
  have hv : its ≠ [] := fun z => hx (r.nil_iff.mp z)
  have hie : its.toArray.isEmpty = false := by
    cases its with
    | nil => exact absurd rfl hv
    | cons _ _ => rfl
  obtain ⟨⟨cls, dd, data, sl⟩, ho, hc, n, hd⟩ := id p1
  simp only at hc hd
  subst hc hd
  refine wpAny_binaryOp_repeat_ref (T := "tuple") (U := "int") (by decide) ⟨_, ho, rfl⟩ (fun s' => typeIs_int s' k t) noFill_tup_mul F.fills_int_mul F.slot_int_rmul repeat_tup F.slot_int_index.lookup
    (call_meets F.slot_int_rmul (typeIs_int s k t) F.entry_int_rmul (F.args_int_rmul_2 _ _) (rmul_int_tup k t a its.toArray n dd sl) ⟨ho, rfl, ⟨_, ho, rfl⟩, ?_⟩)
  rcases h with ⟨rfl, q⟩ | ⟨rfl | ⟨k2, k3⟩, q⟩
  · exact call_meets F.slot_tuple_mul ⟨_, ho, rfl⟩ F.entry_tuple_mul (F.args_tuple_mul_2 _ _) (mul_tup1 a its.toArray n t dd sl) ⟨ho, .ref a, H, I, rfl, q⟩
  · refine call_meets F.slot_tuple_mul ⟨_, ho, rfl⟩ F.entry_tuple_mul (F.args_tuple_mul_2 _ _) (mul_tup0 a its.toArray n t dd sl hie) ⟨ho, ?_⟩
    exact ⟨.ref s.heap.objs.size, _, I.laid (t' := s.toks) (o := .tup []) (fun b ob q => Heap.get?_push_of_some _ q) (Nat.le_refl _) ⟨Nat.zero_le _, [], .nil, IsTup.new _ _⟩, rfl, q _ (I.hok.fresh (Nat.le_refl _))⟩
  · refine call_meets F.slot_tuple_mul ⟨_, ho, rfl⟩ F.entry_tuple_mul (F.args_tuple_mul_2 _ _) (mul_tupN a its.toArray n k t dd sl hie k2 k3 (by rw [List.size_toArray]; omega)) ⟨ho, ?_⟩
    have e := foldl_rep its k.toNat []
    rw [List.nil_append] at e
    have e : List.foldl (fun x1 x2 => x1 ++ x2) #[] (List.replicate k.toNat its.toArray) = (List.replicate k.toNat its).flatten.toArray := e
    rw [e]
    refine ⟨.ref s.heap.objs.size, _, I.laid (t' := s.toks) (o := .tup (List.replicate k.toNat xs).flatten) (fun b ob q => Heap.get?_push_of_some _ q) (Nat.le_refl _) ⟨?_, _, r.rep k.toNat, IsTup.new _ _⟩, rfl, q _ (I.hok.fresh (Nat.le_refl _))⟩
    rw [len_rep, sizeLine_eq]
    have := Nat.mul_le_mul (show k.toNat ≤ 1000 by omega) hl
    omega
end L2

set_option Elab.async false
set_option linter.all false
set_option maxRecDepth 100000
/-! enumerate of a tuple, walked. -/
namespace L2
open PySem PySem.Spec PyProof.Rows
theorem draws_tup {prog : Program} {w : World} {A : Around} (hh : A.handled = none) (it t : Addr) (hne : t ≠ it) (its : Array Value) :
    Draws prog w A it [it, t] its.size (fun i v => its[i]? = some v) (fun i h => h.IsTupleIter it t i ∧ h.IsTuple t its) where
  live := fun _ _ st => let ⟨o, ho, _⟩ := st.1; ⟨o, ho⟩
  frame := fun _ _ _ st hk => by
    obtain ⟨⟨o, h1, r1⟩, ⟨o2, h2, r2⟩⟩ := st
    exact ⟨⟨o, hk it (by simp) o h1, r1⟩, ⟨o2, hk t (by simp) o2 h2, r2⟩⟩
  item := fun i s Q E hi st hQ => by
    refine nx_tup st.1 st.2 (x := its[i]) (by simp [hi]) fun h' h1 h2 => hQ _ h' s.toks (by simp [hi]) ⟨h1, ?_⟩ h2
    obtain ⟨o, e, r⟩ := st.2
    exact ⟨o, h2.extBut _ _ hne e, r⟩
  done := fun s Q E st hE => nx_tup_end hh st.1 st.2 (by simp) hE
theorem meets_enum_tup (t : Addr) (its : Array Value) :
    Meets (Builtin.«enumerate.__new__» ⟨[.type "enumerate", .ref t], []⟩) (fun _ R s => s.heap.IsTuple t its ∧
      R (.ok (.ret (.ref (zA s.heap t).objs.size))) { s with heap := (zA s.heap t).push { cls := .type "enumerate", data := .fields #[.none, .bool false, .ref s.heap.objs.size, rawInt 0, .none, .none] } }) :=
  .of_wp fun prog w A R s h => by
    obtain ⟨hp, g, d, tk, os⟩ := s
    obtain ⟨ht, h⟩ := h
    have hsub := sub_enumerate
    have hT : Heap.IsTuple (Shared.heap ⟨hp, g, d, tk, os⟩) t its := ht
    wp_walk
    refine wpAny_stack_any fun st => wpAny_pure ?_
    split
    · rename_i c _ _ _ _ _
      cases (c == Value.type "enumerate")
      · wp_walk using wpAny_pyIter_tuple hT
        exact ⟨_, rfl, h⟩
      · wp_walk using wpAny_pyIter_tuple hT
        exact ⟨_, rfl, h⟩
    · wp_walk using wpAny_pyIter_tuple hT
      exact ⟨_, rfl, h⟩
theorem call_enum_tup {prog : Program} {w : World} {A : Around} {E : Value → Shared → Prop} {s : Shared} {t : Addr} {its : Array Value} {Q : Value → Shared → Prop} (ht : s.heap.IsTuple t its)
    (h : ∀ h', IsEnum h' (s.heap.objs.size + 1) s.heap.objs.size 0 .none → h'.IsTupleIter s.heap.objs.size t 0 → (∀ c o, s.heap.get? c = some o → h'.get? c = some o) → Q (.ref (s.heap.objs.size + 1)) { s with heap := h' }) :
    wpAny (model prog w) A (call (.type "enumerate") [.ref t]) Q E s := by
  refine callType_new F.called_enumerate (by decide) (F.typeCall_enumerate_1 _) (F.newCall_enumerate_1 _) (fun obj => F.args_object_init_2 obj _) F.entry_enumerate_new (meets_enum_tup t its) ⟨ht, ?_⟩
  have e1 : (zA s.heap t).objs.size = s.heap.objs.size + 1 := Heap.size_push ..
  have g2 := Heap.get?_push_size (zA s.heap t) (o := { cls := .type "enumerate", data := .fields #[.none, .bool false, .ref s.heap.objs.size, rawInt 0, .none, .none] }) rfl
  have g1 := Heap.get?_push_of_some { cls := .type "enumerate", data := .fields #[.none, .bool false, .ref s.heap.objs.size, rawInt 0, .none, .none] } (Heap.get?_push_size s.heap (o := { cls := .type "tuple_iterator", data := .fields #[.ref t, .int 0 0] }) rfl)
  show _ ∧ _
  rw [e1] at g2 ⊢
  exact ⟨⟨_, g2, rfl⟩, h _ g2 ⟨_, g1, rfl, rfl⟩ fun c o x => Heap.get?_push_of_some _ (Heap.get?_push_of_some _ x)⟩
/-- the numbers and items of the tuple at a -/
def Ite (K : PySem.W.Frag) (a : Addr) : It :=
  ⟨fun i H => ∃ xs x, SqT K H a xs ∧ xs[i]? = some x,
   fun i H v H' => ∃ T, H T = none ∧ v = .ref T ∧ ∀ xs, SqT K H a xs → ∃ x, xs[i]? = some x ∧ H' = upd H T (.tup [.int i, x]),
   fun i H => ∃ xs, SqT K H a xs ∧ xs.length ≤ i⟩
def tne (e it a : Addr) (i : Nat) (h : Heap) : Prop := (∃ old, IsEnum h e it i old) ∧ h.IsTupleIter it a i
theorem turn_enum {P : Program} {w : World} {K : PySem.W.Frag} {es : List Expr} {k : Nat} {pos : Pos} {e it a : Addr} (nei : e ≠ it) (nea : e ≠ a) (nai : a ≠ it) :
    Turn P w K (.Tuple es k pos) (Ite K a) [e, it] e (tne e it a) where
  mem := by simp
  obj := fun i h st c hc => by
    obtain ⟨⟨old, s1⟩, ⟨o4, s4, c4, d4⟩⟩ := st
    simp only [List.mem_cons, List.not_mem_nil, or_false] at hc
    rcases hc with z | z <;> subst z
    · exact ⟨_, s1, fun v q => by cases q⟩
    · exact ⟨_, s4, fun v q => by rw [d4] at q; cases q⟩
  keep := fun i h h' st kp => by
    obtain ⟨⟨old, s1⟩, s4⟩ := st
    exact ⟨⟨old, kp e (by simp) _ s1⟩, s4.at fun o z => kp it (by simp) o z⟩
  item := by
    intro X hP hw hK hc i pins s σ H E I hf st hg
    subst hP hw hK
    obtain ⟨⟨old, s1⟩, s4⟩ := st
    obtain ⟨xs, x, hxs, hx⟩ := hg
    obtain ⟨its, rv, p, _⟩ := I.tuple hxs
    obtain ⟨ux, hux, rx⟩ := rv.get hx
    have hlt : i < its.toArray.size := by
      have := (List.getElem?_eq_some_iff.mp hux).1
      simpa using this
    have D := draws_tup (prog := X.prog) (w := X.w) (A := X.A.in1) (I.ok.hd hc) it a nai its.toArray
    refine wpAny_pyNext_enum_itemD D s1 ⟨s4, p⟩ hlt nei (by simp [nei, nea]) fun u h1 tk hu g1 g3 g5 g6 kp => ?_
    have eu : u = ux := by
      have hu : its.toArray[i]? = some u := hu
      rw [List.getElem?_toArray, hux] at hu
      exact (Option.some.inj hu).symm
    subst eu
    refine ⟨_, rfl, ?_⟩
    refine wpAny_letOwnedTupleGo_enum g1 fun h2 e1 sb => ?_
    have live : ∀ c, c ∈ [e, it] → ∃ o, s.heap.get? c = some o := fun c hc' => by
      simp only [List.mem_cons, List.not_mem_nil, or_false] at hc'
      rcases hc' with q | q <;> subst q
      · exact ⟨_, s1⟩
      · exact let ⟨o, h, _⟩ := s4; ⟨o, h⟩
    have ne : ∀ c, c ∈ [e, it] → c ≠ s.heap.objs.size := fun c hc' z => by
      obtain ⟨o, ho⟩ := live c hc'
      exact absurd (Heap.lt_size ho) (by rw [z]; exact Nat.lt_irrefl _)
    have hT : H s.heap.objs.size = none := I.hok.fresh (Nat.le_refl _)
    have kept : ∀ c o, c ∉ [e, it] → s.heap.get? c = some o → h2.get? c = some o := fun c o hc' z =>
      sb.extBut _ _ (fun q => hc' (by simp [q])) (kp c o (fun q => hc' (by simp [q])) (fun q => hc' (by simp [q])) z)
    have trk : ∀ c o, H c = some o → c ∉ [e, it] := fun c o z hc' => by
      have := (hf c hc').1
      rw [z] at this; cases this
    have newT : h2.get? s.heap.objs.size = some { cls := .type "tuple", data := .seq #[.int i tk, u] } := sb.extBut _ _ (Ne.symm (ne e (by simp))) g5
    have hok2 : HOk X.prog X.w (upd H s.heap.objs.size (.tup [.int i, x])) h2 := fun c o z => by
      by_cases hb : c = s.heap.objs.size
      · subst hb
        rw [upd_same] at z
        cases z
        exact ⟨by show 2 ≤ sizeLine; decide, [.int i tk, u], .cons ⟨tk, rfl⟩ (.cons rx .nil), _, newT, rfl, _, rfl⟩
      · rw [upd_ne hb] at z
        refine (I.hok c o z).stay (fun d v hd q => kept d v ?_ q) (fun d q => by rw [upd_ne (ne_of_none q hT)]; exact q) fun d l q => by rw [upd_ne (ne_of_none q hT)]; exact q
        rcases hd with e' | e'
        · rw [e']; exact trk c o z
        · exact trk d _ e'
    have I2 : Inv X pins σ (upd H s.heap.objs.size (.tup [.int i, x])) { s with heap := h2, toks := tk + 1 } := by
      refine I.step (g' := s.gens) (d' := s.drawn) (t' := tk + 1) (ch := [e, it]) (fun c hc' => ?_) (fun c o _ _ hn z _ => kept c o hn z) (fun c o _ _ hn z _ => ⟨o.slots, kept c o hn z⟩)
        (fun c o _ z n => by rw [upd_ne (Nat.ne_of_lt (Heap.lt_size z))]; exact n) (fun c o hn z => ⟨o, kept c o hn z⟩) (fun c l z => by rw [upd_ne (ne_of_none z hT)]; exact z) (fun c o l z => by rw [upd_ne (ne_of_none z hT)]; exact z)
        (fun c l z => ⟨#[], by rw [upd_ne (ne_of_none z hT), z]; simp⟩) (fun m hm => ?_) hok2 I.bare
      · obtain ⟨f0, f1, f2, f3, f4, f5⟩ := hf c hc'
        exact ⟨f3, f1, f4, f5⟩
      · obtain ⟨o, es', ep, ho, r⟩ := hm
        refine ⟨o, es', ep, kept _ o (fun hc' => ?_) ho, r⟩
        exact (hf _ hc').2.1 rfl
    refine ⟨.ref s.heap.objs.size, _, I2, rfl, ⟨s.heap.objs.size, hT, rfl, fun xs' e1' => ⟨x, ?_, rfl⟩⟩, ⟨⟨u, ?_⟩, ?_⟩, fun c hc' => ?_⟩
    · rw [I.tuple_inj e1' hxs]; exact hx
    · have := e1
      rw [show (((i + 1 : Nat) : Int)) = (i : Int) + 1 by omega]
      exact this
    · exact g3.1.extBut sb.extBut nei.symm
    · rw [upd_ne (ne c hc')]
      exact (hf c hc').1
  done := by
    intro X hP hw hK hc i pins s σ H E I hf st hg
    subst hP hw hK
    obtain ⟨⟨old, s1⟩, s4⟩ := st
    obtain ⟨xs, hxs, hlen⟩ := hg
    obtain ⟨its, rv, p, _⟩ := I.tuple hxs
    have hl := rv.length
    have hT : s.TypeIs (.ref e) "enumerate" := ⟨_, s1, rfl⟩
    have fin : ∀ h', Heap.ExtBut it s.heap h' → Inv X pins σ H { s with heap := h' } := fun h' kp => by
      obtain ⟨f0, f1, f2, f3, f4, f5⟩ := hf it (by simp)
      exact I.turned (t' := s.toks) (fun b o hb z => kp b o hb z) f0 f1 f3 f4 f5
    unfold pyNext
    refine wpAny_bind (wpAny_attempt (wpAny_callSpecial?_slot (name := Str.ofString "__next__") hT F.slot_enumerate_next (wpAny_call_entry F.slot_enumerate_next hT F.entry_enumerate_next ?_ (F.args_enumerate_next_1 _))))
    show wpAny _ _ (field (.ref e) 2 >>= _) _ _ _
    refine wpAny_bind (wpAny_field s1 rfl (x := .ref it) rfl ?_)
    refine wpAny_bind (nx_tup_end (I.ok.hd hc) s4 (show s.heap.IsTuple a its.toArray from p) (by simp; omega) fun h' x he' hx' => ?_)
    obtain ⟨o, ho, hcx⟩ := hx'
    refine wpAny_bind (wpAny_isInstance (T := "StopIteration") (b := true) ⟨o, ho, hcx⟩ isSubtype_stop (wpAny_pure ⟨rfl, fin h' he'⟩))
  self := fun _ _ _ _ _ st h => wpAny_pyIter_enum st.1.choose_spec h
section
variable {X : Cx}
def iEnum (K : PySem.W.Frag) (t : TA) : TI := fun σ H R => t σ H fun vs H1 => ∃ a xs, vs = [.ref a] ∧ SqT K H1 a xs ∧ R (Ite K a) H1
theorem pi_enum {es : List Expr} {k : Nat} {tp : Pos} {a : Expr} {ta : TA} {p pos : Pos} (hg : Gl X "enumerate") (hm : X.mg "enumerate" = none) (ha : PA X [a] ta) (hs : starEach [a] X.env = [(false, eval a X.env)] := by rfl) :
    PI X (.Tuple es k tp) (.Call (.Name "enumerate" p) [a] [] pos) (iEnum X.K ta) := by
  intro pins s σ H R I h
  refine Call_ (ld_blt I hg hm boot_enumerate (PyProof.Rows.callWith_type1 (thn (ha pos pins s σ H _ I h) fun us s1 ⟨vs, H1, I1, r1, q1⟩ => ?_) hs rfl))
  obtain ⟨x, xs, e, hx, q⟩ := q1
  subst e
  obtain ⟨u, rfl, ru⟩ := vals1 r1
  cases ru
  obtain ⟨its, _, p1, _⟩ := I1.tuple hx
  refine call_enum_tup (show s1.heap.IsTuple x its.toArray from p1) fun h' z1 z4 kp => ?_
  refine wpAny_pyIter_enum z1 ?_
  have lx : x < s1.heap.objs.size := by obtain ⟨_, e, _⟩ := (show s1.heap.IsTuple x its.toArray from p1); exact Heap.lt_size e
  refine ⟨_, _, _, _, H1, rfl, I1.kept (t' := s1.toks) kp, turn_enum (e := s1.heap.objs.size + 1) (it := s1.heap.objs.size) (a := x) (Nat.succ_ne_self _) (Nat.ne_of_gt (Nat.lt_succ_of_lt lx)) (Nat.ne_of_lt lx), ⟨⟨_, z1⟩, z4⟩, fun c hc => ?_, q⟩
  have hle : s1.heap.objs.size ≤ c := by
    simp only [List.mem_cons, List.not_mem_nil, or_false] at hc
    rcases hc with q | q <;> subst q
    · exact Nat.le_add_right _ 1
    · exact Nat.le_refl _
  exact I1.fpOk hle (I1.hok.fresh hle)
end
/-- for i, x in enumerate(t): the tuple stands through -/
theorem for_enum {K : PySem.W.Frag} {a : Addr} {xs : List V} {g : TG} {tb : TS} {D : Ends} {σ : St} {H : Hp} (Pv : Nat → St → Hp → Prop) (h0 : Pv 0 σ H) (hl : ∀ i σ H, i ≤ xs.length → Pv i σ H → SqT K H a xs)
    (hs : ∀ i x σ H T, xs[i]? = some x → Pv i σ H → H T = none → g (.ref T) σ (upd H T (.tup [.int i, x])) fun σ2 H2 => tb { D with nx := Pv (i + 1), ct := Pv (i + 1), bk := D.nx } σ2 H2) (hd : ∀ σ H, Pv xs.length σ H → D.nx σ H) :
    ∃ W : Nat → Nat → St → Hp → Prop, (∃ m, W 0 m σ H) ∧ ∀ i m σ H, W i m σ H →
      ((Ite K a).stop i H ∧ D.nx σ H) ∨ ((Ite K a).go i H ∧ ∃ N : St → Hp → Prop, (∀ σ' H', N σ' H' → ∃ m', m' < m ∧ W (i + 1) m' σ' H') ∧ ∀ x H', (Ite K a).yld i H x H' → g x σ H' fun σ2 H2 => tb { D with nx := N, ct := N, bk := D.nx } σ2 H2) := by
  refine ⟨fun i m σ H => m = xs.length - i ∧ i ≤ xs.length ∧ Pv i σ H, ⟨xs.length, by simp, Nat.zero_le _, h0⟩, ?_⟩
  rintro i m σ H ⟨rfl, hi, p⟩
  have q := hl i σ H hi p
  by_cases hlt : i < xs.length
  · refine .inr ⟨⟨xs, xs[i], q, by simp [hlt]⟩, Pv (i + 1), fun σ' H' p' => ⟨xs.length - (i + 1), by omega, rfl, hlt, p'⟩, fun x H' y => ?_⟩
    obtain ⟨T, nT, rfl, y⟩ := y
    obtain ⟨x, ex, rfl⟩ := y xs q
    exact hs i x σ H T ex p nT
  · have e : i = xs.length := by omega
    subst e
    exact .inl ⟨⟨xs, q, Nat.le_refl _⟩, hd σ H p⟩
end L2

set_option Elab.async false
set_option linter.all false
set_option maxRecDepth 100000
/-! min of a list of ints; () + t; t[a:b] where it is the whole; t[::-1]. -/
namespace L2
open PySem PySem.Spec PyProof.Rows
section
variable {X : Cx}
theorem call_min_list (hc : X.calm = true) : CallR X (.builtin "min") (fun xs H Q => ∃ (p : Addr) (ns : List Int), xs = [.ref p] ∧ SqL X.K H p (ns.map V.int) ∧ ns ≠ [] ∧ ∀ M, M ∈ ns → (∀ a ∈ ns, M ≤ a) → Q (.int M) H) := by
  intro pins s σ H xs us Q I r h
  obtain ⟨p, ns, rfl, hq, hne, q⟩ := h
  obtain ⟨u, rfl, ru⟩ := vals1 r
  cases ru
  obtain ⟨its, rv, pl, hz⟩ := I.list hq
  have hi : IntsAre its ns := intsAre_of rv
  obtain ⟨zs, ez⟩ := (hi.allInts : AllInts its.toArray).items
  have en : numsOf its = ns := hi.numsOf
  have hl : s.heap.IsList p (intItems zs) := ez ▸ pl.isList
  have hpos : 0 < zs.size := by
    have e1 : (intItems zs).size = its.length := by rw [← ez, List.size_toArray]
    have e2 := rv.length
    rw [List.length_map] at e2
    have e3 : 0 < ns.length := List.length_pos_iff.mpr hne
    simp only [intItems, Array.size_map] at e1
    omega
  have hn : numsOf (intItems zs).toList = ns := by rw [← ez]; exact en
  refine min_intList (I.ok.hd hc) hl hpos fun v h' tk hv hk => ?_
  obtain ⟨t, rfl⟩ := intItems_at hv
  obtain ⟨h1, h2⟩ := argBest_lt (numAt zs) (zs.size - 1)
  rw [nums_intItems] at hn
  refine ⟨.int _, H, I.kept (t' := tk) hk, ⟨t, rfl⟩, q _ ?_ fun a ha => ?_⟩
  · rw [← hn, numAt_eq]
    exact getD_mem (by rw [List.length_map, Array.length_toList]; omega)
  · rw [← hn] at ha
    obtain ⟨j, hj, rfl⟩ := mem_getD ha
    rw [List.length_map, Array.length_toList] at hj
    rw [← numAt_eq]
    exact h2 j (by omega)
/-- () + u -/
def rCatT0 (K : PySem.W.Frag) : R2 := fun x y H Q => ∃ a b ys, x = .ref a ∧ y = .ref b ∧ SqT K H a [] ∧ SqT K H b ys ∧ Q (.ref b) H
open Builtin in
theorem add_tup0 (l b : Addr) (its : Array Value) (n m : Nat) (dd dd2 : Option Addr) (sl sl2 : Array (Option Value)) :
    Meets (Builtin.«tuple.__add__» ⟨[.ref l, .ref b], []⟩) (fun _ R s => s.heap.get? l = some { cls := .type "tuple", dict := dd, data := .seq #[] n, slots := sl } ∧ s.heap.get? b = some { cls := .type "tuple", dict := dd2, data := .seq its m, slots := sl2 } ∧ R (.ok (.ret (.ref b))) s) := by
  refine .of_wp fun prog w A R s h => ?_
  obtain ⟨hp, g, d, tk, os⟩ := s
  obtain ⟨hl, hb, h⟩ := h
  have f2 := PySem.AutoSeq1.sub_tuple_tuple
  wp_walk
  exact ⟨_, rfl, h⟩
theorem op_catT0 : OpR X (binaryOp .Add) (rCatT0 X.K) := by
  intro pins s σ H x y v u Q I rx ry h
  obtain ⟨a, b, ys, rfl, rfl, ha, hb, q⟩ := h
  cases rx
  cases ry
  obtain ⟨its, r1, p1, _⟩ := I.tuple ha
  obtain ⟨its2, r2, p2, _⟩ := I.tuple hb
  have e : its = [] := r1.zero
  subst e
  obtain ⟨⟨cls, dd, data, sl⟩, ho, hc, n, hd⟩ := id p1
  obtain ⟨⟨cls2, dd2, data2, sl2⟩, ho2, hc2, n2, hd2⟩ := id p2
  simp only at hc hd hc2 hd2
  subst hc hd hc2 hd2
  exact concat_meets ⟨_, ho, rfl⟩ ⟨_, ho2, rfl⟩ noFill_tuple_add seq_tuple_add PySem.F.slot_tuple_add PySem.F.entry_tuple_add (PySem.F.args_tuple_add_2 _ _) (add_tup0 a b its2.toArray n n2 dd dd2 sl sl2) ⟨ho, ho2, .ref b, H, I, rfl, q⟩
/-- t + u, any t, u not empty -/
theorem op_catT2 : OpR X (binaryOp .Add) (fun x y H Q => ∃ a b xs ys, x = .ref a ∧ y = .ref b ∧ SqT X.K H a xs ∧ SqT X.K H b ys ∧ ys ≠ [] ∧ xs.length + ys.length ≤ sizeLine ∧ (xs = [] → Q (.ref b) H) ∧ (xs ≠ [] → ∀ p, H p = none → Q (.ref p) (upd H p (.tup (xs ++ ys))))) := by
  intro pins s σ H x y v u Q I rx ry h
  obtain ⟨a, b, xs, ys, rfl, rfl, ha, hb, hy, hz, q1, q2⟩ := h
  by_cases hx : xs = []
  · subst hx
    exact op_catT0 pins s σ H _ _ v u Q I rx ry ⟨a, b, ys, rfl, rfl, ha, hb, q1 rfl⟩
  · exact op_catT pins s σ H _ _ v u Q I rx ry ⟨a, b, xs, ys, rfl, rfl, ha, hb, hx, hz, fun z => absurd z hy, fun _ => q2 hx⟩
end
section
variable {prog : Program} {w : World} {A : Around} {E : Value → Shared → Prop} {s : Shared}
open HT in
theorem getItem_tup_whole {t sl : Addr} {items : Array Value} {vl vu : Value} {lo hi : Option Int} {Q : Value → Shared → Prop} (ht : IsTup s.heap t items) (hs : s.heap.IsSliceOf sl vl vu .none) (pl : IsPart vl lo) (pu : IsPart vu hi)
    (h1 : sIx items.size 0 lo = 0) (h2 : sIx items.size items.size hi = items.size) (h : Q (.ref t) s) : wpAny (model prog w) A (getItem (.ref t) (.ref sl)) Q E s := by
  obtain ⟨os, hos, hcs, hds⟩ := id hs
  have hTs : s.TypeIs (.ref sl) "slice" := ⟨os, hos, hcs⟩
  unfold getItem
  try with_reducible refine wpAny_holding ?_
  first | refine wpAny_bind (wpAny_pure ?_) | skip
  refine wpAny_bind (wpAny_sequenceKey ht.typeIs (by decide) ?_)
  refine wpAny_bind (wpAny_callSpecial?_slot (name := Str.ofString "__getitem__") ht.typeIs PyProof.Rows.slot_tuple_getitem
    (wpAny_call_entry PyProof.Rows.slot_tuple_getitem ht.typeIs entry_tuple_getitem ?_ (args_tuple_getitem _ _)))
  show wpAny _ _ (Builtin.Tuple.tupleItemsOf (.ref t) >>= _) _ _ s
  refine wpAny_bind (tupleItemsOf_ ht ?_)
  refine wpAny_bind (wpAny_typeOf hTs ?_)
  rw [if_pos (by decide)]
  refine wpAny_bind (sliceApplied_gen hs pl pu ?_)
  rw [h1, h2]
  show wpAny _ _ (if ((((0 : Nat) : Int)) == 0 && (1 : Int) == 1 && (items.size - 0) == items.size) = true then _ else _) _ _ s
  rw [if_pos (by simp)]
  unfold Builtin.Tuple.tupleIsExact
  refine wpAny_bind (wpAny_bind (wpAny_typeOf ht.typeIs (wpAny_pure ?_)))
  rw [if_pos (by decide)]
  exact wpAny_bind (wpAny_rule (wpAny_pure ⟨_, rfl, wpAny_pure h⟩))
end
section
variable {X : Cx}
/-- t[lo:hi]: the whole is t itself -/
def rSlW (K : PySem.W.Frag) : V → Option Int → Option Int → Hp → VK → Prop := fun x lo hi H Q => ∃ a xs, x = .ref a ∧ SqT K H a xs ∧
  ((HT.sIx xs.length 0 lo = 0 ∧ HT.sIx xs.length xs.length hi = xs.length) → Q (.ref a) H) ∧ (¬ (HT.sIx xs.length 0 lo = 0 ∧ HT.sIx xs.length xs.length hi = xs.length) → ∀ p, H p = none → Q (.ref p) (upd H p (.tup (cutV xs lo hi))))
theorem sl_tupW : SlR X (rSlW X.K) := by
  intro pins s σ H x v vl vu lo hi sl Q I rx hs pl pu h
  obtain ⟨a, xs, rfl, hx, q1, q2⟩ := h
  by_cases hw : HT.sIx xs.length 0 lo = 0 ∧ HT.sIx xs.length xs.length hi = xs.length
  · cases rx
    obtain ⟨its, r, ht, hz⟩ := I.tuple hx
    have hlen : its.toArray.size = xs.length := by rw [List.size_toArray]; exact r.length.symm
    refine ⟨"tuple", _, PyProof.Rows.slot_tuple_getitem.lookup, ht.typeIs, ?_⟩
    exact getItem_tup_whole ht hs pl pu (by rw [hlen]; exact hw.1) (by rw [hlen]; exact hw.2) ⟨.ref a, H, I, rfl, q1 hw⟩
  · exact sl_tup pins s σ H _ v vl vu lo hi sl Q I rx hs pl pu ⟨a, xs, rfl, hx, hw, q2 hw⟩
end
section
variable {prog : Program} {w : World} {A : Around} {E : Value → Shared → Prop} {s : Shared}
end
section
variable {X : Cx} {e : Expr} {te : TE} {pos p2 p3 p4 : Pos} {j : Nat}
end
end L2

set_option Elab.async false
set_option linter.all false
set_option maxRecDepth 100000
/-! exceptions: one that flies, a frame left. -/
namespace L2
open PySem PySem.Spec PyProof.Rows PySem.Calls
/-- an exception of class C at e; tb: its first trace, or none -/
structure Fly (h : Heap) (e : Addr) (C tb : Value) : Prop where
  obj : ∃ oe vs, h.get? e = some oe ∧ oe.cls = C ∧ oe.data = .fields vs ∧ vs[1]? = some tb ∧ oe.dict = none
  tr : tb = .none ∨ ∃ T oT ts, tb = .ref T ∧ T ≠ e ∧ h.get? T = some oT ∧ oT.data = .fields ts ∧ ts[3]? = some .none
theorem mapF_dict (f : Array Value → Array Value) (o : Obj) : (Obj.mapFields f o).dict = o.dict := by
  unfold Obj.mapFields
  split <;> rfl
section
variable {M : Model} {A : Around} {E : Value → Shared → Prop} {s : Shared}
/-- one trace more: what is turned are the exception, its old first trace, and slots of frames -/
theorem entry_st {base : Heap} {env : Env} {outer : List Env} {L e : Addr} {oe : Obj} {vs : Array Value} {head : Value} {hadNext : Bool} {Q : Unit → Shared → Prop}
    (hfr : A.frames = some (env :: outer)) (hl : s.heap.FunFrames base (env :: outer)) (hf : env.frame = some L) (he : s.heap.get? e = some oe) (hd : oe.data = .fields vs) (hz : 1 < vs.size) (hdd : oe.dict = none)
    (h : ∀ h' T, s.heap.get? T = none → Fly h' e oe.cls (.ref T) → (∀ b o, s.heap.get? b = some o → b ≠ e → b ∉ frs (env :: outer) → h'.get? b = some o) → (∀ b o, s.heap.get? b = some o → b ≠ e → ∃ sl, h'.get? b = some { o with slots := sl }) → Q () { s with heap := h' }) :
    wpAny M A (do let a ← frameOf env; let pl ← entryPlaceOf L hadNext; let b ← EntryCells.newEntry head a .none (rawInt L) .none pl; setField (.ref e) 1 b) (fun _ s' => wpAny M A (setFlight (.ref e) none) Q E s') E s := by
  have ne : e ∉ frs (env :: outer) := fun hm => by
    obtain ⟨_, o, ho, hn⟩ := hl.mem hm
    rw [he] at ho
    cases ho
    exact hn vs hd
  refine wpAny_bind (wpAny_frameOf_fun hfr hl hf fun h1 hs1 => ?_)
  have e1 : h1.get? e = some oe := (hs1.2.1 e ne).trans he
  refine wpAny_bind (wpAny_entryPlaceOf fun pl hpl => ?_)
  unfold EntryCells.newEntry newFields
  refine wpAny_bind (wpAny_newObj_type ?_ (hpl.sizeOk5 _ _ _ _ _))
  obtain ⟨fs, efs⟩ : ∃ fs, fs = ([head, .ref L, .none, rawInt L, .none] ++ (if pl.isEmpty then List.replicate 6 Value.none else pl)).toArray := ⟨_, rfl⟩
  have fz : 3 < fs.size := by
    rw [efs, List.size_toArray, List.length_append]
    show 3 < 5 + _
    omega
  rw [← efs]
  obtain ⟨h2, eh2⟩ : ∃ h2, h2 = h1.push { cls := .type "traceback", dict := none, data := .fields fs } := ⟨_, rfl⟩
  have nT : h1.objs.size ≠ e := Nat.ne_of_gt (Heap.lt_size e1)
  have t2 : h2.get? h1.objs.size = some { cls := .type "traceback", dict := none, data := .fields fs } := by rw [eh2]; exact Heap.get?_push_size h1 rfl
  have k2 : ∀ b o, h1.get? b = some o → h2.get? b = some o := fun b o z => by rw [eh2]; exact Heap.get?_push_of_some _ z
  refine wpAny_setField (s := { s with heap := h1.push { cls := .type "traceback", dict := none, data := .fields fs } }) (by rw [← eh2]; exact k2 _ _ e1) hd hz ?_
  rw [← eh2]
  obtain ⟨h3, eh3⟩ : ∃ h3, h3 = h2.update e (Obj.mapFields (·.setIfInBounds 1 (Value.ref h1.objs.size))) := ⟨_, rfl⟩
  have d3 := Obj.data_mapFields hd (·.setIfInBounds 1 (Value.ref h1.objs.size))
  have g3 := Heap.get?_update_self (Obj.mapFields (·.setIfInBounds 1 (Value.ref h1.objs.size))) (k2 _ _ e1) (Obj.isFreed_of_fields d3)
  have o3 : ∀ b, b ≠ e → h3.get? b = h2.get? b := fun b hb => by rw [eh3]; exact Heap.get?_update_other _ _ (Ne.symm hb)
  show wpAny M A (setFlight (.ref e) none) Q E { s with heap := h2.update e (Obj.mapFields (·.setIfInBounds 1 (Value.ref h1.objs.size))) }
  rw [← eh3] at g3 ⊢
  unfold setFlight
  have v1 : (vs.setIfInBounds 1 (Value.ref h1.objs.size))[1]? = some (.ref h1.objs.size) := by simp [hz]
  refine wpAny_bind (wpAny_field (s := { s with heap := h3 }) g3 d3 v1 ?_)
  rw [if_pos (show (Value.ref h1.objs.size != Value.none) = true by simp)]
  have t3 : h3.get? h1.objs.size = some { cls := .type "traceback", dict := none, data := .fields fs } := (o3 _ nT).trans t2
  refine wpAny_setField (s := { s with heap := h3 }) t3 rfl fz ?_
  have kk : ∀ b o, b ≠ e → h1.get? b = some o → (h3.update h1.objs.size (Obj.mapFields (·.setIfInBounds 3 ((none : Option Addr).elim Value.none fun f => rawInt f)))).get? b = some o := fun b o hb z => by
    rw [Heap.get?_update_other _ _ (Nat.ne_of_gt (Heap.lt_size z)), o3 b hb]
    exact k2 b o z
  refine h _ h1.objs.size ?_ ⟨⟨_, _, ?_, Obj.cls_mapFields _ _, d3, v1, (mapF_dict _ _).trans hdd⟩, .inr ⟨h1.objs.size, _, _, rfl, nT, Heap.get?_update_self _ t3 (Obj.isFreed_of_fields (Obj.data_mapFields rfl _)), Obj.data_mapFields rfl _, by simp [fz]⟩⟩ (fun b o z hb hn => ?_) fun b o z hb => ?_
  · cases z : s.heap.get? h1.objs.size with
    | none => rfl
    | some o =>
      obtain ⟨sl, q⟩ := hs1.2.2 _ o z
      exact absurd (Heap.lt_size q) (Nat.lt_irrefl _)
  · rw [Heap.get?_update_other _ _ nT]
    exact g3
  · exact kk b o hb ((hs1.2.1 b hn).trans z)
  · obtain ⟨sl, q⟩ := hs1.2.2 b o z
    exact ⟨sl, kk b _ hb q⟩
/-- an exception is noted at a frame -/
theorem note_st {base : Heap} {env : Env} {outer : List Env} {L e : Addr} {C tb : Value} {Q : Unit → Shared → Prop}
    (hfr : A.frames = some (env :: outer)) (hl : s.heap.FunFrames base (env :: outer)) (hf : env.frame = some L) (fl : Fly s.heap e C tb)
    (h : ∀ h' T, s.heap.get? T = none → Fly h' e C (.ref T) → (∀ b o, s.heap.get? b = some o → b ≠ e → tb ≠ .ref b → b ∉ frs (env :: outer) → h'.get? b = some o) → (∀ b o, s.heap.get? b = some o → b ≠ e → tb ≠ .ref b → ∃ sl, h'.get? b = some { o with slots := sl }) → (∀ b o, s.heap.get? b = some o → ∃ o', h'.get? b = some o') → Q () { s with heap := h' }) :
    wpAny M A (noteFrame (.ref e) env) (fun _ s' => wpAny M A (setFlight (.ref e) none) Q E s') E s := by
  obtain ⟨⟨oe, vs, he, rfl, hd, h1, hdd⟩, tr⟩ := fl
  have hz := (Array.getElem?_eq_some_iff.mp h1).1
  unfold noteFrame
  simp only [hf]
  refine wpAny_bind (wpAny_field he hd h1 ?_)
  rcases tr with rfl | ⟨T0, oT, ts, rfl, nT, hT, hdT, h3⟩
  · rw [if_neg (by decide)]
    refine entry_st hfr hl hf he hd hz hdd fun h' T nT fl' k1 k2 => h h' T nT fl' (fun b o z hb _ hn => k1 b o z hb hn) (fun b o z hb _ => k2 b o z hb) fun b o z => ?_
    by_cases hb : b = e
    · obtain ⟨oe', _, q, _⟩ := fl'.obj
      exact ⟨oe', hb ▸ q⟩
    · obtain ⟨sl, q⟩ := k2 b o z hb
      exact ⟨_, q⟩
  · rw [if_pos (show (Value.ref T0 != Value.none) = true by simp)]
    refine wpAny_bind (wpAny_field hT hdT h3 ?_)
    rw [if_neg (show ¬ ((Value.none == rawInt L) = true) by simp [rawInt])]
    refine wpAny_bind (wpAny_setField hT hdT (Array.getElem?_eq_some_iff.mp h3).1 ?_)
    obtain ⟨g, eg⟩ : ∃ g, g = s.heap.update T0 (Obj.mapFields (·.setIfInBounds 3 Value.none)) := ⟨_, rfl⟩
    have og : ∀ b, b ≠ T0 → g.get? b = s.heap.get? b := fun b hb => by rw [eg]; exact Heap.get?_update_other _ _ (Ne.symm hb)
    have tg : ∃ o, g.get? T0 = some o := ⟨_, by rw [eg]; exact Heap.get?_update_self _ hT (Obj.isFreed_of_fields (Obj.data_mapFields hdT _))⟩
    have hl2 : g.FunFrames base (env :: outer) := hl.of_keeps fun b o z hn => ⟨o, (og b fun q => by rw [q, hT] at z; cases z; exact hn ts hdT).trans z, rfl⟩
    show wpAny M A _ _ E { s with heap := s.heap.update T0 (Obj.mapFields (·.setIfInBounds 3 Value.none)) }
    rw [← eg]
    refine entry_st (s := { s with heap := g }) hfr hl2 hf ((og e (Ne.symm nT)).trans he) hd hz hdd fun h' T nT' fl' k1 k2 => h h' T ?_ fl' (fun b o z hb ht hn => k1 b o ((og b fun q => ht (by rw [q])).trans z) hb hn) (fun b o z hb ht => k2 b o ((og b fun q => ht (by rw [q])).trans z) hb) fun b o z => ?_
    · have nT' : g.get? T = none := nT'
      by_cases q : T = T0
      · obtain ⟨o, e⟩ := tg
        rw [q, e] at nT'
        cases nT'
      · rw [← og T q]
        exact nT'
    · by_cases hb : b = e
      · obtain ⟨oe', _, q, _⟩ := fl'.obj
        exact ⟨oe', hb ▸ q⟩
      · obtain ⟨o2, e2⟩ : ∃ o2, g.get? b = some o2 := by
          by_cases q : b = T0
          · rw [q]; exact tg
          · exact ⟨o, (og b q).trans z⟩
        obtain ⟨sl, q⟩ := k2 b o2 e2 hb
        exact ⟨_, q⟩
/-- a frame is left by an exception -/
theorem leave_st {base : Heap} {env : Env} {outer : List Env} {L e : Addr} {C tb : Value} {Q : Unit → Shared → Prop}
    (hfr : A.frames = some (env :: outer)) (hl : s.heap.FunFrames base (env :: outer)) (hf : env.frame = some L) (fl : Fly s.heap e C tb)
    (h : ∀ h' T, s.heap.get? T = none → Fly h' e C (.ref T) → (∀ b o, s.heap.get? b = some o → b ≠ e → tb ≠ .ref b → b ∉ frs (env :: outer) → h'.get? b = some o) → (∀ b o, s.heap.get? b = some o → b ≠ e → tb ≠ .ref b → ∃ sl, h'.get? b = some { o with slots := sl }) → (∀ b o, s.heap.get? b = some o → ∃ o', h'.get? b = some o') → Q () { s with heap := h' }) :
    wpAny M A (leaving env (.ref e)) Q E s := by
  unfold leaving
  exact wpAny_bind (note_st hfr hl hf fl h)
end
theorem ObjOk.there {P : Program} {w : World} {H : Hp} {h : Heap} {a : Addr} {o : HO} (x : ObjOk P w H h a o) : ∃ ob, h.get? a = some ob := by
  cases o with
  | lst xs => obtain ⟨_, _, _, _, e⟩ := x; exact ⟨_, e⟩
  | tup xs => obtain ⟨_, _, _, ob, e, _⟩ := x; exact ⟨_, e⟩
  | dK kvs => obtain ⟨_, _, _, _, o, _, _, e, _⟩ := x; exact ⟨_, e⟩
  | dT kvs => obtain ⟨_, _, _, _, o, _, _, e, _⟩ := x; exact ⟨_, e⟩
  | set S n => obtain ⟨o, _, _, _, e, _⟩ := x; exact ⟨_, e⟩
  | ins C dx fs => obtain ⟨_, _, _, e, _⟩ := x; exact ⟨_, e⟩
  | own y => exact x
  | xd fs => obtain ⟨_, ⟨_, _, _, e, _⟩, _⟩ := x; exact ⟨_, e⟩
  | rng lo hi => obtain ⟨_, _, _, e⟩ := x; exact ⟨_, e⟩
  | frz ob u => obtain ⟨e, _⟩ := x; exact ⟨_, e⟩
  | tbl ps => exact ⟨_, (show h.get? a = some _ from x)⟩
  | met f y => exact ⟨_, (show h.get? a = some _ from x)⟩
  | ext φ => obtain ⟨_, e, _⟩ := x; exact e
theorem HOk.no {P : Program} {w : World} {H : Hp} {h : Heap} {a : Addr} (x : HOk P w H h) (e : h.get? a = none) : H a = none := by
  cases q : H a with
  | none => rfl
  | some o =>
    obtain ⟨ob, z⟩ := (x a o q).there
    rw [e] at z
    cases z
/-- what is wanted of an exception that leaves the code: EX of its place, its class, the heap -/
def Wish (X : Cx) (EX : Addr → Addr → Hp → Prop) : Prop := ∀ (pins : List (Addr × Obj)) (σ : St) (H : Hp) (s : Shared) (a C : Addr) (tb : Value), Inv X pins σ H s → Fly s.heap a (.ref C) tb → X.s₀.heap.get? a = none → H a = none →
  (∀ T, tb = .ref T → X.s₀.heap.get? T = none ∧ H T = none) → (∀ p ∈ X.pn ++ pins, p.1 ≠ a ∧ tb ≠ .ref p.1) → EX a C H → X.xe (.ref a) s
/-- an exception behind a call -/
def CX1 (P : Program) (w : World) : CXT := fun outer H s E e s' => ∃ a C H' T, e = .ref a ∧ s'.os = s.os ∧ AllBare s'.gens ∧ Un (frs outer) [] H H' s.heap s'.heap ∧ HOk P w H' s'.heap ∧ s.heap.get? a = none ∧ s.heap.get? T = none ∧ H' a = none ∧ H' T = none ∧ Fly s'.heap a (.ref C) (.ref T) ∧ E (.ref a) (some C) H'
section
variable {X : Cx}
theorem Inv.was {pins : List (Addr × Obj)} {σ : St} {H : Hp} {s : Shared} {a : Addr} (I : Inv X pins σ H s) (hx : X.ex = []) (e : s.heap.get? a = none) : X.s₀.heap.get? a = none := by
  cases q : X.s₀.heap.get? a with
  | none => rfl
  | some o =>
    obtain ⟨o', z⟩ := I.base.there a o q (by rw [hx]; simp)
    rw [e] at z
    cases z
/-- a callee's exception passes -/
theorem pass1 {E : XK} (W : Wish X fun a C H => E (.ref a) (some C) H) (hx : X.ex = []) : Passes (CX1 X.prog X.w) X E := by
  intro pins σ H s e s' I h
  obtain ⟨a, C, H', T, rfl, os, bare, un, hok, na, nT, fa, fT, fl, q⟩ := h
  have J : Inv X pins σ H' s' := I.call' os un hok bare fun b z => absurd z (by simp)
  refine W pins σ H' s' a C (.ref T) J fl (I.was hx na) fa (fun T' eT => by cases eT; exact ⟨I.was hx nT, fT⟩) (fun p hp => ?_) q
  obtain ⟨e, _⟩ := I.pin p hp
  exact ⟨fun z => (by rw [z, na] at e; cases e), fun z => (by cases z; rw [nT] at e; cases e)⟩
/-- raise C(..) -/
def tRaise (C : Addr) (EX : Addr → Addr → Hp → Prop) (t : TA) : TS := fun _ σ H => t σ H fun vs H1 => vs.length ≤ sizeLine ∧ ∀ a, H1 a = none → EX a C H1
theorem ps_raise {x : Str} {C : Addr} {B newId initId : String} {bm : List Value} {EX : Addr → Addr → Hp → Prop} {np cpos pos : Pos} {e : Expr} {es : List Expr} {t : TA} (O : OwnCls x C bm newId X.mg X.base) (FB : ExcBaseFacts B newId initId bm) (hc : X.calm = true) (hx : X.ex = []) (hg : Gl X x) (ha : PA X (e :: es) t) (W : Wish X EX)
    (hdb : (x == ("__debug__" : Str)) = false := by decide) (he : starEach (e :: es) X.env = (false, eval e X.env) :: starEach es X.env := by rfl) (hpl : (backTo cpos (starEach es X.env)).any (·.1) = false := by rfl) :
    PS X (.Raise (some (.Call (.Name x np) (e :: es) [] cpos)) none pos) (tRaise C EX t) := by
  intro pins s σ H D I h
  obtain ⟨tl, N, nm, q, bs, hdct, sn, sub, ab, col, dd, k0, k1, k2, k3, k5, mN, hC, hN, hni, T⟩ := O.obj
  refine wpAny_Raise_call_subT (C := C) (nm := nm) (q := q) (N := N) (bs := bs) (bm := tl) (hdct := hdct) (sn := sn) (sub := sub) (ab := ab) (col := col) (dd := dd) (k0 := k0) (k1 := k1) (k2 := k2) (k3 := k3) (k5 := k5)
    FB (mN := mN) (T.hasType FB.hasBase) (I.ok.hd hc) (by rw [he]; show (false || (backTo cpos (starEach es X.env)).any (·.1)) = false; rw [hpl]; rfl) hni ?_
  refine ld_glob I hg O.bound ⟨rfl, ?_⟩ hdb
  have h2 := ha cpos pins s σ H _ I h
  rw [he] at h2 ⊢
  refine Calls.evalArgs_plain (wpAny_mono h2 (fun us s2 z => ?_) fun _ _ y => y)
  obtain ⟨vs, H1, I1, r1, hl, q1⟩ := z
  have hlen := r1.length
  refine ⟨rfl, by show us.length ≤ _; omega, I1.bk _ _ hC, hN.keeps I1.bk, T.keeps I1.bk, fun h' a me => ?_⟩
  obtain ⟨tt, e1, e2, e3⟩ := me.there
  have J : Inv X pins σ H1 { s2 with heap := h' } := I1.kept (t' := s2.toks) me.keeps
  have fl : Fly h' a (.ref C) .none := ⟨⟨_, _, e1, rfl, rfl, rfl, rfl⟩, .inl rfl⟩
  refine W pins σ H1 _ a C .none J fl (I1.was hx me.new) (I1.hok.no me.new) (fun T z => by cases z) (fun p hp => ?_) (q1 a (I1.hok.no me.new))
  obtain ⟨e, _⟩ := I1.pin p hp
  exact ⟨fun z => (by rw [z, me.new] at e; cases e), fun z => (by cases z)⟩
end
/-- a def's body: an exception leaves its frame -/
theorem wish_of {P : Program} {w : World} {K : PySem.W.Frag} {mg : Str → Option Value} {base : Heap} {N : List Str} {qual : Str} {scope : Scope} {f : Addr} {cd : Value} {A : Around} {outer : List Env} {s : Shared} {H : Hp} {E : XK} :
    Wish (cxOf (CX1 P w) P w K mg base N qual scope f cd A outer s H E) fun a C H' => E (.ref a) (some C) H' := by
  intro pins σ H' s' a C tb I fl na fa ft _ q
  show wpAny (model P w) (A.deeper (envOfC qual scope s.heap.objs.size f cd)) (leaving (envOfC qual scope s.heap.objs.size f cd) (.ref a)) (fun _ s'' => CX1 P w outer H s E (.ref a) s'') (fun e' s'' => CX1 P w outer H s E e' s'') s'
  have hst : s'.heap.FunFrames base (envOfC qual scope s.heap.objs.size f cd :: outer) := I.stack
  have hfr : (A.deeper (envOfC qual scope s.heap.objs.size f cd)).frames = some (envOfC qual scope s.heap.objs.size f cd :: outer) := I.ok.frames
  have hff : (envOfC qual scope s.heap.objs.size f cd).frame = some s.heap.objs.size := by
    rcases I.ok.stk with z | z
    · exact absurd (congrArg List.length (show (envOfC qual scope s.heap.objs.size f cd :: outer) = outer from z)) (by simp)
    · exact z.2
  have ub : Un (frs outer) [] H H' s.heap s'.heap := I.base
  have na : s.heap.get? a = none := na
  have ft : ∀ T, tb = .ref T → s.heap.get? T = none ∧ H' T = none := ft
  refine leave_st hfr hst hff fl fun h' T nT fl' k1 k2 k3 => ?_
  have apart : ∀ b o, s.heap.get? b = some o → b ≠ a ∧ tb ≠ .ref b := fun b o e => ⟨fun z => (by rw [z, na] at e; cases e), fun z => (by rw [(ft b z).1] at e; cases e)⟩
  have nfr : ∀ b o, s.heap.get? b = some o → b ∉ frs outer → b ∉ frs (envOfC qual scope s.heap.objs.size f cd :: outer) := fun b o e hn hm => by
    unfold frs at hm
    rw [List.filterMap_cons, hff] at hm
    rcases List.mem_cons.mp hm with z | z
    · exact absurd (Heap.lt_size e) (by rw [z]; exact Nat.lt_irrefl _)
    · exact hn z
  refine ⟨a, C, H', T, rfl, I.os, I.bare, ⟨fun b o e n hb _ => ?_, fun b o e n hb _ => ?_, ub.free, fun b o e hx => ?_, ub.tups, ub.frzs, ub.tbls⟩, fun c o e => ?_, na, ?_, fa, I.hok.no nT, fl', q⟩
  · exact k1 b o (ub.keep b o e n hb (by simp)) (apart b o e).1 (apart b o e).2 (nfr b o e hb)
  · obtain ⟨sl, e1⟩ := ub.slot b o e n hb (by simp)
    obtain ⟨sl2, e2⟩ := k2 b _ e1 (apart b o e).1 (apart b o e).2
    exact ⟨sl2, e2⟩
  · obtain ⟨o', e1⟩ := ub.there b o e hx
    exact k3 b o' e1
  · refine (I.hok c o e).stay (fun d v hd z => ?_) (fun _ z => z) fun _ _ z => z
    have hHd : ∃ o', H' d = some o' := by
      rcases hd with z | z
      · exact ⟨o, by rw [z]; exact e⟩
      · exact ⟨_, z⟩
    obtain ⟨o', eo⟩ := hHd
    refine k1 d v z (fun y => (by rw [y, fa] at eo; cases eo)) (fun y => (by rw [(ft d y).2] at eo; cases eo)) fun hm => ?_
    rw [I.stkFree d hm] at eo
    cases eo
  · exact I.was rfl nT
/-- THE RULE for a def that may raise -/
theorem Fun.okX {P : Program} {w : World} {K : PySem.W.Frag} {mg : Str → Option Value} {base : Heap} {x qual : Str} {st : Stmt} {f : Addr} {fd : FuncData} {N ps : List Str} {k : Nat} {sp : Sp} (F : Fun K x qual st f fd) (S : FnScope N ps (defScope st)) (len : ∀ vs H Q E, sp vs H Q E → vs.length = ps.length)
    (hbody : ∀ (cdv : Value) (A : Around) (outer : List Env) (s : Shared) (H : Hp) (vs : List V) (Q : VK) (E : XK), Room k (A.deeper (envOfC qual (defScope st) s.heap.objs.size f cdv)) → sp vs H Q E →
      ∃ t, PSs (cxOf (CX1 P w) P w K mg base N qual (defScope st) f cdv A outer s H E) (defBody st) t ∧ t { nx := fun _ H' => Q .non H', rt := Q } (start N vs) H) : FnOk P w K mg base (CX1 P w) (k + 1) f fd ps sp := by
  obtain ⟨oc, od, kV, doc, pm, an, cdv, ct, osl, rfl, lk, hcd⟩ := F.ex
  exact fn_of lk hcd S len fun A outer s H vs Q E hr hsp => hbody cdv A outer s H vs Q E hr hsp
/-- a class of one's own, out of the objects that are known -/
theorem own_mk {K : PySem.W.Frag} {h : Heap} {mg : Str → Option Value} {x : Str} {C : Addr} {bmB : List Value} {newId : String} (X : K.In h) (hm : mg x = some (.ref C)) (q : PySem.W.excIn K C bmB newId = true) : OwnCls x C bmB newId mg h := by
  refine ⟨hm, ?_⟩
  unfold PySem.W.excIn at q
  split at q
  · rename_i dd cd sl ho
    split at q
    · rename_i C' bm k0 k1 k2 k3 n k5 hm' hs
      simp only [Bool.and_eq_true, beq_iff_eq, Bool.not_eq_true'] at q
      obtain ⟨⟨⟨⟨⟨rfl, rfl⟩, hdel⟩, ht⟩, hok⟩, hni⟩ := q
      obtain ⟨nm, bs, mro, ns, qn, hd, sn, sub, ab, col, del⟩ := cd
      dsimp only at hm' hdel hok hni
      subst hm' hdel
      obtain ⟨l⟩ := sl
      have hs : l = _ := hs
      subst hs
      exact ⟨bm, ns, nm, qn, bs, hd, sn, sub, ab, col, dd, k0, k1, k2, k3, k5, _, X _ _ ho, .of_isNs (PySem.W.isNs_of_in X hok), PySem.W.nsMap_none_of_in X hok hni, PySem.W.tail_of_in X ht⟩
    · cases q
  · cases q
end L2

set_option Elab.async false
set_option linter.all false
set_option maxRecDepth 100000
/-! try: the frame at hand behind an exception; defs that run while one is handled. -/
namespace L2
open PySem PySem.Spec PyProof.Rows PySem.Calls
section
variable {X : Cx} {pins : List (Addr × Obj)} {σ : St} {H : Hp} {s : Shared} {h' : Heap}
/-- a record of an exception is no frame, no cell -/
theorem Fly.ne {h : Heap} {a : Addr} {C tb : Value} (fl : Fly h a C tb) {b : Addr} {o : Obj} (e : h.get? b = some o) (hd : ∀ vs, o.data ≠ .fields vs) : b ≠ a ∧ tb ≠ .ref b := by
  obtain ⟨⟨oe, vs, he, _, hv, _, _⟩, tr⟩ := fl
  refine ⟨fun z => ?_, fun z => ?_⟩
  · rw [z, he] at e
    cases e
    exact hd vs hv
  · rcases tr with q | ⟨T, oT, ts, q, _, hT, hdT, _⟩
    · rw [q] at z
      cases z
    · rw [q] at z
      cases z
      rw [hT] at e
      cases e
      exact hd ts hdT
/-- what was turned are the records of an exception, and slots of frames -/
theorem Inv.left {a : Addr} {C tb : Value} {t' : Nat} (I : Inv X pins σ H s) (hx : X.ex = []) (fl : Fly s.heap a C tb) (na : X.s₀.heap.get? a = none) (fa : H a = none) (ft : ∀ T, tb = .ref T → X.s₀.heap.get? T = none ∧ H T = none) (hp : ∀ p ∈ X.pn ++ pins, p.1 ≠ a ∧ tb ≠ .ref p.1)
    (k1 : ∀ b o, s.heap.get? b = some o → b ≠ a → tb ≠ .ref b → b ∉ frs X.stack → h'.get? b = some o) (k2 : ∀ b o, s.heap.get? b = some o → b ≠ a → tb ≠ .ref b → ∃ sl, h'.get? b = some { o with slots := sl }) (k3 : ∀ b o, s.heap.get? b = some o → ∃ o', h'.get? b = some o') : Inv X pins σ H { s with heap := h', toks := t' } := by
  have tr : ∀ b u, H b = some u → b ≠ a ∧ tb ≠ .ref b ∧ b ∉ frs X.stack := fun b u e => ⟨fun z => (by rw [z, fa] at e; cases e), fun z => (by rw [(ft b z).2] at e; cases e), fun z => (by rw [I.stkFree b z] at e; cases e)⟩
  have old : ∀ b o, X.s₀.heap.get? b = some o → b ≠ a ∧ tb ≠ .ref b := fun b o e => ⟨fun z => (by rw [z, na] at e; cases e), fun z => (by rw [(ft b z).1] at e; cases e)⟩
  have neL : ∀ b o, X.s₀.heap.get? b = some o → b ≠ X.env.locals := fun b o e => Nat.ne_of_lt (Nat.lt_of_lt_of_le (Heap.lt_size e) I.ok.above)
  have nfs : ∀ b, b ≠ X.env.locals → b ∉ X.fs → b ∉ frs X.stack := fun b h1 h2 z => (List.mem_cons.mp (I.stkSub b z)).elim h1 h2
  have cellK : ∀ x c, X.env.cells.lookup x = some c → ∀ v, s.heap.IsCell c v → h'.IsCell c v := fun x c e v ⟨o, ho, hd⟩ => by
    obtain ⟨n1, n2⟩ := fl.ne ho fun vs q => by rw [hd] at q; cases q
    obtain ⟨sl, q⟩ := k2 c o ho n1 n2
    exact ⟨_, q, hd⟩
  refine ⟨I.ok, I.os, I.bare, ⟨fun b o e n hb hx' => ?_, fun b o e n hb hx' => ?_, I.base.free, fun b o e hx' => ?_, I.base.tups, I.base.frzs, I.base.tbls⟩, ?_, fun x c e => ?_, I.free, I.freeC, fun p hpm => ?_, fun c o e => ?_, I.len⟩
  · exact k1 b o (I.base.keep b o e n hb hx') (old b o e).1 (old b o e).2 (nfs b (neL b o e) hb)
  · obtain ⟨sl, e1⟩ := I.base.slot b o e n hb hx'
    obtain ⟨sl2, e2⟩ := k2 b _ e1 (old b o e).1 (old b o e).2
    exact ⟨sl2, e2⟩
  · obtain ⟨o', e1⟩ := I.base.there b o e hx'
    exact k3 b o' e1
  · obtain ⟨m, ⟨o, es, ep, ho, hd, r⟩, hl⟩ := I.loc
    obtain ⟨n1, n2⟩ := fl.ne ho fun vs q => by rw [hd] at q; cases q
    obtain ⟨sl, q⟩ := k2 _ o ho n1 n2
    refine ⟨m, ⟨_, es, ep, q, hd, r⟩, fun i x v e1 e2 e3 => ?_⟩
    obtain ⟨u, rr, l⟩ := hl i x v e1 e2 e3
    refine ⟨u, rr, ?_⟩
    rcases l with l | ⟨k, c, e, z⟩
    · exact .inl l
    · exact .inr ⟨k, c, e, cellK x c e _ z⟩
  · obtain ⟨v, z⟩ := I.cell x c e
    exact ⟨v, cellK x c e v z⟩
  · obtain ⟨e, n, ne, nf, d⟩ := I.pin p hpm
    exact ⟨k1 p.1 p.2 e (hp p hpm).1 (hp p hpm).2 (nfs p.1 ne nf), n, ne, nf, d⟩
  · refine (I.hok c o e).stay (fun d v hd z => ?_) (fun _ z => z) fun _ _ z => z
    have hHd : ∃ o', H d = some o' := by
      rcases hd with z | z
      · exact ⟨o, by rw [z]; exact e⟩
      · exact ⟨_, z⟩
    obtain ⟨o', eo⟩ := hHd
    obtain ⟨t1, t2, t3⟩ := tr d o' eo
    exact k1 d v z t1 t2 t3
end
/-! ### defs that run while an exception is handled -/
/-- room for a call, whatever is handled -/
structure RoomU (k : Nat) (A : Around) : Prop where
  dp : A.depth + 3 * k + 5 < recursionLimit
  un : A.units + 16 * k + 200 < cLine
  gd : A.guards = some []
theorem Room.toU {k : Nat} {A : Around} (r : Room k A) : RoomU k A := ⟨r.dp, r.un, r.gd⟩
theorem RoomU.mono {j k : Nat} {A : Around} (r : RoomU k A) (h : j ≤ k) : RoomU j A := ⟨by have := r.dp; omega, by have := r.un; omega, r.gd⟩
structure FnOkU (P : Program) (w : World) (K : PySem.W.Frag) (mg : Str → Option Value) (base : Heap) (CX : CXT) (k : Nat) (f : Addr) (fd : FuncData) (ps : List Str) (sp : Sp) : Prop where
  len : ∀ vs H Q E, sp vs H Q E → vs.length = ps.length
  run : ∀ (A : Around) (outer : List Env) (s : Shared) (H : Hp) (args : Args) (us : List Value) (vs : List V) (Q : VK) (E : XK), RoomU k A → Env0 P w K mg base A outer s H → BindsTo s fd args (ps.zip us) → Vals vs us → sp vs H Q E →
    codeAny (model P w) A (.call (.ref f) args) (CR CX outer P w H s Q E) s
/-- a context where an exception may be handled -/
abbrev Cx.un (X : Cx) (A : Around) : Cx := { X with A := A, calm := false }
theorem Inv.un' {X : Cx} {pins : List (Addr × Obj)} {σ : St} {H : Hp} {s : Shared} (I : Inv X pins σ H s) (A : Around) (hA : A.frames = X.A.frames) : Inv (X.un A) pins σ H s :=
  ⟨⟨I.ok.mod, I.ok.kind, I.ok.glob, I.ok.blt, I.ok.above, I.ok.inj, I.ok.has, I.ok.cab, fun z => (by cases z), hA.trans I.ok.frames, I.ok.stk, I.ok.exf, I.ok.bs, I.ok.bsz, I.ok.noex, I.ok.exfs, I.ok.funs, I.ok.frf⟩, I.os, I.bare, I.base, I.loc, I.cell, I.free, I.freeC, I.pin, I.hok, I.len⟩
/-- the same, with nothing handled -/
def qt (A : Around) : Around := { A with handled := none }
theorem Env0.qt {P : Program} {w : World} {K : PySem.W.Frag} {mg : Str → Option Value} {base : Heap} {A : Around} {outer : List Env} {s : Shared} {H : Hp} (e : Env0 P w K mg base A outer s H) : Env0 P w K mg base (qt A) outer s H :=
  ⟨e.frames, e.mod, e.bs, e.bsz, e.funs, e.frf, e.hok, e.bare⟩
theorem RoomU.mark {k : Nat} {A : Around} (r : RoomU k A) (v : Option Value) : RoomU k (A.mark v) := ⟨r.dp, r.un, r.gd⟩
theorem RoomU.deeper {k : Nat} {A : Around} (r : RoomU (k + 1) A) (env : Env) : RoomU k (A.deeper env) :=
  ⟨by have := r.dp; show A.depth + 1 + 3 * k + 5 < _; omega, by have := r.un; show A.units + 3 + 16 * k + 200 < _; omega, r.gd⟩
/-- THE RULE for a def that may run while an exception is handled; it raises none -/
theorem Fun.okU {P : Program} {w : World} {K : PySem.W.Frag} {mg : Str → Option Value} {base : Heap} {x qual : Str} {st : Stmt} {f : Addr} {fd : FuncData} {N ps : List Str} {k : Nat} {sp : Sp} (F : Fun K x qual st f fd) (S : FnScope N ps (defScope st)) (len : ∀ vs H Q E, sp vs H Q E → vs.length = ps.length)
    (hbody : ∀ (cdv : Value) (A : Around) (outer : List Env) (s : Shared) (H : Hp) (vs : List V) (Q : VK) (E : XK), RoomU k (A.deeper (envOfC qual (defScope st) s.heap.objs.size f cdv)) → sp vs H Q E →
      ∃ t, PSs (((cxOf CX0 P w K mg base N qual (defScope st) f cdv (qt A) outer s H E).un (A.deeper (envOfC qual (defScope st) s.heap.objs.size f cdv))).nox) (defBody st) t ∧ t { nx := fun _ H' => Q .non H', rt := Q } (start N vs) H) :
    FnOkU P w K mg base CX0 (k + 1) f fd ps sp := by
  obtain ⟨oc, od, kV, doc, pm, an, cdv, ct, osl, rfl, lk, hcd⟩ := F.ex
  refine ⟨len, fun A outer s H args us vs Q E hr e0 hb r hsp => ?_⟩
  have hl := len _ _ _ _ hsp
  have KX : K.In s.heap := e0.mod.kin.keeps fun b o e => (e0.bs b o e).1
  have lim : s.heap.NoLimit := e0.mod.nolimit.keeps fun b o e => (e0.bs b o e).1
  have hkind : ∀ y ∈ ps.zip us, (defScope st).names.lookup y.1 = some .local ∨ ((defScope st).names.lookup y.1 = some .cell ∧ ((cellsFrom (s.heap.objs.size + 1) (defScope st).names []).lookup y.1).isSome = true) := fun ⟨n, v⟩ hy => by
    rcases S.par n (List.of_mem_zip hy).1 with q | q
    · exact .inl q
    · exact .inr ⟨q, PySem.W.cellsFrom_some _ _ _ (.inl q)⟩
  refine codeAny_call_function (by have := hr.dp; omega) (KX _ _ lk) rfl S.co S.gen rfl (PySem.W.codeRec_of KX hcd) (hb _ _ _ _ ?_)
  refine wpAny_newFunctionEnv_cells S.kind hkind fun env he s1 x => ?_
  subst he
  refine ⟨lim.keeps x.toInCall.keep, codeAny_func ?_⟩
  obtain ⟨t, ht, hq⟩ := hbody cdv A outer s H vs Q E (hr.deeper _) hsp
  have I : Inv (cxOf CX0 P w K mg base N qual (defScope st) f cdv (qt A) outer s H E) [] (start N vs) H s1 := inv_start S rfl e0.qt hl r x
  have J := (I.un' (A.deeper (envOfC qual (defScope st) s.heap.objs.size f cdv)) rfl).wish fun _ _ => False
  refine wpAny_mono (ht [] s1 (start N vs) H _ J hq) (fun fl s' hs => ?_) fun e s' hs => hs.elim
  have fin : ∀ {σ' : St} {H' : Hp} {v : V} {u : Value}, Inv (((cxOf CX0 P w K mg base N qual (defScope st) f cdv (qt A) outer s H E).un (A.deeper (envOfC qual (defScope st) s.heap.objs.size f cdv))).nox) [] σ' H' s' → RelV v u → Q v H' → CE outer P w H s Q u s' :=
    fun {σ' H' v u} J rv q => ⟨v, H', J.os, J.bare, J.base, J.hok, rv, q⟩
  cases fl with
  | ret u =>
    obtain ⟨v, σ', H', J, rv, q⟩ := hs
    exact fin J rv q
  | next =>
    obtain ⟨σ', H', J, q⟩ := hs
    exact fin (v := V.non) (u := Value.none) J rfl q
  | brk =>
    obtain ⟨_, _, _, q⟩ := hs
    exact False.elim q
  | cont =>
    obtain ⟨_, _, _, q⟩ := hs
    exact False.elim q
section
variable {X : Cx} {k : Nat} {f : Addr} {fd : FuncData} {ps : List Str} {sp : Sp} {x : Str} {p pos : Pos} {e : Expr} {es : List Expr} {t : TA}
/-- f(..), f a def that may run while an exception is handled -/
theorem pe_callU (F : FnOkU X.prog X.w X.K X.mg X.base CX0 k f fd ps sp) (hr : RoomU k X.A) (hg : Gl X x) (hm : X.mg x = some (.ref f)) (hk : PySem.W.keepIn X.K (.ref f) = true) (hb : Binds X.K fd ps []) (ha : PA X (e :: es) t)
    (hdb : (x == ("__debug__" : Str)) = false := by decide) (he : starEach (e :: es) X.env = (false, eval e X.env) :: starEach es X.env := by rfl) (hpl : (backTo pos (starEach es X.env)).any (·.1) = false := by rfl) :
    PE X (.Call (.Name x p) (e :: es) [] pos) (tCall sp [] E0 t) := by
  intro pins s σ H Q I h
  refine wpAny_Call_Name_kw (ld_glob I hg hm ?_ hdb)
  refine PySem.W.callWith_K (h₀ := X.base) I.ok.mod.kin hk (thn (ha pos pins s σ H _ I h) fun us s1 ⟨vs, H1, I1, r, q⟩ => ⟨I1.kIn, ?_⟩) he hpl
  have q : sp (vs ++ []) H1 Q E0 := q
  rw [List.append_nil] at q
  have hl : (us ++ []).length = ps.length := by rw [List.append_nil, ← r.length]; exact F.len _ _ _ _ q
  have hbd := hb s1 us I1.kIn hl
  rw [List.append_nil] at hbd
  refine wpAny_call (codeAny_mono (F.run X.A X.stack s1 H1 ⟨us, []⟩ us vs Q E0 hr I1.env0 hbd r q) fun rr s' hq => ?_)
  cases rr with
  | error e => exact (show False from hq).elim
  | ok fl =>
    cases fl with
    | ret u => exact I1.after hq
    | next => exact False.elim hq
    | brk => exact False.elim hq
    | cont => exact False.elim hq
end
/-! ### a caught exception, tracked -/
/-- the object at a is an exception of the class at C -/
def excAt (a C : Addr) (h : Heap) : Prop := ∃ o vs, h.get? a = some o ∧ o.cls = .ref C ∧ o.data = .fields vs ∧ o.dict = none
theorem excAt.ok {P : Program} {w : World} {H : Hp} {h : Heap} {a C : Addr} (x : excAt a C h) : ObjOk P w H h a (.ext (excAt a C)) :=
  ⟨x, (let ⟨o, _, e, _⟩ := x; ⟨o, e⟩), fun h1 h2 z k => (let ⟨o, vs, e, r⟩ := z; ⟨o, vs, k o e, r⟩)⟩
theorem HOk.tracked {P : Program} {w : World} {H : Hp} {h : Heap} {a : Addr} {o : HO} (x : HOk P w H h) (n : H a = none) (new : ObjOk P w (upd H a o) h a o) : HOk P w (upd H a o) h := fun b u e => by
  by_cases z : b = a
  · subst z
    rw [upd_same] at e
    cases e
    exact new
  · rw [upd_ne z] at e
    exact (x b u e).stay (fun _ _ _ q => q) (fun c q => by rw [upd_ne (ne_of_none q n)]; exact q) fun c xs q => by rw [upd_ne (ne_of_none q n)]; exact q
/-- an untracked object of ours is tracked from here on -/
theorem Inv.track {X : Cx} {pins : List (Addr × Obj)} {σ : St} {H : Hp} {s : Shared} {a : Addr} {o : HO} (I : Inv X pins σ H s) (hx : X.ex = []) (n : H a = none) (na : X.s₀.heap.get? a = none) (hL : a ≠ X.env.locals) (hc : ∀ x c, X.env.cells.lookup x = some c → c ≠ a) (hp : ∀ p ∈ X.pn ++ pins, p.1 ≠ a) (new : ObjOk X.prog X.w (upd H a o) s.heap a o) :
    Inv X pins σ (upd H a o) s :=
  ⟨I.ok, I.os, I.bare, ⟨I.base.keep, I.base.slot, fun b ob e h1 h2 => (by rw [upd_ne (fun z => (by rw [z, na] at e; cases e))]; exact I.base.free b ob e h1 h2), I.base.there, fun b xs e => (have q := I.base.tups b xs e; by rw [upd_ne (ne_of_none q n)]; exact q), fun b ob u e => (have q := I.base.frzs b ob u e; by rw [upd_ne (ne_of_none q n)]; exact q),
    fun b ps e => (let ⟨m, q⟩ := I.base.tbls b ps e; ⟨m, by rw [upd_ne (ne_of_none q n)]; exact q⟩)⟩, I.loc, I.cell, (by rw [upd_ne (Ne.symm hL)]; exact I.free), fun x c e => (by rw [upd_ne (hc x c e)]; exact I.freeC x c e),
    fun p hpm => (let ⟨e, n1, r⟩ := I.pin p hpm; ⟨e, by rw [upd_ne (hp p hpm)]; exact n1, r⟩), I.hok.tracked n new, I.len⟩
end L2

set_option Elab.async false
set_option linter.all false
set_option maxRecDepth 100000
/-! isinstance of a caught exception. -/
namespace L2
open PySem PySem.Spec PyProof.Rows PySem.Calls PySem.W
theorem exc_entry : entryFor table "BaseException.__getattribute__" = some Builtin.«object.__getattribute__» :=
  entryFor_alias (id' := "object.__getattribute__") (by kernel_rfl) (by first | rfl | decide +kernel) (by decide +kernel) (by kernel_rfl)
section
variable {K : Frag} {prog : Program} {w : World} {A : Around} {E : Value → Shared → Prop} {s : Shared} {x C : Addr} {ox : Obj}
theorem exc_find {a g : Value} {name : Str} (hc : (clsIn K C).isSome = true) (ha : findIn K (.ref C) name = some (some a)) (hg : specialIn K a "__get__" = some (some g)) (ht : takesIn K a = some true) : findObj K C none name = some (.bind g a) := by
  obtain ⟨cd, hc⟩ := Option.isSome_iff_exists.mp hc
  unfold findObj
  rw [hc, Option.bind_some, ha, Option.bind_some]
  simp [hg, ht]
theorem exc_ga {tk : Tok} {Q : Fin → Shared → Prop} (X : K.In s.heap) (I : InstAt s.heap x ox C none) (hf : findObj K C none "__class__" = some (.bind (.builtin "getset_descriptor.__get__") (.builtin "object.__class__"))) (hm : mroIn K C (.type "object") = some true)
    (h : Q (.done (.ret (.ref C))) s) : wpAny (model prog w) A (Builtin.«object.__getattribute__» ⟨[.ref x, .str "__class__" tk], []⟩) Q E s := by
  obtain ⟨hh, g, d, t, os⟩ := s
  have L0 := I.type (M := model prog w)
  have L1 := looks_find (M := model prog w) X I hf
  unfold Builtin.«object.__getattribute__»
  repeat lk
  refine wpAny_run (class_get X I hm ?_)
  repeat lk
  exact h
theorem exc_slot : Slot "BaseException" "__getattribute__" "BaseException.__getattribute__" :=
  .of (owner := "BaseException") (n := "__getattribute__") (by rw [typeLookup_type, builtinLookup_eq_fast]; kernel_rfl) (by decide +kernel) (by decide +kernel) (by decide +kernel)
    (by first | exact .inl (by decide +kernel) | exact .inr (by decide +kernel)) (by rw [isSubtype_type]; kernel_rfl)
theorem exc_kind : builtinKind "BaseException.__getattribute__" = some .slot := by decide +kernel
theorem exc_split : splitId "BaseException.__getattribute__" = some ("BaseException", "__getattribute__") := by decide +kernel
theorem exc_sig : ∃ sig, Manifest.signature? "BaseException.__getattribute__" = sig ∧ ∀ a b : Value, (match sig with | none => (pure () : Sem Unit) | some g => Bind.checkArgs "BaseException.__getattribute__" g ⟨[a, b], []⟩) = pure () := ⟨_, rfl, fun a b => by kernel_rfl⟩
theorem exc_check {Q : Unit → Shared → Prop} {b : Value} (L : Looks (model prog w) s.heap (isInstance (.ref x) (.type "BaseException")) true) (h : Q () s) : wpAny (model prog w) A (checkBuiltinCall "BaseException.__getattribute__" ⟨[.ref x, b], []⟩) Q E s := by
  simp only [checkBuiltinCall, exc_kind, exc_split]
  refine wpAny_bind (L.at ?_)
  simp only [Bool.not_true, Bool.false_eq_true, if_false]
  obtain ⟨sig, e, r⟩ := exc_sig
  have r := r (.ref x) b
  rw [e]
  cases sig with
  | none => exact wpAny_pure h
  | some g =>
    show wpAny _ _ (Bind.checkArgs "BaseException.__getattribute__" g ⟨[.ref x, b], []⟩) Q E s
    have r : Bind.checkArgs "BaseException.__getattribute__" g ⟨[.ref x, b], []⟩ = pure () := r
    rw [r]
    exact wpAny_pure h
theorem exc_class {Q : Option Value → Shared → Prop} (X : K.In s.heap) (I : InstAt s.heap x ox C none) (hga : findIn K (.ref C) "__getattribute__" = some (some (.builtin "BaseException.__getattribute__"))) (hgb : findIn K (.ref C) "__getattr__" = some none)
    (hf : findObj K C none "__class__" = some (.bind (.builtin "getset_descriptor.__get__") (.builtin "object.__class__"))) (hm : mroIn K C (.type "object") = some true) (hb : mroIn K C (.type "BaseException") = some true) (h : Q (some (.ref C)) { s with toks := s.toks + 1 }) :
    wpAny (model prog w) A (getAttr? (.ref x) "__class__") Q E s := by
  obtain ⟨hh, g, d, t, os⟩ := s
  have L0 := I.type (M := model prog w)
  have L1 := looks_findIn (M := model prog w) X hga
  have L2 := looks_findIn (M := model prog w) X hgb
  have L3 := looks_mroIn (M := model prog w) X hb
  unfold getAttr? getAttrBy? getAttrBy
  refine wpAny_bind (wpAny_mkText (wpAny_bind (wpAny_attempt (wpAny_holding (wpAny_bind (L0.at (wpAny_bind (L1.at ?_))))))))
  show wpAny _ _ (getAttrByItsOwn _ _ _ _ _ _) _ _ _
  unfold getAttrByItsOwn hookBefore
  refine wpAny_bind ?_
  rw [if_pos (show onTheHeap (.ref C) = true from rfl)]
  refine L2.at ?_
  refine wpAny_bind (wpAny_attempt (wpAny_holding ?_))
  show wpAny _ _ (boundAndCalled (.builtin "BaseException.__getattribute__") (.ref x) (.str "__class__" t)) _ _ _
  unfold boundAndCalled
  refine wpAny_bind (wpAny_of_eq (exc_slot.bind _) ?_)
  refine wpAny_call (codeAny_call_builtin exc_slot.plain exc_entry (exc_check (s := ⟨hh, g, d, t + 1, os⟩) (L0.andThen L3) ?_))
  refine exc_ga (s := ⟨hh, g, d, t + 1, os⟩) X I hf hm ?_
  show wpAny _ _ (handedOut (.ref C)) _ _ _
  repeat lk
  exact h
end
/-- what is known of an own class of exceptions -/
structure ExcC (K : Frag) (C : Addr) : Prop where
  cl : (clsIn K C).isSome = true
  ga : findIn K (.ref C) "__getattribute__" = some (some (.builtin "BaseException.__getattribute__"))
  gb : findIn K (.ref C) "__getattr__" = some none
  fc : findIn K (.ref C) "__class__" = some (some (.builtin "object.__class__"))
  sg : specialIn K (.builtin "object.__class__") "__get__" = some (some (.builtin "getset_descriptor.__get__"))
  tk : takesIn K (.builtin "object.__class__") = some true
  ob : mroIn K C (.type "object") = some true
  be : mroIn K C (.type "BaseException") = some true
theorem excAt.inst {a C : Addr} {h : Heap} (x : excAt a C h) : ∃ ox, InstAt h a ox C none := by
  obtain ⟨o, vs, e, c, d, dd⟩ := x
  refine ⟨o, e, c, ?_, by rw [dd]; trivial⟩
  unfold notCls
  rw [d]
theorem kitx_exc {K : Frag} {a C : Addr} (Z : ExcC K C) : KitX K (.ref a) (.ref C) (excAt a C) where
  ty := fun M h _ p => (let ⟨_, I⟩ := p.inst; I.type)
  it := fun M h X _ => by
    have z := Z.cl
    unfold clsIn at z
    split at z
    · rename_i c' d' cd' sl' ho
      intro A' Q' E' s' k q
      unfold isType loadHead
      exact wpAny_bind (wpAny_loadPart (k _ _ (X _ _ ho)) (wpAny_pure q))
    · cases z
  ne := fun h tp dd its n sl X e => by
    refine Bool.eq_false_iff.mpr fun q => ?_
    have q : C = tp := by
      have := beq_iff_eq.mp q
      injection this
    subst q
    have z := Z.cl
    unfold clsIn at z
    split at z
    · rename_i c' d' cd' sl' ho
      have := X _ _ ho
      rw [e] at this
      cases this
    · cases z
  ca := fun {prog w A E Q s} X p h => by
    obtain ⟨ox, I⟩ := p.inst
    exact exc_class X I Z.ga Z.gb (exc_find Z.cl Z.fc Z.sg Z.tk) Z.ob Z.be h
/-- isinstance(e, D) of a caught exception -/
theorem call_isinstX {X : Cx} : CallR X (.builtin "isinstance") (fun xs H Q => ∃ a C c b, xs = [.ref a, c] ∧ H a = some (.ext (excAt a C)) ∧ ExcC X.K C ∧ ((∃ D, c = .ref D ∧ kitOne X.K (.ref C) (.ref D) = some b) ∨ ∃ n, c = .ty n ∧ kitOne X.K (.ref C) (.type n) = some b) ∧ Q (.bl b) H) := by
  intro pins s σ H xs us Q I r h
  obtain ⟨a, C, c, b, rfl, e, Z, hk, q⟩ := h
  obtain ⟨u, v, rfl, ru, rv⟩ := vals2 r
  cases (show u = Value.ref a from ru)
  obtain ⟨p, _⟩ := (show ObjOk X.prog X.w H s.heap a (.ext (excAt a C)) from I.hok a _ e)
  rcases hk with ⟨D, rfl, hk⟩ | ⟨n, rfl, hk⟩
  · cases (show v = Value.ref D from rv)
    exact kia_one (kitx_exc Z) I.kIn p hk (fun z => nomatch z) fun tk => ⟨.bl b, H, I.tok _, rfl, q⟩
  · cases (show v = Value.type n from rv)
    exact kia_one (kitx_exc Z) I.kIn p hk (fun z => nomatch z) fun tk => ⟨.bl b, H, I.tok _, rfl, q⟩
end L2

set_option Elab.async false
set_option linter.all false
set_option maxRecDepth 100000
/-! except C as e. -/
namespace L2
open PySem PySem.Spec PyProof.Rows PySem.Calls PySem.W
section
variable {K : Frag} {prog : Program} {w : World} {A : Around} {E : Value → Shared → Prop} {s : Shared} {a C D : Addr} {ox : Obj}
/-- what except D asks of D, for an exception of the class C -/
structure CatchC (K : Frag) (C D : Addr) : Prop where
  nt : typeIn K (.ref D) = some (.type "type")
  ty : (clsIn K D).isSome = true
  be : subIn K (.ref D) (.type "BaseException") = some true
  su : subIn K (.ref C) (.ref D) = some true
theorem isType_of (X : K.In s.heap) (h : (clsIn K D).isSome = true) : Looks (model prog w) s.heap (isType (.ref D)) true := by
  unfold clsIn at h
  split at h
  · rename_i c' d' cd' sl' ho
    intro A' Q' E' s' k q
    unfold isType loadHead
    exact wpAny_bind (wpAny_loadPart (k _ _ (X _ _ ho)) (wpAny_pure q))
  · cases h
theorem exc_matches {Q : Bool → Shared → Prop} (X : K.In s.heap) (I : InstAt s.heap a ox C none) (Z : CatchC K C D) (h : Q true s) : wpAny (model prog w) A (excMatches (.ref a) (.ref D)) Q E s := by
  obtain ⟨hh, g, d, t, os⟩ := s
  have L0 := I.type (M := model prog w)
  have L1 := looks_typeIn (M := model prog w) X Z.nt
  have L2 := isType_of (prog := prog) (w := w) X Z.ty
  have L3 := looks_subIn (M := model prog w) X Z.be
  have L4 := looks_subIn (M := model prog w) X Z.su
  have f := tc_notTuple
  unfold excMatches isExcClass
  repeat (first | with_reducible refine L1.at ?_ | with_reducible refine L0.at ?_ | with_reducible refine L2.at ?_ | with_reducible refine L3.at ?_ | with_reducible refine L4.at ?_ | wp_step)
  exact h
end
theorem flight_st {M : Model} {A : Around} {E : Value → Shared → Prop} {s : Shared} {a : Addr} {C tb : Value} {Q : Unit → Shared → Prop} (fl : Fly s.heap a C tb)
    (h : ∀ h', Fly h' a C tb → (∀ b o, s.heap.get? b = some o → tb ≠ .ref b → h'.get? b = some o) → (∀ b o, s.heap.get? b = some o → ∃ o', h'.get? b = some o') → Q () { s with heap := h' }) : wpAny M A (setFlight (.ref a) none) Q E s := by
  obtain ⟨⟨oe, vs, he, hc, hd, h1, hdd⟩, tr⟩ := id fl
  unfold setFlight
  refine wpAny_bind (wpAny_field he hd h1 ?_)
  rcases tr with rfl | ⟨T, oT, ts, rfl, nT, hT, hdT, h3⟩
  · rw [if_neg (by decide)]
    exact wpAny_pure (h s.heap fl (fun b o e _ => e) fun b o e => ⟨o, e⟩)
  · rw [if_pos (show (Value.ref T != Value.none) = true by simp)]
    have z3 := (Array.getElem?_eq_some_iff.mp h3).1
    refine wpAny_setField hT hdT z3 ?_
    have g3 := Heap.get?_update_self (Obj.mapFields (·.setIfInBounds 3 ((none : Option Addr).elim Value.none fun f => rawInt f))) hT (Obj.isFreed_of_fields (Obj.data_mapFields hdT _))
    have o3 : ∀ b, b ≠ T → (s.heap.update T (Obj.mapFields (·.setIfInBounds 3 ((none : Option Addr).elim Value.none fun f => rawInt f)))).get? b = s.heap.get? b := fun b hb => Heap.get?_update_other _ _ (Ne.symm hb)
    refine h _ ⟨⟨oe, vs, (o3 a (Ne.symm nT)).trans he, hc, hd, h1, hdd⟩, .inr ⟨T, _, _, rfl, nT, g3, Obj.data_mapFields hdT _, by simp [z3]⟩⟩ (fun b o e hb => (o3 b fun z => hb (by rw [z])).trans e) fun b o e => ?_
    by_cases z : b = T
    · rw [z]
      exact ⟨_, g3⟩
    · exact ⟨o, (o3 b z).trans e⟩
/-! ### contexts within a try -/
abbrev Cx.tr (X : Cx) (pins : List (Addr × Obj)) (xe : Value → Shared → Prop) : Cx := { X with pn := X.pn ++ pins, xe := xe }
theorem Inv.tr {X : Cx} {pins : List (Addr × Obj)} {σ : St} {H : Hp} {s : Shared} (I : Inv X pins σ H s) (xe : Value → Shared → Prop) : Inv (X.tr pins xe) [] σ H s :=
  ⟨⟨I.ok.mod, I.ok.kind, I.ok.glob, I.ok.blt, I.ok.above, I.ok.inj, I.ok.has, I.ok.cab, I.ok.hd, I.ok.frames, I.ok.stk, I.ok.exf, I.ok.bs, I.ok.bsz, I.ok.noex, I.ok.exfs, I.ok.funs, I.ok.frf⟩, I.os, I.bare, I.base, I.loc, I.cell, I.free, I.freeC, fun p hp => I.pin p (by simpa using hp), I.hok, I.len⟩
theorem Inv.untr {X : Cx} {pins pins' : List (Addr × Obj)} {σ : St} {H : Hp} {s : Shared} {xe : Value → Shared → Prop} (I : Inv (X.tr pins xe) pins' σ H s) : Inv X pins σ H s :=
  ⟨⟨I.ok.mod, I.ok.kind, I.ok.glob, I.ok.blt, I.ok.above, I.ok.inj, I.ok.has, I.ok.cab, I.ok.hd, I.ok.frames, I.ok.stk, I.ok.exf, I.ok.bs, I.ok.bsz, I.ok.noex, I.ok.exfs, I.ok.funs, I.ok.frf⟩, I.os, I.bare, I.base, I.loc, I.cell, I.free, I.freeC, fun p hp => I.pin p (List.mem_append_left _ hp), I.hok, I.len⟩
/-- the frame's own names are turned, one of them dropped -/
theorem Inv.drop {X : Cx} {pins : List (Addr × Obj)} {σ : St} {H : Hp} {s : Shared} {i : Nat} {x : Str} {h' : Heap} {u : Option Value} {m : Str → Option Value} (I : Inv X pins σ H s) (hN : X.N.Nodup) (hi : X.N[i]? = some x)
    (hl : ∀ (i : Nat) (x : Str) (v : V), X.N[i]? = some x → σ[i]? = some (some v) → Vis X.env.scope x → ∃ u, RelV v u ∧ Look X.env s.heap m x u) (hn : h'.Ns X.env.locals fun y => if y = x then u else m y) (sb : Heap.SameBut X.env.locals s.heap h') : Inv X pins (σ.set i none) H { s with heap := h' } := by
  have nL : ∀ b o, X.s₀.heap.get? b = some o → b ≠ X.env.locals := fun b o e => Nat.ne_of_lt (Nat.lt_of_lt_of_le (Heap.lt_size e) I.ok.above)
  have cK : ∀ y c, X.env.cells.lookup y = some c → ∀ v, s.heap.IsCell c v → h'.IsCell c v := fun y c e v ⟨o, ho, hd⟩ => ⟨o, (sb.2 c (I.cne y c e)).trans ho, hd⟩
  refine ⟨I.ok, I.os, I.bare, ⟨fun b o e n hb hx => (sb.2 b (nL b o e)).trans (I.base.keep b o e n hb hx), fun b o e n hb hx => ?_, I.base.free, fun b o e hx => ?_, I.base.tups, I.base.frzs, I.base.tbls⟩, ⟨_, hn, fun j y v e1 e2 e3 => ?_⟩, fun y c e => ?_, I.free, I.freeC, fun p hp => ?_, fun c o e => ?_, by rw [List.length_set]; exact I.len⟩
  · obtain ⟨sl, e1⟩ := I.base.slot b o e n hb hx
    exact ⟨sl, (sb.2 b (nL b o e)).trans e1⟩
  · obtain ⟨o', e1⟩ := I.base.there b o e hx
    exact ⟨o', (sb.2 b (nL b o e)).trans e1⟩
  · by_cases z : i = j
    · subst z
      by_cases hlt : i < σ.length
      · rw [List.getElem?_set_self hlt] at e2
        cases e2
      · rw [List.getElem?_eq_none (by rw [List.length_set]; omega)] at e2
        cases e2
    · rw [List.getElem?_set_ne z] at e2
      obtain ⟨u', r, l⟩ := hl j y v e1 e2 e3
      refine ⟨u', r, ?_⟩
      rcases l with ⟨k, l⟩ | ⟨k, c, e, w'⟩
      · refine .inl ⟨k, ?_⟩
        show (if y = x then u else m y) = some u'
        rw [if_neg fun q => z ?_]
        · exact l
        · rw [q] at e1
          obtain ⟨h1, g1⟩ := List.getElem?_eq_some_iff.mp hi
          obtain ⟨h2, g2⟩ := List.getElem?_eq_some_iff.mp e1
          exact (List.getElem_inj hN).mp (g1.trans g2.symm)
      · exact .inr ⟨k, c, e, cK y c e _ w'⟩
  · obtain ⟨v, w'⟩ := I.cell y c e
    exact ⟨v, cK y c e v w'⟩
  · obtain ⟨e, n, ne, r⟩ := I.pin p hp
    exact ⟨(sb.2 p.1 ne).trans e, n, ne, r⟩
  · refine (I.hok c o e).stay (fun d v hd z => (sb.2 d fun q => ?_).trans z) (fun _ z => z) fun _ _ z => z
    rcases hd with y | y
    · rw [y] at q
      rw [q, I.free] at e
      cases e
    · rw [q, I.free] at y
      cases y
/-- behind the suite the name is dropped -/
theorem unbind_ok {X : Cx} {pins : List (Addr × Obj)} {σ : St} {H : Hp} {s : Shared} {i : Nat} {x : Str} {pos : Pos} {A : Around} {E : Value → Shared → Prop} {Q : Unit → Shared → Prop} (I : Inv X pins σ H s) (hN : X.N.Nodup) (hi : X.N[i]? = some x) (hx : X.env.scope.names.lookup x = some .local)
    (h : ∀ s', Inv X pins (σ.set i none) H s' → Q () s') : wpAny (model X.prog X.w) A (do bindName X.env x .none; unbindBehindTheSuite X.env x pos) Q E s := by
  have hil : i < X.N.length := (List.getElem?_eq_some_iff.mp hi).1
  refine wpAny_bind (wpAny_bindName (store_ok2 (v := .non) I hN hi (.inl hx) rfl (fun s1 I1 _ => ?_) (.inr hx)))
  obtain ⟨m, hn, hl⟩ := id I1.loc
  obtain ⟨u, _, lk⟩ := hl i x .non hi (by rw [List.getElem?_set_self (by rw [I.len]; exact hil)]) (.inl hx)
  have hv : m x = some u := by
    rcases lk with ⟨_, z⟩ | ⟨k, _⟩
    · exact z
    · have hx' : X.env.kindOf x = some .local := hx
      rw [hx'] at k
      rcases k with k | k <;> cases k
  unfold unbindBehindTheSuite
  refine wpAny_onRaise (wpAny_unbindName_local hx hn hv (by rw [I.ok.kind]; rfl) fun h' u' hn' sb => ?_)
  have J := I1.drop hN hi hl hn' sb
  rw [List.set_set] at J
  exact h _ J
end L2

set_option Elab.async false
set_option linter.all false
set_option maxRecDepth 100000
/-! try .. except C as e. -/
namespace L2
open PySem PySem.Spec PyProof.Rows PySem.Calls PySem.W
theorem Inv.back {X : Cx} {A : Around} {xe : Value → Shared → Prop} {pins : List (Addr × Obj)} {σ : St} {H : Hp} {s : Shared} (I : Inv ((X.un A).wish xe) pins σ H s) (ok : X.Ok) : Inv X pins σ H s :=
  ⟨ok, I.os, I.bare, I.base, I.loc, I.cell, I.free, I.freeC, I.pin, I.hok, I.len⟩
def endsX (D : Ends) (i : Nat) : Ends := { nx := fun σ H => D.nx (σ.set i none) H, rt := D.rt, ct := fun σ H => D.ct (σ.set i none) H, bk := fun σ H => D.bk (σ.set i none) H }
def tTry (n i : Nat) (ok : Addr → Prop) (tb : (Addr → Addr → Hp → Prop) → TS) (th : TS) : TS := fun D σ H =>
  tb (fun a C H' => ok C ∧ ∀ σ' : St, σ'.length = n → H' a = none → th (endsX D i) (σ'.set i (some (.ref a))) (upd H' a (.ext (excAt a C)))) D σ H
theorem ps_try {X : Cx} {y n : Str} {Dc : Addr} {i : Nat} {np hpos pos : Pos} {body suite : List Stmt} {b₀ : Stmt} {tb : (Addr → Addr → Hp → Prop) → TS} {th : TS} (hm : X.mg y = some (.ref Dc)) (hg : Gl X y) (hN : X.N.Nodup) (hi : X.N[i]? = some n) (hl : X.env.scope.names.lookup n = some .local) (hx : X.ex = []) (hs : X.stack = X.env :: X.outer)
    (hbody : ∀ pins xe EX, Wish (X.tr pins xe) EX → PSs (X.tr pins xe) body (tb EX)) (hsuite : ∀ v : Option Value, PSs ((X.un (X.A.mark v)).nox) (b₀ :: suite) th) (hdb : (y == ("__debug__" : Str)) = false := by decide) :
    PS X (.Try body [.ExceptHandler (some (.Name y np)) (some n) (b₀ :: suite) hpos] [] [] pos) (tTry X.N.length i (fun C => CatchC X.K C Dc) tb th) := by
  intro pins s σ H D I h
  refine wpAny_Try_except ?_
  have W : Wish (X.tr pins fun e s₁ => wpAny (model X.prog X.w) X.A (noteFrame e X.env) (fun _ s₂ => wpAny (model X.prog X.w) X.A (setFlight e none) (fun _ s₃ => wpAny (model X.prog X.w) X.A (handleBy e X.env [.ExceptHandler (some (.Name y np)) (some n) (b₀ :: suite) hpos]) (SP X pins D) X.xe s₃) X.xe s₂) X.xe s₁)
      (fun a C H' => CatchC X.K C Dc ∧ ∀ σ' : St, σ'.length = X.N.length → H' a = none → th (endsX D i) (σ'.set i (some (.ref a))) (upd H' a (.ext (excAt a C)))) := by
    intro pins' σ1 H1 s1 a C tb' I1 fl na fa ft hp q
    obtain ⟨Z, q⟩ := q
    have J := I1.untr
    have hfr : X.A.frames = some (X.env :: X.outer) := by rw [← hs]; exact J.ok.frames
    have hst : s1.heap.FunFrames X.base (X.env :: X.outer) := by rw [← hs]; exact J.stack
    have hff : X.env.frame = some X.env.locals := by
      rcases J.ok.stk with z | z
      · exact absurd (congrArg List.length (hs.symm.trans z)) (by simp)
      · exact z.2
    have hp2 : ∀ p ∈ X.pn ++ pins, p.1 ≠ a ∧ tb' ≠ .ref p.1 := fun p hpm => hp p (List.mem_append_left _ hpm)
    show wpAny (model X.prog X.w) X.A (noteFrame (.ref a) X.env) _ X.xe s1
    refine note_st hfr hst hff fl fun h' T nT fl' k1 k2 k3 => ?_
    have J2 : Inv X pins σ1 H1 { s1 with heap := h' } := J.left (t' := s1.toks) hx fl na fa ft hp2 (by rw [hs]; exact k1) k2 k3
    have tf : ∀ T', Value.ref T = .ref T' → X.s₀.heap.get? T' = none ∧ H1 T' = none := fun T' z => by
      cases z
      exact ⟨J.was hx nT, J.hok.no nT⟩
    have hp3 : ∀ p ∈ X.pn ++ pins, p.1 ≠ a ∧ Value.ref T ≠ .ref p.1 := fun p hpm => ⟨(hp2 p hpm).1, fun z => by
      cases z
      obtain ⟨e, _⟩ := J.pin p hpm
      rw [nT] at e
      cases e⟩
    obtain ⟨oe, vs, he, hc, hd, _, hdd⟩ := fl'.obj
    have inst : excAt a C h' := ⟨oe, vs, he, hc, hd, hdd⟩
    refine wpAny_handleBy_cons (codeAny_handlers_test ?_) (by intro q; cases q)
    have J4 := J2.un' (X.A.mark (some (.ref a))) rfl
    refine ld_glob (X := X.un (X.A.mark (some (.ref a)))) J4 hg hm ?_ hdb
    obtain ⟨ox, ix⟩ := inst.inst
    refine exc_matches (s := { s1 with heap := h' }) J2.kIn ix Z ?_
    show codeAny _ _ (.handlers (.ref a) [.ExceptHandler none (some n) (b₀ :: suite) hpos] X.env) _ _
    refine codeAny_handlers_suite_as ?_
    refine flight_st (s := { s1 with heap := h' }) fl' fun h2 fl2 j1 j2 => ?_
    have J5 : Inv X pins σ1 H1 { s1 with heap := h2 } := J2.left (t' := s1.toks) hx fl' na fa tf hp3 (fun b o e _ hb _ => j1 b o e hb) (fun b o e _ hb => ⟨o.slots, j1 b o e hb⟩) j2
    obtain ⟨oe2, vs2, he2, hc2, hd2, _, hdd2⟩ := fl2.obj
    have inst2 : excAt a C h2 := ⟨oe2, vs2, he2, hc2, hd2, hdd2⟩
    have hLa : a ≠ X.env.locals := by
      obtain ⟨m, ⟨o, es, ep, ho, hdt, _⟩, _⟩ := J5.loc
      exact Ne.symm (fl2.ne ho fun vs q => by rw [hdt] at q; cases q).1
    have hca : ∀ x c, X.env.cells.lookup x = some c → c ≠ a := fun x c e => by
      obtain ⟨v, o, ho, hdt⟩ := J5.cell x c e
      exact (fl2.ne ho fun vs q => by rw [hdt] at q; cases q).1
    have J6 := J5.track (o := .ext (excAt a C)) hx fa na hLa hca (fun p hpm => (hp2 p hpm).1) (excAt.ok inst2)
    refine store_ok2 (v := .ref a) J6 hN hi (.inl hl) rfl (fun s6 I6 _ => ?_) (.inr hl)
    have hw := q σ1 J.len fa
    refine wpAny_mono (hsuite (some (.ref a)) pins s6 _ _ (endsX D i) ((I6.un' (X.A.mark (some (.ref a))) rfl).wish _) hw) (fun f s7 sp => ?_) fun e s' z => z.elim
    show wpAny (model X.prog X.w) X.A (do bindName X.env n .none; unbindBehindTheSuite X.env n hpos) (fun _ s₃ => SP X pins D f s₃) X.xe s7
    cases f with
    | ret u =>
      obtain ⟨v, σ', H', K', rv, qq⟩ := sp
      exact unbind_ok (K'.back J.ok) hN hi hl fun s' K2 => ⟨v, _, H', K2, rv, qq⟩
    | next =>
      obtain ⟨σ', H', K', qq⟩ := sp
      exact unbind_ok (K'.back J.ok) hN hi hl fun s' K2 => ⟨_, H', K2, qq⟩
    | brk =>
      obtain ⟨σ', H', K', qq⟩ := sp
      exact unbind_ok (K'.back J.ok) hN hi hl fun s' K2 => ⟨_, H', K2, qq⟩
    | cont =>
      obtain ⟨σ', H', K', qq⟩ := sp
      exact unbind_ok (K'.back J.ok) hN hi hl fun s' K2 => ⟨_, H', K2, qq⟩
  have hb := hbody pins _ _ W [] s σ H D (I.tr _) h
  refine wpAny_mono hb (fun f s1 sp => ?_) fun e s1 z => z
  cases f with
  | ret u =>
    obtain ⟨v, σ', H', K', rv, qq⟩ := sp
    exact ⟨v, σ', H', K'.untr, rv, qq⟩
  | next =>
    obtain ⟨σ', H', K', qq⟩ := sp
    exact wpAny_execs_nil ⟨σ', H', K'.untr, qq⟩
  | brk =>
    obtain ⟨σ', H', K', qq⟩ := sp
    exact ⟨σ', H', K'.untr, qq⟩
  | cont =>
    obtain ⟨σ', H', K', qq⟩ := sp
    exact ⟨σ', H', K'.untr, qq⟩
end L2

set_option Elab.async false
set_option linter.all false
set_option maxRecDepth 100000
/-! l.count(True), l.index(True) of a list of truths. -/
namespace L2
open PySem PySem.Spec PyProof.Rows PySem.Calls
theorem eqg_bool (a b : Bool) : MeetsSeq.EqGives (.bool a) (.bool b) (a == b) := fun prog w A E s Q h => PySem.SeqAt.EqAt.bool_bool (A := A) (s := s) a b prog w E Q h
def isB (k : Bool) : Value → Bool
  | .bool n => n == k
  | _ => false
theorem count_bools (bs : List Bool) (k : Bool) : ((bs.map Value.bool).toArray.toList.countP (isB k)) = bs.count k := by
  rw [List.toList_toArray, List.countP_map]
  rfl
def rCountB : V → List V → Hp → VK → Prop := fun x vs H Q => ∃ (l : Addr) (bs : List Bool) (k : Bool), x = .ref l ∧ vs = [.bl k] ∧ H l = some (.lst (bs.map V.bl)) ∧ Q (.int (bs.count k : Nat)) H
section
variable {X : Cx}
theorem mt_countB : MtM X "list.count" rCountB := by
  intro pins s σ H x vs v us Q I rx rv h
  obtain ⟨l, bs, k, rfl, rfl, hH, q⟩ := h
  cases rx
  obtain ⟨u, rfl, ru⟩ := vals1 rv
  cases (show u = Value.bool k from ru)
  obtain ⟨z, its, n, r, hl, e⟩ := I.lstM hH
  have ei : its = bs.map Value.bool := vals_bools r
  subst ei
  refine call_meets F.slot_list_count ⟨_, e, rfl⟩ F.entry_list_count (F.args_list_count_2 _ _) (MeetsSeq.list_count l (bs.map Value.bool).toArray n (.bool k) (isB k) (fun y hy => ?_)) ⟨e, ?_⟩
  · obtain ⟨b, _, rfl⟩ := List.mem_map.mp (show y ∈ bs.map Value.bool by simpa using hy)
    exact eqg_bool b k
  · refine ⟨.int (bs.count k : Nat), H, I.tok _, ⟨s.toks, ?_⟩, q⟩
    rw [count_bools]
def rIndexB : V → List V → Hp → VK → Prop := fun x vs H Q => ∃ (l : Addr) (bs : List Bool) (k : Bool) (j : Nat), x = .ref l ∧ vs = [.bl k] ∧ H l = some (.lst (bs.map V.bl)) ∧ bs[j]? = some k ∧ (∀ i, i < j → bs[i]? ≠ some k) ∧ Q (.int j) H
theorem mt_indexB : MtM X "list.index" rIndexB := by
  intro pins s σ H x vs v us Q I rx rv h
  obtain ⟨l, bs, k, j, rfl, rfl, hH, hj, hno, q⟩ := h
  cases rx
  obtain ⟨u, rfl, ru⟩ := vals1 rv
  cases (show u = Value.bool k from ru)
  obtain ⟨z, its, n, r, hl, e⟩ := I.lstM hH
  have ei : its = bs.map Value.bool := vals_bools r
  subst ei
  rw [List.length_map] at z
  rw [sizeLine_eq] at z
  have hjl := (List.getElem?_eq_some_iff.mp hj).1
  have gt : ∀ m (hm : m < (bs.map Value.bool).toArray.size), (bs.map Value.bool).toArray[m] = Value.bool (bs[m]'(by simpa using hm)) := fun m hm => by simp
  refine call_meets F.slot_list_index ⟨_, e, rfl⟩ F.entry_list_index (F.args_list_index_2 _ _) (MeetsSeq.list_index l (bs.map Value.bool).toArray n (.bool k) (isB k) (fun y hy => ?_) j (by simpa using hjl) (by omega) ?_ fun m hm hlt => ?_) ⟨e, ⟨.int j, H, I.tok _, ⟨_, rfl⟩, q⟩⟩
  · obtain ⟨b, _, rfl⟩ := List.mem_map.mp (show y ∈ bs.map Value.bool by simpa using hy)
    exact eqg_bool b k
  · rw [gt, (List.getElem?_eq_some_iff.mp hj).2]
    exact beq_self_eq_true k
  · rw [gt]
    refine beq_false_of_ne fun c => hno m hlt ?_
    rw [List.getElem?_eq_getElem (by simpa using hm), c]
end
end L2

set_option Elab.async false
set_option linter.all false
set_option maxRecDepth 100000
/-! objects held fast through a call (a lambda's cells), and let go again. -/
namespace L2
open PySem PySem.Spec PyProof.Rows PySem.Calls
def er (H : Hp) (cs : List (Addr × Obj)) : Hp := fun b => if (cs.lookup b).isSome = true then none else H b
def fz (H : Hp) (cs : List (Addr × Obj)) : Hp := fun b => match cs.lookup b with
  | some o => some (.frz o (.ext fun _ => True))
  | none => H b
section
variable {P : Program} {w : World} {H H' : Hp} {h h' : Heap} {cs : List (Addr × Obj)} {fs : List Addr}
theorem fz_at {b : Addr} {o : Obj} (e : cs.lookup b = some o) : fz H cs b = some (.frz o (.ext fun _ => True)) := by unfold fz; rw [e]
theorem fz_ne {b : Addr} (e : cs.lookup b = none) : fz H cs b = H b := by unfold fz; rw [e]
theorem er_at {b : Addr} {o : Obj} (e : cs.lookup b = some o) : er H cs b = none := by unfold er; rw [e]; rfl
theorem er_ne {b : Addr} (e : cs.lookup b = none) : er H cs b = H b := by unfold er; rw [e]; rfl
/-- what stands there, untracked -/
def Loose (H : Hp) (h : Heap) (fs : List Addr) (cs : List (Addr × Obj)) : Prop := ∀ b o, cs.lookup b = some o → h.get? b = some o ∧ H b = none ∧ b ∉ fs
theorem Loose.no {b : Addr} {u : HO} (L : Loose H h fs cs) (e : H b = some u) : cs.lookup b = none := by
  cases q : cs.lookup b with
  | none => rfl
  | some o =>
    rw [(L b o q).2.1] at e
    cases e
theorem HOk.fz (x : HOk P w H h) (L : Loose H h fs cs) : HOk P w (L2.fz H cs) h := fun b u e => by
  cases q : cs.lookup b with
  | some o =>
    rw [fz_at q] at e
    cases e
    have g := (L b o q).1
    exact ⟨g, trivial, ⟨o, g⟩, fun _ _ _ _ => trivial⟩
  | none =>
    rw [fz_ne q] at e
    exact (x b u e).stay (fun _ _ _ z => z) (fun c z => by rw [fz_ne (L.no z)]; exact z) fun c xs z => by rw [fz_ne (L.no z)]; exact z
theorem HOk.er (x : HOk P w H' h') (fr : ∀ b o, cs.lookup b = some o → H' b = some (.frz o (.ext fun _ => True))) : HOk P w (L2.er H' cs) h' := fun b u e => by
  cases q : cs.lookup b with
  | some o =>
    rw [er_at q] at e
    cases e
  | none =>
    rw [er_ne q] at e
    have no : ∀ c u, (∀ o, u ≠ HO.frz o (.ext fun _ => True)) → H' c = some u → cs.lookup c = none := fun c u hu z => by
      cases q : cs.lookup c with
      | none => rfl
      | some o =>
        rw [fr c o q] at z
        cases z
        exact absurd rfl (hu o)
    exact (x b u e).stay (fun _ _ _ z => z) (fun c z => by rw [er_ne (no c _ (fun o y => by cases y) z)]; exact z) fun c xs z => by rw [er_ne (no c _ (fun o y => by cases y) z)]; exact z
/-- held through a call -/
theorem Un.held (u : Un fs [] (fz H cs) H' h h') (ok : HOk P w H' h') (L : Loose H h fs cs) : Un fs [] H (er H' cs) h h' ∧ HOk P w (er H' cs) h' ∧ ∀ b o, cs.lookup b = some o → h'.get? b = some o := by
  have fr : ∀ b o, cs.lookup b = some o → H' b = some (.frz o (.ext fun _ => True)) := fun b o q => u.frzs b o _ (fz_at q)
  have kp : ∀ b o, cs.lookup b = some o → h'.get? b = some o := fun b o q => (ok b _ (fr b o q)).1
  have no : ∀ c v, (∀ o, v ≠ HO.frz o (.ext fun _ => True)) → H' c = some v → cs.lookup c = none := fun c v hv z => by
    cases q : cs.lookup c with
    | none => rfl
    | some o =>
      rw [fr c o q] at z
      cases z
      exact absurd rfl (hv o)
  refine ⟨⟨fun b o e n hb hx => ?_, fun b o e n hb hx => ?_, fun b o e n hx => ?_, u.there, fun b xs e => ?_, fun b o v e => ?_, fun b ps e => ?_⟩, ok.er fr, kp⟩
  · cases q : cs.lookup b with
    | some o' =>
      have := (L b o' q).1
      rw [e] at this
      cases this
      exact kp b o q
    | none => exact u.keep b o e (by rw [fz_ne q]; exact n) hb hx
  · cases q : cs.lookup b with
    | some o' => exact absurd hb (L b o' q).2.2
    | none => exact u.slot b o e (by rw [fz_ne q]; exact n) hb hx
  · cases q : cs.lookup b with
    | some o' => exact er_at q
    | none =>
      rw [er_ne q]
      exact u.free b o e (by rw [fz_ne q]; exact n) hx
  · have z := u.tups b xs (by rw [fz_ne (L.no e)]; exact e)
    rw [er_ne (no b _ (fun o y => by cases y) z)]
    exact z
  · have z := u.frzs b o v (by rw [fz_ne (L.no e)]; exact e)
    rw [er_ne (L.no e)]
    exact z
  · obtain ⟨m, z⟩ := u.tbls b ps (by rw [fz_ne (L.no e)]; exact e)
    exact ⟨m, by rw [er_ne (L.no e)]; exact z⟩
/-- let go through a call -/
theorem Un.loose {H1 : Hp} (u : Un fs [] (er H cs) H1 h h') (ok : HOk P w H1 h') (ok0 : HOk P w H h) (fr : ∀ b o, cs.lookup b = some o → H b = some (.frz o (.ext fun _ => True)) ∧ b ∉ fs) : Un fs [] H (fz H1 cs) h h' ∧ HOk P w (fz H1 cs) h' := by
  have at0 : ∀ b o, cs.lookup b = some o → h.get? b = some o := fun b o q => (ok0 b _ (fr b o q).1).1
  have kp : ∀ b o, cs.lookup b = some o → h'.get? b = some o := fun b o q => u.keep b o (at0 b o q) (er_at q) (fr b o q).2 (by simp)
  have nn : ∀ b o, cs.lookup b = some o → H1 b = none := fun b o q => u.free b o (at0 b o q) (er_at q) (by simp)
  have no : ∀ c v, (∀ o, v ≠ HO.frz o (.ext fun _ => True)) → H c = some v → cs.lookup c = none := fun c v hv z => by
    cases q : cs.lookup c with
    | none => rfl
    | some o =>
      rw [(fr c o q).1] at z
      cases z
      exact absurd rfl (hv o)
  refine ⟨⟨fun b o e n hb hx => ?_, fun b o e n hb hx => ?_, fun b o e n hx => ?_, u.there, fun b xs e => ?_, fun b o v e => ?_, fun b ps e => ?_⟩, ok.fz (fs := fs) fun b o q => ⟨kp b o q, nn b o q, (fr b o q).2⟩⟩
  · cases q : cs.lookup b with
    | some o' =>
      rw [(fr b o' q).1] at n
      cases n
    | none => exact u.keep b o e (by rw [er_ne q]; exact n) hb hx
  · cases q : cs.lookup b with
    | some o' => exact absurd hb (fr b o' q).2
    | none => exact u.slot b o e (by rw [er_ne q]; exact n) hb hx
  · cases q : cs.lookup b with
    | some o' =>
      rw [(fr b o' q).1] at n
      cases n
    | none =>
      rw [fz_ne q]
      exact u.free b o e (by rw [er_ne q]; exact n) hx
  · have q := no b _ (fun o y => by cases y) e
    rw [fz_ne q]
    exact u.tups b xs (by rw [er_ne q]; exact e)
  · cases q : cs.lookup b with
    | some o' =>
      have z := (fr b o' q).1
      rw [e] at z
      cases z
      exact fz_at q
    | none =>
      rw [fz_ne q]
      exact u.frzs b o v (by rw [er_ne q]; exact e)
  · have q := no b _ (fun o y => by cases y) e
    obtain ⟨m, z⟩ := u.tbls b ps (by rw [er_ne q]; exact e)
    exact ⟨m, by rw [fz_ne q]; exact z⟩
end
end L2

set_option Elab.async false
set_option linter.all false
set_option maxRecDepth 100000
/-! a lambda's object is called. -/
namespace L2
open PySem PySem.Spec PyProof.Rows PySem.Calls PySem.W
/-- the frame of a lambda -/
def envL (fd : FuncData) (fl L : Addr) : Env := newEnv fd.scope L fd.globals fd.closure (fd.qualname ++ ".<locals>.") (some fl) fd.code none fd.builtins
/-- its context: all of its names are free -/
def cxL (P : Program) (w : World) (K : Frag) (mg : Str → Option Value) (base : Heap) (N : List Str) (fd : FuncData) (fl : Addr) (A : Around) (outer : List Env) (s : Shared) (H : Hp) (E : XK) : Cx where
  prog := P
  w := w
  K := K
  mg := mg
  base := base
  A := A.deeper (envL fd fl s.heap.objs.size)
  N := N
  s₀ := s
  H₀ := H
  env := envL fd fl s.heap.objs.size
  outer := outer
  stack := envL fd fl s.heap.objs.size :: outer
  ex := []
  calm := true
  fn := fun _ => false
  pn := []
  xe := fun e s' => wpAny (model P w) (A.deeper (envL fd fl s.heap.objs.size)) (leaving (envL fd fl s.heap.objs.size) e) (fun _ s'' => CX1 P w outer H s E e s'') (fun e' s'' => CX1 P w outer H s E e' s'') s'
/-- what is known of a lambda's object: its names are free, its cells hold us -/
structure LamAt (fd : FuncData) (body : Expr) (N : List Str) : Prop where
  bd : fd.body = .expr body
  gl : fd.globals = mainGlobals
  bl : fd.builtins = builtinsNs
  kd : fd.scope.kind = .function
  co : fd.scope.isCoroutine = false
  ge : fd.scope.isGenerator = false
  fr : ∀ p ∈ fd.scope.names, p.2 ≠ .cell
  fl : ∀ x, fd.scope.names.lookup x = some .free → ∃ c, fd.closure.lookup x = some c
  nd : ∀ x y c, fd.closure.lookup x = some c → fd.closure.lookup y = some c → x = y
  ba : bindArgs fd ⟨[], []⟩ = pure []
  nm : ∀ x ∈ N, fd.scope.names.lookup x = some .free
theorem inv_lam {P : Program} {w : World} {K : Frag} {mg : Str → Option Value} {base : Heap} {N : List Str} {fd : FuncData} {fl : Addr} {A : Around} {outer : List Env} {s : Shared} {H : Hp} {E : XK} {body : Expr} {vs : List V} {h1 : Heap} {tk : Nat}
    (Z : LamAt fd body N) (hd : A.handled = none) (e0 : Env0 P w K mg base A outer s H) (hn : h1.Ns s.heap.objs.size fun x => ([] : List (Str × Value)).reverse.lookup x) (hk : ∀ b o, s.heap.get? b = some o → h1.get? b = some o)
    (cell : ∀ x c, fd.closure.lookup x = some c → H c = none ∧ ∃ v, s.heap.IsCell c v) (val : ∀ (i : Nat) (x : Str) (v : V), N[i]? = some x → vs[i]? = some v → ∃ c u, fd.closure.lookup x = some c ∧ RelV v u ∧ s.heap.IsCell c (some u)) (hl : vs.length = N.length) :
    Inv (cxL P w K mg base N fd fl A outer s H E) [] (vs.map some) H { s with heap := h1, toks := tk } := by
  have ck : ∀ c v, s.heap.IsCell c v → h1.IsCell c v := fun c v ⟨o, ho, z⟩ => ⟨o, hk c o ho, z⟩
  refine ⟨⟨e0.mod, Z.kd, Z.gl, Z.bl, Nat.le_refl _, Z.nd, fun x hx => ?_, fun x c z => (by cases z), fun _ => hd, Around.frames_deeper e0.frames, .inr ⟨rfl, rfl⟩, fun b z => absurd (show b ∈ ([] : List Addr) from z) (by simp), e0.bs, e0.bsz, fun b _ _ z => absurd (show b ∈ ([] : List Addr) from z) (by simp), fun b z => absurd (show b ∈ ([] : List Addr) from z) (by simp), e0.funs, e0.frf⟩,
    rfl, e0.bare, Un.kept hk, ⟨_, hn, fun i x v e1 e2 e3 => ?_⟩, fun x c e => ?_, e0.hok.fresh (Nat.le_refl _), fun x c e => (cell x c e).1, fun p hp => absurd (show p ∈ ([] : List (Addr × Obj)) from hp) (by simp), e0.hok.kept hk, by rw [List.length_map]; exact hl⟩
  · rcases hx with hx | hx
    · exact absurd rfl (Z.fr _ (PySem.mem_of_lookup (show fd.scope.names.lookup x = some .cell from hx)))
    · exact Z.fl x hx
  · rw [List.getElem?_map] at e2
    cases q : vs[i]? with
    | none => rw [q] at e2; cases e2
    | some v' =>
      rw [q] at e2
      have e2 : v' = v := by simpa using e2
      subst e2
      obtain ⟨c, u, ec, r, z⟩ := val i x v' e1 q
      exact ⟨u, r, .inr ⟨.inr (Z.nm x (List.mem_of_getElem? e1)), c, ec, ck c _ z⟩⟩
  · obtain ⟨_, v, z⟩ := cell x c e
    exact ⟨v, ck c v z⟩
theorem wish_lam {P : Program} {w : World} {K : Frag} {mg : Str → Option Value} {base : Heap} {N : List Str} {fd : FuncData} {fl : Addr} {A : Around} {outer : List Env} {s : Shared} {H : Hp} {E : XK} :
    Wish (cxL P w K mg base N fd fl A outer s H E) fun a C H' => E (.ref a) (some C) H' := by
  intro pins σ H' s' a C tb I fly na fa ft _ q
  show wpAny (model P w) (A.deeper (envL fd fl s.heap.objs.size)) (leaving (envL fd fl s.heap.objs.size) (.ref a)) (fun _ s'' => CX1 P w outer H s E (.ref a) s'') (fun e' s'' => CX1 P w outer H s E e' s'') s'
  have hst : s'.heap.FunFrames base (envL fd fl s.heap.objs.size :: outer) := I.stack
  have hfr : (A.deeper (envL fd fl s.heap.objs.size)).frames = some (envL fd fl s.heap.objs.size :: outer) := I.ok.frames
  have hff : (envL fd fl s.heap.objs.size).frame = some s.heap.objs.size := rfl
  have ub : Un (frs outer) [] H H' s.heap s'.heap := I.base
  have na : s.heap.get? a = none := na
  have ft : ∀ T, tb = .ref T → s.heap.get? T = none ∧ H' T = none := ft
  refine leave_st hfr hst hff fly fun h' T nT fl' k1 k2 k3 => ?_
  have apart : ∀ b o, s.heap.get? b = some o → b ≠ a ∧ tb ≠ .ref b := fun b o e => ⟨fun z => (by rw [z, na] at e; cases e), fun z => (by rw [(ft b z).1] at e; cases e)⟩
  have nfr : ∀ b o, s.heap.get? b = some o → b ∉ frs outer → b ∉ frs (envL fd fl s.heap.objs.size :: outer) := fun b o e hn hm => by
    unfold frs at hm
    rw [List.filterMap_cons, hff] at hm
    rcases List.mem_cons.mp hm with z | z
    · exact absurd (Heap.lt_size e) (by rw [z]; exact Nat.lt_irrefl _)
    · exact hn z
  refine ⟨a, C, H', T, rfl, I.os, I.bare, ⟨fun b o e n hb _ => ?_, fun b o e n hb _ => ?_, ub.free, fun b o e hx => ?_, ub.tups, ub.frzs, ub.tbls⟩, fun c o e => ?_, na, ?_, fa, I.hok.no nT, fl', q⟩
  · exact k1 b o (ub.keep b o e n hb (by simp)) (apart b o e).1 (apart b o e).2 (nfr b o e hb)
  · obtain ⟨sl, e1⟩ := ub.slot b o e n hb (by simp)
    obtain ⟨sl2, e2⟩ := k2 b _ e1 (apart b o e).1 (apart b o e).2
    exact ⟨sl2, e2⟩
  · obtain ⟨o', e1⟩ := ub.there b o e hx
    exact k3 b o' e1
  · refine (I.hok c o e).stay (fun d v hd z => ?_) (fun _ z => z) fun _ _ z => z
    have hHd : ∃ o', H' d = some o' := by
      rcases hd with z | z
      · exact ⟨o, by rw [z]; exact e⟩
      · exact ⟨_, z⟩
    obtain ⟨o', eo⟩ := hHd
    refine k1 d v z (fun y => (by rw [y, fa] at eo; cases eo)) (fun y => (by rw [(ft d y).2] at eo; cases eo)) fun hm => ?_
    rw [I.stkFree d hm] at eo
    cases eo
  · exact I.was rfl nT
/-- none of them tracked -/
abbrev NoC (cs : List (Addr × Obj)) (H : Hp) : Prop := ∀ b o, cs.lookup b = some o → H b = none
/-- what left with the cells let go, with them held again -/
theorem CX1.loose {P : Program} {w : World} {outer : List Env} {H : Hp} {s s' : Shared} {E : XK} {e : Value} {cs : List (Addr × Obj)} (ok0 : HOk P w H s.heap) (fr : ∀ b o, cs.lookup b = some o → H b = some (.frz o (.ext fun _ => True)) ∧ b ∉ frs outer)
    (x : CX1 P w outer (er H cs) s (fun e C H1 => NoC cs H1 → E e C (fz H1 cs)) e s') : CX1 P w outer H s E e s' := by
  obtain ⟨a, C, H1, T, rfl, os, bare, un, ok, na, nT, fa, fT, fly, q⟩ := x
  obtain ⟨u, k⟩ := un.loose ok ok0 fr
  have no : ∀ b, s.heap.get? b = none → cs.lookup b = none := fun b z => by
    cases y : cs.lookup b with
    | none => rfl
    | some o =>
      have := (ok0 b _ (fr b o y).1).1
      rw [z] at this
      cases this
  exact ⟨a, C, _, T, rfl, os, bare, u, k, na, nT, by rw [fz_ne (no a na)]; exact fa, by rw [fz_ne (no T nT)]; exact fT, fly, q fun b o z => un.free b o (ok0 b _ (fr b o z).1).1 (er_at z) (by simp)⟩
/-- a lambda's object is called -/
theorem lam_run {P : Program} {w : World} {K : Frag} {mg : Str → Option Value} {base : Heap} {N : List Str} {fd : FuncData} {fl : Addr} {ob : Obj} {A : Around} {outer : List Env} {s : Shared} {H : Hp} {Q : VK} {E : XK} {body : Expr} {vs : List V} {cs : List (Addr × Obj)} {te : TE} {k : Nat}
    (Z : LamAt fd body N) (hr : Room k A) (e0 : Env0 P w K mg base A outer s H) (hfl : s.heap.get? fl = some ob) (hdt : ob.data = .func fd) (hcd : s.heap.CodeRec fd.code fd.qualname)
    (fr : ∀ b o, cs.lookup b = some o → H b = some (.frz o (.ext fun _ => True)) ∧ b ∉ frs outer) (cell : ∀ x c, fd.closure.lookup x = some c → ∃ o v, cs.lookup c = some o ∧ o.data = .cell v)
    (val : ∀ (i : Nat) (x : Str) (v : V), N[i]? = some x → vs[i]? = some v → ∃ c u o, fd.closure.lookup x = some c ∧ RelV v u ∧ cs.lookup c = some o ∧ o.data = .cell (some u)) (hl : vs.length = N.length)
    (hte : PE (cxL P w K mg base N fd fl A outer s (er H cs) (fun e C H1 => NoC cs H1 → E e C (fz H1 cs))) body te) (h : te (vs.map some) (er H cs) fun v H1 => NoC cs H1 → Q v (fz H1 cs)) :
    codeAny (model P w) A (.call (.ref fl) ⟨[], []⟩) (CR (CX1 P w) outer P w H s Q E) s := by
  have at0 : ∀ b o, cs.lookup b = some o → s.heap.get? b = some o := fun b o q => (e0.hok b _ (fr b o q).1).1
  have er0 : ∀ b, H b = none → er H cs b = none := fun b z => by
    cases q : cs.lookup b with
    | some o => exact er_at q
    | none => rw [er_ne q]; exact z
  have e1 : Env0 P w K mg base A outer s (er H cs) := ⟨e0.frames, e0.mod, fun b o e => ⟨(e0.bs b o e).1, er0 b (e0.bs b o e).2⟩, e0.bsz, e0.funs, fun b hb => er0 b (e0.frf b hb), e0.hok.er fun b o q => (fr b o q).1, e0.bare⟩
  refine kla_callFunE (by have := hr.dp; omega) hfl hdt Z.co Z.ge Z.bd hcd ?_
  rw [Z.ba]
  refine wpAny_pure (wpAny_newFunctionEnv Z.fr (fun x hx => absurd hx (by simp)) (fun h1 hn sb => ?_) Z.kd)
  have hk : ∀ b o, s.heap.get? b = some o → h1.get? b = some o := fun b o e => (sb.2 b (Nat.ne_of_lt (Heap.lt_size e))).trans (Heap.get?_push_of_some _ e)
  refine ⟨(e0.mod.nolimit.keeps fun b o e => (e0.bs b o e).1).keeps hk, ?_⟩
  have I := inv_lam (fl := fl) (E := fun e C H1 => NoC cs H1 → E e C (fz H1 cs)) (tk := s.toks + 0) Z hr.hd e1 hn hk (fun x c e => (let ⟨o, v, q, d⟩ := cell x c e; ⟨er_at q, v, o, at0 c o q, d⟩)) (fun i x v e1 e2 => (let ⟨c, u, o, a1, a2, a3, a4⟩ := val i x v e1 e2; ⟨c, u, a1, a2, o, at0 c o a3, a4⟩)) hl
  refine kla_codeExpr (wpAny_mono (hte [] _ _ _ _ I h) (fun u s' hv => ?_) fun e s' hx => ?_)
  · obtain ⟨v, H1, J, r, q⟩ := hv
    obtain ⟨un, k⟩ := Un.loose (fs := frs outer) J.base J.hok e0.hok fr
    exact ⟨v, fz H1 cs, J.os, J.bare, un, k, r, q fun b o z => Un.free (fs := frs outer) (ex := []) J.base b o (at0 b o z) (er_at z) (by simp)⟩
  · exact wpAny_mono hx (fun _ s'' z => CX1.loose e0.hok fr z) fun e' s'' z => CX1.loose e0.hok fr z
end L2

set_option Elab.async false
set_option linter.all false
set_option maxRecDepth 100000
/-! f() of a lambda that a name holds. -/
namespace L2
open PySem PySem.Spec PyProof.Rows PySem.Calls PySem.W
abbrev held (o : Obj) : HO := .frz o (.ext fun _ => True)
/-- what a lambda's object and its code say -/
structure LamObj (H : Hp) (fl : Addr) (fd : FuncData) : Prop where
  ob : ∃ o, H fl = some (held o) ∧ o.data = .func fd
  cd : ∃ c oc vs t, fd.code = .ref c ∧ H c = some (held oc) ∧ oc.data = .fields vs ∧ vs[1]? = some (.str fd.qualname t)
def tLam (X : Cx) (i : Nat) (E : XK) : TE := fun σ H Q => ∃ (fl : Addr) (fd : FuncData) (body : Expr) (N : List Str) (vs : List V) (cs : List (Addr × Obj)) (te : TE), σ[i]? = some (some (.ref fl)) ∧ LamObj H fl fd ∧ LamAt fd body N ∧ (∀ b o, cs.lookup b = some o → H b = some (held o)) ∧ (∀ x c, fd.closure.lookup x = some c → ∃ o v, cs.lookup c = some o ∧ o.data = .cell v) ∧
  (∀ (i : Nat) (x : Str) (v : V), N[i]? = some x → vs[i]? = some v → ∃ c u o, fd.closure.lookup x = some c ∧ RelV v u ∧ cs.lookup c = some o ∧ o.data = .cell (some u)) ∧ vs.length = N.length ∧
  (∀ s, PE (cxL X.prog X.w X.K X.mg X.base N fd fl X.A X.stack s (er H cs) (fun e C H1 => NoC cs H1 → E e C (fz H1 cs))) body te) ∧ te (vs.map some) (er H cs) fun v H1 => NoC cs H1 → Q v (fz H1 cs)
theorem pe_lam {X : Cx} {i k : Nat} {x : Str} {p pos : Pos} {E : XK} (hr : Room k X.A) (hN : X.N[i]? = some x) (hv : Vis X.env.scope x) (W : Wish X fun a C H => E (.ref a) (some C) H) (hx : X.ex = []) (hd : (x == ("__debug__" : Str)) = false := by decide) (hcd : (x == ("__classdict__" : Str)) = false := by decide) :
    PE X (.Call (.Name x p) [] [] pos) (tLam X i E) := by
  intro pins s σ H Q I h
  obtain ⟨fl, fd, body, N, vs, cs, te, eσ, L, Z, fr, cell, val, hl, hte, q⟩ := h
  obtain ⟨o, ho, hdt⟩ := L.ob
  have hfl : s.heap.get? fl = some o := (I.hok fl _ ho).1
  refine wpAny_Call_Name_kw (thn (pe_var (pos := p) hN hv hd hcd pins s σ H (fun v H' => v = .ref fl ∧ H' = H) I ⟨_, eσ, rfl, rfl⟩) fun f s1 ⟨v, H1, I1, r1, z1, z2⟩ => ?_)
  subst z1 z2
  cases (show f = Value.ref fl from r1)
  have hfl : s1.heap.get? fl = some o := (I1.hok fl _ ho).1
  refine callWith_F0 (by obtain ⟨oc, od, dt, sl⟩ := o; exact ⟨oc, od, fd, sl, by rw [hfl]; exact congrArg some (by rw [show dt = Data.func fd from hdt])⟩) ?_
  obtain ⟨c, oc, ws, t, ec, hc, hcdt, hw⟩ := L.cd
  have hcr : s1.heap.CodeRec fd.code fd.qualname := ⟨c, oc, ws, t, ec, (I1.hok c _ hc).1, hcdt, hw⟩
  refine wpAny_call (codeAny_mono (lam_run (k := k) Z hr I1.env0 hfl hdt hcr (fun b ob e => ⟨fr b ob e, fun hm => ?_⟩) cell val hl (hte s1) q) fun r s' hq => ?_)
  · have := I1.stkFree b hm
    rw [fr b ob e] at this
    cases this
  · cases r with
    | error e => exact pass1 W hx pins σ _ s1 e s' I1 hq
    | ok fl' =>
      cases fl' with
      | ret u => exact I1.after hq
      | next => exact False.elim hq
      | brk => exact False.elim hq
      | cont => exact False.elim hq
end L2

set_option Elab.async false
set_option linter.all false
set_option maxRecDepth 100000
/-! a lambda is made, and given to a call. -/
namespace L2
open PySem PySem.Spec PyProof.Rows PySem.Calls PySem.W
/-- the code object of a lambda, tracked -/
def CodeAt (H : Hp) (c : Addr) (q : Str) : Prop := ∃ oc vs t, H c = some (held oc) ∧ oc.data = .fields vs ∧ vs[1]? = some (.str q t)
/-- a def's table: what lies in it are codes of lambdas -/
def TabOk (H : Hp) (P : Addr) (q : Str) : Prop := ∃ ps, H P = some (.tbl ps) ∧ TriplesOk ps.toList ∧ ∀ l : Pos, codeAmong l ps.toList = none ∨ ∃ c, codeAmong l ps.toList = some (.ref c) ∧ CodeAt H c q
theorem TabOk.keep {H H' : Hp} {P : Addr} {q : Str} (x : TabOk H P q) (kp : ∀ ps, H P = some (.tbl ps) → H' P = some (.tbl ps)) (kh : ∀ b o, H b = some (held o) → H' b = some (held o)) : TabOk H' P q := by
  obtain ⟨ps, e, t, h⟩ := x
  refine ⟨ps, kp ps e, t, fun l => ?_⟩
  rcases h l with z | ⟨c, z, oc, vs, t', y, r⟩
  · exact .inl z
  · exact .inr ⟨c, z, oc, vs, t', kh _ _ y, r⟩
theorem TabOk.same {H H' : Hp} {P : Addr} {q : Str} (x : TabOk H P q) (s : Same H H') : TabOk H' P q := x.keep (fun _ => s _ _) fun _ _ => s _ _
theorem among_app {l : Pos} {r : List Value} : ∀ (a : List Value), TriplesOk a → codeAmong l (a ++ r) = (codeAmong l a).orElse fun _ => codeAmong l r := fun a h => by
  fun_induction TriplesOk a with
  | case1 => simp [codeAmong]
  | case2 x t y u z rest ih =>
    simp only [List.cons_append, codeAmong]
    split
    · rfl
    · exact ih h
  | case3 a h1 h2 => exact h.elim
section
variable {P : Program} {w : World} {fs : List Addr} {H : Hp} {h h' : Heap} {T c fl : Addr} {ps more : Array Value} {oc ob : Obj}
theorem held_ok {H : Hp} {h : Heap} {b : Addr} {o : Obj} (e : h.get? b = some o) : ObjOk P w H h b (held o) := ⟨e, trivial, ⟨o, e⟩, fun _ _ _ _ => trivial⟩
theorem mk_un (hT : H T = some (.tbl ps)) (ok : HOk P w H h) (k : ∀ b o, b ≠ T → h.get? b = some o → h'.get? b = some o) (hp : h'.get? T = some (tabObj (ps ++ more))) (hc : h.objs.size ≤ c) (hf : h.objs.size ≤ fl) (hcf : c ≠ fl) (ec : h'.get? c = some oc) (ef : h'.get? fl = some ob) :
    Un fs [] H (upd (upd (upd H T (.tbl (ps ++ more))) c (held oc)) fl (held ob)) h h' ∧ HOk P w (upd (upd (upd H T (.tbl (ps ++ more))) c (held oc)) fl (held ob)) h' := by
  have nc := ok.fresh hc
  have nf := ok.fresh hf
  have lt : ∀ b u, H b = some u → b ≠ c ∧ b ≠ fl := fun b u e => ⟨ne_of_none e nc, ne_of_none e nf⟩
  have at1 : ∀ b u, b ≠ T → H b = some u → upd (upd (upd H T (.tbl (ps ++ more))) c (held oc)) fl (held ob) b = some u := fun b u n e => by
    rw [upd_ne (lt b u e).2, upd_ne (lt b u e).1, upd_ne n]
    exact e
  have atT : upd (upd (upd H T (.tbl (ps ++ more))) c (held oc)) fl (held ob) T = some (.tbl (ps ++ more)) := by
    rw [upd_ne (lt T _ hT).2, upd_ne (lt T _ hT).1, upd_same]
  have old : ∀ b o, h.get? b = some o → b ≠ c ∧ b ≠ fl := fun b o e => ⟨Nat.ne_of_lt (Nat.lt_of_lt_of_le (Heap.lt_size e) hc), Nat.ne_of_lt (Nat.lt_of_lt_of_le (Heap.lt_size e) hf)⟩
  refine ⟨⟨fun b o e n _ _ => k b o (fun z => (by rw [z, hT] at n; cases n)) e, fun b o e n _ _ => ⟨o.slots, k b o (fun z => (by rw [z, hT] at n; cases n)) e⟩, fun b o e n _ => ?_, fun b o e _ => ?_, fun b xs e => at1 b _ (fun z => (by rw [z, hT] at e; cases e)) e, fun b o u e => at1 b _ (fun z => (by rw [z, hT] at e; cases e)) e, fun b qs e => ?_⟩, fun b u e => ?_⟩
  · rw [upd_ne (old b o e).2, upd_ne (old b o e).1, upd_ne fun z => (by rw [z, hT] at n; cases n)]
    exact n
  · by_cases z : b = T
    · rw [z]
      exact ⟨_, hp⟩
    · exact ⟨o, k b o z e⟩
  · by_cases z : b = T
    · subst z
      rw [hT] at e
      cases e
      exact ⟨more, atT⟩
    · exact ⟨#[], by rw [Array.append_empty]; exact at1 b _ z e⟩
  · by_cases z1 : b = fl
    · subst z1
      rw [upd_same] at e
      cases e
      exact held_ok ef
    · rw [upd_ne z1] at e
      by_cases z2 : b = c
      · subst z2
        rw [upd_same] at e
        cases e
        exact held_ok ec
      · rw [upd_ne z2] at e
        by_cases z3 : b = T
        · subst z3
          rw [upd_same] at e
          cases e
          exact hp
        · rw [upd_ne z3] at e
          refine (ok b u e).stay (fun d v hd q => k d v (fun y => ?_) q) (fun d q => at1 d _ (fun y => (by rw [y, hT] at q; cases q)) q) fun d xs q => at1 d _ (fun y => (by rw [y, hT] at q; cases q)) q
          subst y
          rcases hd with y | y
          · exact z3 y.symm
          · rw [hT] at y
            cases y
end
/-- the lambda, made: its table may have grown -/
def tMk (T : Addr) (q : Str) (params : Arguments) (body : Expr) (scope : Scope) (cl : List (Str × Addr)) (N : List Str) : TE := fun _ H Q => TabOk H T q ∧
  ∀ fl pm cv ct H1, (∀ b o, b ≠ T → H b = some o → H1 b = some o) → TabOk H1 T q → H fl = none → LamObj H1 fl (kla_fn "<lambda>" q params body scope cl pm cv ct) → LamAt (kla_fn "<lambda>" q params body scope cl pm cv ct) body N → Q (.ref fl) H1
/-- what the lambda's own text says -/
structure LamTx (X : Cx) (params : Arguments) (body : Expr) (scope : Scope) (N : List Str) : Prop where
  df : defaultsOf params X.env = ([], [])
  kd : scope.kind = .function
  co : scope.isCoroutine = false
  ge : scope.isGenerator = false
  fr : ∀ p ∈ scope.names, p.2 ≠ .cell
  fl : ∀ p ∈ scope.names, p.2 = NameKind.free → X.env.kindOf p.1 = some .cell ∨ X.env.kindOf p.1 = some .free
  ba : ∀ qual cl pm cv ct, bindArgs (kla_fn "<lambda>" qual params body scope cl pm cv ct) ⟨[], []⟩ = pure []
  nm : ∀ x ∈ N, scope.names.lookup x = some .free
theorem pe_mklam {X : Cx} {T cc : Addr} {params : Arguments} {body : Expr} {scope : Scope} {lpos : Pos} {N : List Str} (Z : LamTx X params body scope N) (hcode : X.env.code = .ref cc) (hC : CodeHd X.base cc T) (hB : X.base.BuiltinsAt X.mg T) :
    PE X (.Lambda params body scope lpos) (tMk T (X.env.qual ++ "<lambda>") params body scope (clOf X.env.cells scope.names []) N) := by
  intro pins s σ H Q I h
  obtain ⟨⟨ps, hT, tr, am⟩, q⟩ := h
  have hs : ∀ p ∈ scope.names, p.2 = NameKind.free → (X.env.cells.lookup p.1).isSome = true := fun p hp e => by
    obtain ⟨c, z⟩ := I.ok.has p.1 (Z.fl p hp e)
    rw [z]
    rfl
  have lam : ∀ qual pm cv ct, LamAt (kla_fn "<lambda>" qual params body scope (clOf X.env.cells scope.names []) pm cv ct) body N := fun qual pm cv ct =>
    ⟨rfl, rfl, rfl, Z.kd, Z.co, Z.ge, Z.fr, fun x hx => clOf_has _ _ (.inl ⟨_, PySem.mem_of_lookup hx, rfl⟩), fun x y c h1 h2 => by
      rcases clOf_sub _ _ hs h1 with z | z
      · cases z
      · rcases clOf_sub _ _ hs h2 with z2 | z2
        · cases z2
        · exact I.ok.inj x y c z z2, Z.ba _ _ _ _ _, Z.nm⟩
  have hg := I.mod.glob.keeps I.bk
  have hP : s.heap.get? T = some (tabObj ps) := I.hok T _ hT
  have hgP : mainGlobals ≠ T := fun z => by
    obtain ⟨o, es, ep, e, _⟩ := I.mod.glob
    have := (I.bs _ _ e).2
    rw [z, hT] at this
    cases this
  have hb : s.heap.BuiltinsAt X.mg T := let ⟨bm, o, b1, b2, b3, b4, b5, r⟩ := hB; ⟨bm, o, b1, b2, b3, b4, I.bk _ _ b5, r⟩
  refine kla_eval Z.df ?_
  rcases am lpos with hn | ⟨c, hf, oc, vs, t, hc, hd, hv⟩
  · refine kla_makeFunction (mg := X.mg) (clos_eq hs) I.ok.glob hg hcode (hC.keeps I.bk) hP tr hn hgP hb fun c' ctv h' tk hx hge hlt hrec htb => ?_
    obtain ⟨c₂, oc, vs, t, e2, hoc, hd, hv⟩ := hrec
    cases e2
    obtain ⟨un, ok⟩ := mk_un (P := X.prog) (w := X.w) (fs := frs X.stack) (h' := h'.push (kla_obj "<lambda>" (X.env.qual ++ "<lambda>") params body scope (clOf X.env.cells scope.names []) ((X.mg "__name__").getD .none) c' ctv)) (fl := h'.objs.size) hT I.hok
      (fun b o n e => Heap.get?_push_of_some _ (hx b o n e)) (Heap.get?_push_of_some _ htb) hge (Nat.le_trans hge (Nat.le_of_lt hlt)) (Nat.ne_of_lt hlt) (Heap.get?_push_of_some _ hoc) (Heap.get?_push_size _ rfl)
    have J := I.call (ch := []) (g' := s.gens) (t' := tk) (d' := s.drawn) un ok I.bare fun b z => absurd z (by simp)
    have nc : H c' = none := I.hok.fresh hge
    have nf : H h'.objs.size = none := I.hok.fresh (Nat.le_trans hge (Nat.le_of_lt hlt))
    have kp : ∀ b o, b ≠ T → H b = some o → upd (upd (upd H T (.tbl (ps ++ #[rawInt lpos.line, rawInt lpos.col, .ref c']))) c' (held oc)) h'.objs.size (held (kla_obj "<lambda>" (X.env.qual ++ "<lambda>") params body scope (clOf X.env.cells scope.names []) ((X.mg "__name__").getD .none) c' ctv)) b = some o := fun b o n e => by
      rw [upd_ne (ne_of_none e nf), upd_ne (ne_of_none e nc), upd_ne n]
      exact e
    have cd : CodeAt (upd (upd (upd H T (.tbl (ps ++ #[rawInt lpos.line, rawInt lpos.col, .ref c']))) c' (held oc)) h'.objs.size (held (kla_obj "<lambda>" (X.env.qual ++ "<lambda>") params body scope (clOf X.env.cells scope.names []) ((X.mg "__name__").getD .none) c' ctv))) c' (X.env.qual ++ "<lambda>") :=
      ⟨oc, vs, t, by rw [upd_ne (Nat.ne_of_lt hlt), upd_same], hd, hv⟩
    refine ⟨.ref h'.objs.size, _, J, rfl, q _ ((X.mg "__name__").getD .none) (.ref c') ctv _ kp ⟨ps ++ #[rawInt lpos.line, rawInt lpos.col, .ref c'], ?_, ?_, fun l => ?_⟩ nf ⟨⟨_, upd_same, rfl⟩, ?_⟩ (lam _ _ _ _)⟩
    · rw [upd_ne (ne_of_none hT nf), upd_ne (ne_of_none hT nc), upd_same]
    · rw [Array.toList_append]
      exact TriplesOk_snoc _ _ _ _ tr
    · rw [Array.toList_append, among_app _ tr]
      rcases am l with z | ⟨c, z, oc2, vs2, t2, y, r⟩
      · rw [z]
        show codeAmong l [rawInt lpos.line, rawInt lpos.col, .ref c'] = none ∨ _
        simp only [codeAmong, rawInt]
        by_cases e : ((lpos.line : Int) == (l.line : Int) && (lpos.col : Int) == (l.col : Int)) = true
        · refine .inr ⟨c', ?_, cd⟩
          show codeAmong l [rawInt lpos.line, rawInt lpos.col, .ref c'] = some (.ref c')
          simp only [codeAmong, rawInt]
          rw [if_pos e]
        · refine .inl ?_
          rw [if_neg e]
      · rw [z]
        exact .inr ⟨c, rfl, oc2, vs2, t2, kp _ _ (fun w' => by rw [w', hT] at y; cases y) y, r⟩
    · obtain ⟨oc3, vs3, t3, a1, a2, a3⟩ := cd
      exact ⟨c', oc3, vs3, t3, rfl, a1, a2, a3⟩
  · refine kla_makeFunctionHit (mg := X.mg) (clos_eq hs) I.ok.glob hg hcode (hC.keeps I.bk) hP tr hf hb fun ctv h' tk hk hsz => ?_
    have J := I.laid (a := h'.objs.size) (o := held (kla_obj "<lambda>" (X.env.qual ++ "<lambda>") params body scope (clOf X.env.cells scope.names []) ((X.mg "__name__").getD .none) c ctv)) (h' := h'.push (kla_obj "<lambda>" (X.env.qual ++ "<lambda>") params body scope (clOf X.env.cells scope.names []) ((X.mg "__name__").getD .none) c ctv)) (t' := tk)
      (fun b u e => Heap.get?_push_of_some _ (hk b u e)) hsz (held_ok (Heap.get?_push_size _ rfl))
    have nf : H h'.objs.size = none := I.hok.fresh hsz
    have kp : Same H (upd H h'.objs.size (held (kla_obj "<lambda>" (X.env.qual ++ "<lambda>") params body scope (clOf X.env.cells scope.names []) ((X.mg "__name__").getD .none) c ctv))) := fun b o e => by
      rw [upd_ne (ne_of_none e nf)]
      exact e
    exact ⟨.ref h'.objs.size, _, J, rfl, q _ ((X.mg "__name__").getD .none) (.ref c) ctv _ (fun b o _ e => kp b o e) (TabOk.same ⟨ps, hT, tr, am⟩ kp) nf ⟨⟨_, upd_same, rfl⟩, c, oc, vs, t, rfl, kp _ _ hc, hd, hv⟩ (lam _ _ _ _)⟩
/-- the cells that a lambda reads, held -/
structure CellsOf (cl : List (Str × Addr)) (N : List Str) (vs : List V) (H : Hp) (cs : List (Addr × Obj)) : Prop where
  no : ∀ b o, cs.lookup b = some o → H b = none
  cell : ∀ x c, cl.lookup x = some c → ∃ o v, cs.lookup c = some o ∧ o.data = .cell v
  val : ∀ (i : Nat) (x : Str) (v : V), N[i]? = some x → vs[i]? = some v → ∃ c u o, cl.lookup x = some c ∧ RelV v u ∧ cs.lookup c = some o ∧ o.data = .cell (some u)
theorem memA {o : Obj} {b : Addr} : ∀ {l : List (Addr × Obj)}, l.lookup b = some o → (b, o) ∈ l
  | [], e => by cases e
  | (a, x) :: r, e => by
    rw [List.lookup_cons] at e
    cases z : b == a with
    | true => rw [z] at e; cases e; rw [eq_of_beq z]; exact .head _
    | false => rw [z] at e; exact .tail _ (memA e)
theorem look_pins {h : Heap} {b : Addr} {o : Obj} : ∀ {fp : List Addr}, (pinsAt fp h).lookup b = some o → b ∈ fp ∧ h.get? b = some o := fun {fp} e => of_pinsAt (p := (b, o)) (memA e)
theorem look_pins' {h : Heap} {b : Addr} {o : Obj} (e : h.get? b = some o) : ∀ {fp : List Addr}, b ∈ fp → (pinsAt fp h).lookup b = some o
  | [], z => absurd z (by simp)
  | a :: r, z => by
    have un : pinsAt (a :: r) h = match (h.get? a).map (fun o => (a, o)) with | some p => p :: pinsAt r h | none => pinsAt r h := by
      unfold pinsAt
      rw [List.filterMap_cons]
      cases (h.get? a).map (fun o => (a, o)) <;> rfl
    rw [un]
    by_cases y : b = a
    · subst y
      rw [e]
      show List.lookup b ((b, o) :: pinsAt r h) = _
      rw [List.lookup_cons, beq_self_eq_true]
    · have ih := look_pins' e (fp := r) ((List.mem_cons.mp z).resolve_left y)
      cases q : h.get? a with
      | none => exact ih
      | some o' =>
        show List.lookup b ((a, o') :: pinsAt r h) = _
        rw [List.lookup_cons, show (b == a) = false by simpa using y]
        exact ih
theorem clOf_mem {cells : List (Str × Addr)} {q : Str × Addr} : ∀ (l : List (Str × NameKind)) (acc : List (Str × Addr)), q ∈ clOf cells l acc → q ∈ acc ∨ ∃ k, (q.1, k) ∈ l ∧ k = NameKind.free ∧ q.2 = (cells.lookup q.1).getD 0
  | [], _, h => .inl h
  | (n, k) :: r, acc, h => by
    have h' : q ∈ clOf cells r (if k = .free then (n, (cells.lookup n).getD 0) :: acc else acc) := h
    rcases clOf_mem r _ h' with e | ⟨k', e1, e2⟩
    · by_cases hk : k = .free
      · rw [if_pos hk] at e
        rcases List.mem_cons.mp e with z | z
        · cases z
          exact .inr ⟨k, List.mem_cons_self, hk, rfl⟩
        · exact .inl z
      · rw [if_neg hk] at e
        exact .inl e
    · exact .inr ⟨k', List.mem_cons_of_mem _ e1, e2⟩
/-- g(lambda: ..): the lambda's cells are held through the call -/
def tSaid (sp : Sp) (N : List Str) (ix : List Nat) (cl : List (Str × Addr)) (te : TE) : TE := fun σ H Q => te σ H fun v H1 => ∃ vs : List V, vs.length = N.length ∧ (∀ (j i : Nat) (u : V), ix[j]? = some i → vs[j]? = some u → σ[i]? = some (some u)) ∧
  ∀ cs, CellsOf cl N vs H1 cs → sp [v] (fz H1 cs) (fun v H2 => Q v (er H2 cs)) E0
theorem pe_said {X : Cx} {k : Nat} {f : Addr} {fd : FuncData} {y x : Str} {sp : Sp} {p pos lpos : Pos} {params : Arguments} {body : Expr} {scope : Scope} {N : List Str} {ix : List Nat} {te : TE} (F : FnOk X.prog X.w X.K X.mg X.base CX0 k f fd [y] sp) (hr : Room k X.A) (hg : Gl X x) (hm : X.mg x = some (.ref f))
    (hk : PySem.W.keepIn X.K (.ref f) = true) (hb : Binds X.K fd [y] []) (hx : X.ex = []) (hp : ∀ p ∈ scope.names, p.2 = NameKind.free → X.env.kindOf p.1 = some .cell ∧ X.fn p.1 = true) (hN : ∀ (j : Nat) (x : Str), N[j]? = some x → ∃ i, ix[j]? = some i ∧ X.N[i]? = some x ∧ scope.names.lookup x = some .free)
    (ha : PE X (.Lambda params body scope lpos) te) (hdb : (x == ("__debug__" : Str)) = false := by decide) (he : starEach [.Lambda params body scope lpos] X.env = (false, eval (.Lambda params body scope lpos) X.env) :: starEach [] X.env := by rfl) (hpl : (backTo pos (starEach [] X.env)).any (·.1) = false := by rfl) :
    PE X (.Call (.Name x p) [.Lambda params body scope lpos] [] pos) (tSaid sp N ix (clOf X.env.cells scope.names []) te) := by
  intro pins s σ H Q I h
  refine wpAny_Call_Name_kw (ld_glob I hg hm ?_ hdb)
  refine PySem.W.callWith_K (h₀ := X.base) I.ok.mod.kin hk (thn (pa_cons ha pa_nil he pos pins s σ H (fun vs H1 => ∃ ws : List V, ws.length = N.length ∧ (∀ (j i : Nat) (u : V), ix[j]? = some i → ws[j]? = some u → σ[i]? = some (some u)) ∧
    ∀ cs, CellsOf (clOf X.env.cells scope.names []) N ws H1 cs → sp vs (fz H1 cs) (fun v H2 => Q v (er H2 cs)) E0) I h) fun us s1 z => ?_) he hpl
  obtain ⟨vs, H1, I1, r, ws, hw, hσ, q⟩ := z
  refine ⟨I1.kIn, ?_⟩
  have hs : ∀ p ∈ scope.names, p.2 = NameKind.free → (X.env.cells.lookup p.1).isSome = true := fun p hpm e => by
    obtain ⟨c, z⟩ := I1.ok.has p.1 (.inl (hp p hpm e).1)
    rw [z]
    rfl
  -- the cells
  have sub : ∀ x c, (clOf X.env.cells scope.names []).lookup x = some c → X.env.cells.lookup x = some c := fun x c e => by
    rcases clOf_sub _ _ hs e with z | z
    · cases z
    · exact z
  have at' : ∀ b ∈ (clOf X.env.cells scope.names []).map (·.2), ∃ x, X.env.cells.lookup x = some b ∧ X.fn x = true := fun b hb' => by
    obtain ⟨q', hq', rfl⟩ := List.mem_map.mp hb'
    rcases clOf_mem _ _ hq' with z | ⟨k', hk', rfl, e⟩
    · cases z
    · obtain ⟨c, hc⟩ := Option.isSome_iff_exists.mp (hs _ hk' rfl)
      refine ⟨q'.1, ?_, (hp _ hk' rfl).2⟩
      rw [e, show X.env.cells.lookup q'.1 = some c from hc]
      rfl
  obtain ⟨cs, ecs⟩ : ∃ cs, cs = pinsAt ((clOf X.env.cells scope.names []).map (·.2)) s1.heap := ⟨_, rfl⟩
  have inn : ∀ x c, (clOf X.env.cells scope.names []).lookup x = some c → c ∈ (clOf X.env.cells scope.names []).map (·.2) := fun x c e => List.mem_map.mpr ⟨(x, c), PySem.mem_of_lookup e, rfl⟩
  have L : Loose H1 s1.heap (frs X.stack) cs := fun b o e => by
    rw [ecs] at e
    obtain ⟨hb', e'⟩ := look_pins e
    obtain ⟨x', hx', hfn⟩ := at' b hb'
    refine ⟨e', I1.freeC x' b hx', fun z => ?_⟩
    rcases List.mem_cons.mp (I1.stkSub b z) with y' | y'
    · exact I1.cne x' b hx' y'
    · obtain ⟨_, o', ho', _⟩ := I1.ok.funs.mem y'
      exact absurd (Nat.lt_of_lt_of_le (Heap.lt_size ho') (I1.ok.cab x' b hfn hx')) (Nat.lt_irrefl _)
  have C : CellsOf (clOf X.env.cells scope.names []) N ws H1 cs := by
    refine ⟨fun b o e => (L b o e).2.1, fun x' c e => ?_, fun i x' v e1 e2 => ?_⟩
    · obtain ⟨v, o, ho, hd⟩ := I1.cell x' c (sub x' c e)
      exact ⟨o, v, by rw [ecs]; exact look_pins' ho (inn x' c e), hd⟩
    · obtain ⟨j, e3, e4, e5⟩ := hN i x' e1
      obtain ⟨m, hn, hl⟩ := I1.loc
      have hkc := (hp (x', .free) (PySem.mem_of_lookup e5) rfl).1
      obtain ⟨u, ru, lk⟩ := hl j x' v e4 (hσ i j v e3 e2) (.inr (.inl hkc))
      rcases lk with ⟨kl, _⟩ | ⟨_, c, ec, o, ho, hd⟩
      · rw [hkc] at kl
        cases kl
      · obtain ⟨c', hc'⟩ := clOf_has (cells := X.env.cells) (x := x') scope.names [] (.inl ⟨_, PySem.mem_of_lookup e5, rfl⟩)
        have := sub x' c' hc'
        rw [ec] at this
        cases this
        exact ⟨c, u, o, hc', ru, by rw [ecs]; exact look_pins' ho (inn x' c hc'), hd⟩
  have q := q cs C
  have hok := I1.hok.fz L
  have e0 : Env0 X.prog X.w X.K X.mg X.base X.A X.stack s1 (fz H1 cs) := by
    have e1 := I1.env0
    refine ⟨e1.frames, e1.mod, fun b o e => ⟨(e1.bs b o e).1, ?_⟩, e1.bsz, e1.funs, fun b hb' => ?_, hok, e1.bare⟩
    · cases z : cs.lookup b with
      | none => rw [fz_ne z]; exact (e1.bs b o e).2
      | some o' =>
        have z' := z
        rw [ecs] at z'
        obtain ⟨x', hx', hfn⟩ := at' b (look_pins z').1
        exact absurd (Nat.lt_of_lt_of_le (Heap.lt_size (I1.ok.bs b o e).1) (I1.ok.cab x' b hfn hx')) (Nat.lt_irrefl _)
    · cases z : cs.lookup b with
      | none => rw [fz_ne z]; exact e1.frf b hb'
      | some o' => exact absurd hb' (L b o' z).2.2
  have hl : (us ++ []).length = [y].length := by rw [List.append_nil, ← r.length]; exact F.len _ _ _ _ q
  have hbd := hb s1 us I1.kIn hl
  rw [List.append_nil] at hbd
  refine wpAny_call (codeAny_mono (F.run X.A X.stack s1 (fz H1 cs) ⟨us, []⟩ us vs _ E0 hr e0 hbd r q) fun rr s' hq => ?_)
  cases rr with
  | error e => exact (show False from hq).elim
  | ok fl =>
    cases fl with
    | ret u =>
      obtain ⟨v, H2, os, bare, un, hok2, rv, qq⟩ := hq
      obtain ⟨un', ok', _⟩ := un.held hok2 L
      exact I1.after (Q := Q) ⟨v, er H2 cs, os, bare, un', ok', rv, qq⟩
    | next => exact False.elim hq
    | brk => exact False.elim hq
    | cont => exact False.elim hq
end L2

set_option Elab.async false
set_option linter.all false
set_option maxRecDepth 100000
/-! a lambda in a def: what its text says, by one look; things behind the call. -/
namespace L2
open PySem PySem.Spec PyProof.Rows PySem.Calls PySem.W
def lamOk (scope sc : Scope) (NX N : List Str) (ix : List Nat) : Bool :=
  decide (scope.kind = .function) && !scope.isCoroutine && !scope.isGenerator && scope.names.all (fun p => decide (p.2 ≠ NameKind.cell) && (decide (p.2 ≠ NameKind.free) || decide (sc.names.lookup p.1 = some NameKind.cell))) &&
  (N.zip ix).all (fun q => decide (NX[q.2]? = some q.1) && decide (scope.names.lookup q.1 = some NameKind.free)) && decide (N.length = ix.length)
theorem pe_saidD {X : Cx} {k : Nat} {f T cc : Addr} {fd : FuncData} {y x : Str} {sp : Sp} {p pos lpos : Pos} {params : Arguments} {body : Expr} {scope sc : Scope} {N NX : List Str} {ix : List Nat} (F : FnOk X.prog X.w X.K X.mg X.base CX0 k f fd [y] sp) (hr : Room k X.A) (hg : Gl X x) (hm : X.mg x = some (.ref f))
    (hk : PySem.W.keepIn X.K (.ref f) = true) (hb : Binds X.K fd [y] []) (hx : X.ex = []) (hfn : ∀ x, X.fn x = true) (hcode : X.env.code = .ref cc) (hC : CodeHd X.base cc T) (hB : X.base.BuiltinsAt X.mg T) (hsc : X.env.scope = sc) (hNX : X.N = NX)
    (hdf : defaultsOf params X.env = ([], [])) (hba : ∀ qual cl pm cv ct, bindArgs (kla_fn "<lambda>" qual params body scope cl pm cv ct) ⟨[], []⟩ = pure []) (ok : lamOk scope sc NX N ix = true) (hdb : (x == ("__debug__" : Str)) = false := by decide)
    (he : starEach [.Lambda params body scope lpos] X.env = (false, eval (.Lambda params body scope lpos) X.env) :: starEach [] X.env := by rfl) (hpl : (backTo pos (starEach [] X.env)).any (·.1) = false := by rfl) :
    PE X (.Call (.Name x p) [.Lambda params body scope lpos] [] pos) (tSaid sp N ix (clOf X.env.cells scope.names []) (tMk T (X.env.qual ++ "<lambda>") params body scope (clOf X.env.cells scope.names []) N)) := by
  subst hsc hNX
  unfold lamOk at ok
  simp only [Bool.and_eq_true, decide_eq_true_eq, Bool.not_eq_true', List.all_eq_true, Bool.or_eq_true] at ok
  obtain ⟨⟨⟨⟨⟨kd, co⟩, ge⟩, nms⟩, zs⟩, hl⟩ := ok
  have kc : ∀ p ∈ scope.names, p.2 = NameKind.free → X.env.kindOf p.1 = some .cell := fun p hp e => by
    rcases (nms p hp).2 with z | z
    · exact absurd e z
    · exact z
  have hz : ∀ (j : Nat) (x : Str), N[j]? = some x → ∃ i, ix[j]? = some i ∧ X.N[i]? = some x ∧ scope.names.lookup x = some .free := fun j x e => by
    have hj := (List.getElem?_eq_some_iff.mp e).1
    have e2 : ix[j]? = some (ix[j]'(by omega)) := List.getElem?_eq_getElem (by omega)
    have := zs (x, ix[j]'(by omega)) (List.mem_of_getElem? (i := j) (by rw [List.getElem?_zip_eq_some]; exact ⟨e, e2⟩))
    exact ⟨_, e2, this.1, this.2⟩
  refine pe_said F hr hg hm hk hb hx (fun p hp e => ⟨kc p hp e, hfn _⟩) hz (pe_mklam ⟨hdf, kd, co, ge, fun p hp => (nms p hp).1, fun p hp e => .inl (kc p hp e), hba, fun x hx => ?_⟩ hcode hC hB) hdb he hpl
  obtain ⟨j, e⟩ := List.mem_iff_getElem?.mp hx
  obtain ⟨_, _, _, z⟩ := hz j x e
  exact z
/-- a def whose code is known -/
theorem Fun.okC {P : Program} {w : World} {K : PySem.W.Frag} {mg : Str → Option Value} {base : Heap} {x qual : Str} {st : Stmt} {f cc : Addr} {fd : FuncData} {N ps : List Str} {k : Nat} {sp : Sp} (F : Fun K x qual st f fd) (hc : fd.code = .ref cc) (S : FnScope N ps (defScope st)) (len : ∀ vs H Q E, sp vs H Q E → vs.length = ps.length)
    (hbody : ∀ (A : Around) (outer : List Env) (s : Shared) (H : Hp) (vs : List V) (Q : VK) (E : XK), Room k (A.deeper (envOfC qual (defScope st) s.heap.objs.size f (.ref cc))) → sp vs H Q E →
      ∃ t, PSs (cxOf CX0 P w K mg base N qual (defScope st) f (.ref cc) A outer s H E).nox (defBody st) t ∧ t { nx := fun _ H' => Q .non H', rt := Q } (start N vs) H) : FnOk P w K mg base CX0 (k + 1) f fd ps sp := by
  obtain ⟨oc, od, kV, doc, pm, an, cdv, ct, osl, rfl, lk, hcd⟩ := F.ex
  have hc : cdv = .ref cc := hc
  subst hc
  refine fn_of lk hcd S len fun A outer s H vs Q E hr hsp => ?_
  obtain ⟨t, h, q⟩ := hbody A outer s H vs Q E hr hsp
  exact ⟨t, h.nox, q⟩
/-! ### things, where other objects are turned -/
section
variable {S S' : Addr → Prop} {H H' : Hp} {cs : List (Addr × Obj)}
mutual
theorem IsTh.kp (k : ∀ b o, (∀ ps, o ≠ HO.tbl ps) → (∀ ob u, o ≠ HO.frz ob u) → H b = some o → H' b = some o) (hS : ∀ b o, (∀ ps, o ≠ HO.tbl ps) → (∀ ob u, o ≠ HO.frz ob u) → S b → H b = some o → S' b) : ∀ {v : V} {d : PyData}, IsTh S H v d → IsTh S' H' v d
  | _, _, .non => .non
  | _, _, .bl b => .bl b
  | _, _, .int i => .int i
  | _, _, .str x => .str x
  | _, _, .lst s e r => .lst (hS _ _ (fun _ z => by cases z) (fun _ _ z => by cases z) s e) (k _ _ (fun _ z => by cases z) (fun _ _ z => by cases z) e) (IsThs.kp k hS r)
  | _, _, .tup e r => .tup (k _ _ (fun _ z => by cases z) (fun _ _ z => by cases z) e) (IsThs.kp k hS r)
  | _, _, .dct s e => .dct (hS _ _ (fun _ z => by cases z) (fun _ _ z => by cases z) s e) (k _ _ (fun _ z => by cases z) (fun _ _ z => by cases z) e)
theorem IsThs.kp (k : ∀ b o, (∀ ps, o ≠ HO.tbl ps) → (∀ ob u, o ≠ HO.frz ob u) → H b = some o → H' b = some o) (hS : ∀ b o, (∀ ps, o ≠ HO.tbl ps) → (∀ ob u, o ≠ HO.frz ob u) → S b → H b = some o → S' b) : ∀ {vs : List V} {ds : List PyData}, IsThs S H vs ds → IsThs S' H' vs ds
  | _, _, .nil => .nil
  | _, _, .cons h t => .cons (IsTh.kp k hS h) (IsThs.kp k hS t)
end
/-- the table turned -/
theorem IsTh.tbl {T : Addr} {q : Str} {v : V} {d : PyData} (h : IsTh S H v d) (t : TabOk H T q) (k : ∀ b o, b ≠ T → H b = some o → H' b = some o) : IsTh S H' v d :=
  h.kp (fun b o n1 _ e => k b o (fun z => by obtain ⟨ps, y, _⟩ := t; rw [z, y] at e; cases e; exact n1 _ rfl) e) fun _ _ _ _ s _ => s
theorem er_fz (no : NoC cs H) : er (fz H cs) cs = H := by
  funext b
  cases q : cs.lookup b with
  | some o => rw [er_at q, no b o q]
  | none => rw [er_ne q, fz_ne q]
theorem Same.fz (s : Same H H') : Same (L2.fz H cs) (L2.fz H' cs) := fun b o e => by
  cases q : cs.lookup b with
  | some u =>
    rw [fz_at q] at e ⊢
    exact e
  | none =>
    rw [fz_ne q] at e ⊢
    exact s b o e
theorem IsTh.fz {v : V} {d : PyData} (h : IsTh S H v d) (no : NoC cs H) : IsTh S (L2.fz H cs) v d :=
  h.kp (fun b o _ _ e => by
    cases q : cs.lookup b with
    | some u => rw [no b u q] at e; cases e
    | none => rw [fz_ne q]; exact e) fun _ _ _ _ s _ => s
/-- held through the call, let go behind it -/
theorem er_held {H1 : Hp} (s : Same (fz H cs) H1) {b : Addr} {o : HO} (n : ∀ ob u, o ≠ HO.frz ob u) (e : H1 b = some o) : er H1 cs b = some o := by
  cases q : cs.lookup b with
  | some u =>
    rw [s b _ (fz_at q)] at e
    cases e
    exact absurd rfl (n _ _)
  | none => rw [er_ne q]; exact e
theorem IsTh.er {H1 : Hp} {v : V} {d : PyData} (h : IsTh S H1 v d) (s : Same (L2.fz H cs) H1) : IsTh S (L2.er H1 cs) v d := h.kp (fun b o _ n e => er_held s n e) fun _ _ _ _ s _ => s
theorem Same.er {H1 : Hp} (s : Same (L2.fz H cs) H1) (no : NoC cs H) : Same H (L2.er H1 cs) := fun b o e => by
  cases q : cs.lookup b with
  | some u => rw [no b u q] at e; cases e
  | none =>
    rw [er_ne q]
    exact s b o (by rw [fz_ne q]; exact e)
end
end L2

set_option Elab.async false
set_option linter.all false
set_option maxRecDepth 100000
/-! the head where a def's table may grow. -/
namespace L2
open PySem PySem.Spec PyProof.Rows PySem.W
theorem law_callT {P : Program} {w : World} {K : PySem.W.Frag} {mg mb : Str → Option Value} {CX : CXT} {k : Nat} {fa a c T : Addr} {fd : FuncData} {x qn : Str} {sp : Sp} {s₁ : Shared} {vs : List Value} {ns : List Int}
    (KX : K.In s₁.heap) (hns : s₁.heap.Ns mainGlobals mg) (hb : s₁.heap.Ns builtinsNs mb) (hbb : ∀ x : Str, x ≠ "__name__" → mb x = bootBuiltins x) (hlim : s₁.heap.NoLimit) (hg : s₁.gens = #[])
    (hC : CodeHd s₁.heap c T) (hT : s₁.heap.get? T = some (tabObj #[])) (hK : noTabs K = true) (bmain : ∃ bm ob, mg "__builtins__" = some (.ref bm) ∧ bm ≠ builtinsNs ∧ s₁.heap.get? bm = some ob ∧ ob.cls = .type "module" ∧ ob.dict = some builtinsNs ∧ ob.data = .plain)
    (ha : s₁.heap.get? a = some { cls := .type "list", data := .seq vs.toArray }) (hi : IntsAre vs ns) (hl : ns.length ≤ sizeLine) (hr : Room k callerA)
    (F : ∀ base : Heap, K.In base → base.Ns mainGlobals mg → CodeHd base c T → base.BuiltinsAt mg T → FnOk P w K mg base CX k fa fd [x] sp) (hbind : ∀ (s : Shared) (u : Value), BindsTo s fd ⟨[u], []⟩ [(x, u)])
    (hsp : ∀ H : Hp, SqL K H a (ns.map V.int) → TabOk H T qn → sp [.ref a] H (fun v _ => v = .bl true) fun _ _ _ => False) (hCX : ∀ (H : Hp) (e : Value) (s' : Shared), CX [] H s₁ (fun _ _ _ => False) e s' → False) :
    codeAny (model P w) callerA (.call (.ref fa) ⟨[.ref a], []⟩) (fun r s' => r = .ok (.ret (.bool true)) ∧ OldK s₁.heap s'.heap ∧ s'.os = s₁.os ∧ AllBare s'.gens) s₁ := by
  have rv := vals_ints hi
  have lenV := hi.length
  have neT : a ≠ T := fun z => by
    rw [z, hT] at ha
    cases ha
  have noK : K.lookup T = none := by
    cases e : K.lookup T with
    | none => rfl
    | some o =>
      have h1 := KX _ _ e
      rw [hT] at h1
      cases h1
      have h2 := List.all_eq_true.mp hK _ (mem_of_lookupK e)
      exact absurd (show false = true from h2) Bool.false_ne_true
  have core : ∀ H : Hp, H T = some (.tbl #[]) → (∀ b, b ≠ T → H b = none ∨ ∃ o xs, H b = some (.frz o (.lst xs))) → SqL K H a (ns.map V.int) → HOk P w H s₁.heap → (∀ b, H b ≠ none → b = a ∨ b = T) → (H a ≠ none → K.lookup a = none) →
      codeAny (model P w) callerA (.call (.ref fa) ⟨[.ref a], []⟩) (fun r s' => r = .ok (.ret (.bool true)) ∧ OldK s₁.heap s'.heap ∧ s'.os = s₁.os ∧ AllBare s'.gens) s₁ := by
    intro H eT hO hS hok hA hKa
    have base_of : ∀ {b : Addr} {o : Obj}, s₁.heap.get? b = some o → H b = none → (hidT s₁.heap H).get? b = some o := fun e n => hidT_get e n
    have apart : ∀ {b : Addr} {o : Obj}, s₁.heap.get? b = some o → (∀ its n, o.data ≠ .seq its n) → o.cls ≠ .none → H b = none := fun {b o} e h1 h2 => by
      cases q : H b with
      | none => rfl
      | some u =>
        rcases hA b (by rw [q]; simp) with z | z
        · rw [z, ha] at e
          cases e
          exact absurd rfl (h1 _ _)
        · rw [z, hT] at e
          cases e
          exact absurd rfl h2
    have noA : ∀ {b : Addr} {o : Obj} {es : Array DictEntry} {ep : Nat}, s₁.heap.get? b = some o → o.data = .dict es ep → H b = none := fun {b o es ep} e d => by
      cases q : H b with
      | none => rfl
      | some u =>
        rcases hA b (by rw [q]; simp) with z | z
        · rw [z, ha] at e
          cases e
          cases d
        · rw [z, hT] at e
          cases e
          cases d
    have nsK : ∀ {b : Addr} {m : Str → Option Value}, s₁.heap.Ns b m → (hidT s₁.heap H).Ns b m := fun {b m} ⟨o, es, ep, e, d, r⟩ => ⟨o, es, ep, base_of e (noA e d), d, r⟩
    have hKb : K.In (hidT s₁.heap H) := fun b o e => base_of (KX b o e) (by
      cases q : H b with
      | none => rfl
      | some u =>
        rcases hA b (by rw [q]; simp) with z | z
        · subst z
          rw [hKa (by rw [q]; simp)] at e
          cases e
        · rw [z, noK] at e
          cases e)
    have hM : Mod K mg (hidT s₁.heap H) := ⟨hKb, nsK hns, ⟨mb, nsK hb, hbb⟩, let ⟨mc, h1, h2⟩ := hlim; ⟨mc, nsK h1, h2⟩⟩
    have e0 : Env0 P w K mg (hidT s₁.heap H) callerA [] s₁ H := ⟨rfl, hM, fun b o e => of_hidT e, Nat.le_of_eq (hidT_size _ _), trivial, fun b hb => absurd (show b ∈ ([] : List Addr) from hb) (by simp), hok, .of_eq hg⟩
    have hCb : CodeHd (hidT s₁.heap H) c T := by
      obtain ⟨o, vs', file, tf, flags, tg, inF, text, tt, e, h1, h2, r⟩ := hC
      exact ⟨o, vs', file, tf, flags, tg, inF, text, tt, base_of e (apart e (fun its n z => by rw [h2] at z; cases z) fun z => by rw [h1] at z; cases z), h1, h2, r⟩
    have hBb : (hidT s₁.heap H).BuiltinsAt mg T := by
      obtain ⟨bm, ob, b1, b2, b3, b4, b5, b6⟩ := bmain
      refine ⟨bm, ob, b1, b2, fun z => ?_, fun z => ?_, base_of b3 (apart b3 (fun its n z => by rw [b6] at z; cases z) fun z => by rw [b4] at z; cases z), b4, b5, b6⟩
      · obtain ⟨o, es, ep, e, d, _⟩ := hns
        rw [z, e] at b3
        cases b3
        rw [d] at b6
        cases b6
      · rw [z, hT] at b3
        cases b3
        cases b4
    refine codeAny_mono ((F _ hKb (nsK hns) hCb hBb).run callerA [] s₁ H ⟨[.ref a], []⟩ [.ref a] [.ref a] _ _ hr e0 (hbind s₁ (.ref a)) (.cons rfl .nil) (hsp H hS ⟨#[], eT, trivial, fun l => .inl rfl⟩)) fun r s' h => ?_
    cases r with
    | error e => exact (hCX H e s' h).elim
    | ok fl =>
      cases fl with
      | next => exact False.elim h
      | brk => exact False.elim h
      | cont => exact False.elim h
      | ret u =>
        obtain ⟨v, H', os, bare, un, hok', r', q⟩ := h
        have q' : v = .bl true := q
        subst q'
        obtain rfl : u = Value.bool true := r'
        have kept : ∀ b o, b ≠ T → s₁.heap.get? b = some o → s'.heap.get? b = some o := fun b o nb e => by
          rcases hO b nb with z | ⟨ob, xs, z⟩
          · exact un.keep b o e z (by intro z; exact absurd (show b ∈ ([] : List Addr) from z) (by simp)) (by simp)
          · have z2 := un.frzs b ob _ z
            obtain ⟨e1, _⟩ := hok b _ z
            obtain ⟨e2, _⟩ := hok' b _ z2
            rw [e] at e1
            cases e1
            exact e2
        obtain ⟨more, eT'⟩ := un.tbls T #[] eT
        have hT' : s'.heap.get? T = some (tabObj (#[] ++ more)) := hok' T _ eT'
        refine ⟨rfl, ⟨fun b o e => ?_, fun b o e => ?_⟩, os, bare⟩
        · by_cases z : b = T
          · subst z
            rw [hT] at e
            cases e
            exact .inr (.inl ⟨(hC.tab hT).isCodeTable, rfl, #[], more, rfl, hT'⟩)
          · exact .inl (kept b o z e)
        · by_cases z : b = T
          · rw [z]
            exact ⟨_, hT'⟩
          · exact ⟨o, kept b o z e⟩
  cases hk : K.lookup a with
  | some o =>
    have e := KX a o hk
    rw [ha] at e
    cases e
    refine core (fun b => if b = T then some (.tbl #[]) else none) (if_pos rfl) (fun b nb => .inl (if_neg nb)) (.inr ⟨_, vs.toArray, _, hk, rfl, rfl, rfl, by rw [List.size_toArray, lenV]; exact hl, by simpa using rv⟩) (fun b u z => ?_) (fun b z => ?_) fun z => absurd (if_neg neT) z
    · by_cases hb' : b = T
      · have z' := (if_pos hb').symm.trans z
        cases z'
        subst hb'
        exact hT
      · have z' := (if_neg hb').symm.trans z
        cases z'
    · by_cases hb' : b = T
      · exact .inr hb'
      · exact absurd (if_neg hb') z
  | none =>
    refine core (fun b => if b = T then some (.tbl #[]) else if b = a then some (.frz { cls := .type "list", data := .seq vs.toArray } (.lst (ns.map V.int))) else none) (if_pos rfl) (fun b nb => ?_) (.inl (.inr ⟨{ cls := .type "list", data := .seq vs.toArray }, (if_neg neT).trans (if_pos rfl)⟩)) (fun b u z => ?_) (fun b z => ?_) fun _ => hk
    · by_cases hb' : b = a
      · exact .inr ⟨_, _, (if_neg nb).trans (if_pos hb')⟩
      · exact .inl ((if_neg nb).trans (if_neg hb'))
    · by_cases hb1 : b = T
      · have z' := (if_pos hb1).symm.trans z
        cases z'
        subst hb1
        exact hT
      · by_cases hb' : b = a
        · have z' := ((if_neg hb1).trans (if_pos hb')).symm.trans z
          cases z'
          subst hb'
          exact ⟨ha, by rw [List.length_map]; exact hl, vs, _, rv, ha⟩
        · have z' := ((if_neg hb1).trans (if_neg hb')).symm.trans z
          cases z'
    · by_cases hb1 : b = T
      · exact .inr hb1
      · by_cases hb' : b = a
        · exact .inl hb'
        · exact absurd ((if_neg hb1).trans (if_neg hb')) z
theorem walk_ofT {l : PySem.W.OpenLaw} {n k : Nat} {q : Program} {loose : List Str} {XP : (Str → Option Value) → Heap → Prop} {YP : World → Heap → Prop} {d dr : DefRec} {K : Params → PySem.W.Frag} {CX : World → CXT} {sp : World → Sp} {x nm qn : Str} {c T : Addr}
    (hn : l.most = some n) (hn2 : n ≤ sizeLine) (hdf : d.params.defaults = []) (hr : Room k callerA)
    (hY : ∀ (w : World) (h : Heap), YP w h → (K w.params).In h)
    (hfd : (recsOf q).find? (fun e => e.name == nm) = some dr) (htb : ∀ p : Params, tabIn (K p) nm = some (c, T)) (hnt : ∀ p : Params, noTabs (K p) = true)
    (F : ∀ (w : World) (mg : Str → Option Value) (fa : Addr) (h : Heap), (K w.params).In h → h.Ns mainGlobals mg → mg d.name = some (.ref fa) →
      ∃ fd : FuncData, (∀ (s : Shared) (u : Value), BindsTo s fd ⟨[u], []⟩ [(x, u)]) ∧
        ∀ base : Heap, (K w.params).In base → base.Ns mainGlobals mg → CodeHd base c T → base.BuiltinsAt mg T → FnOk l.prog w (K w.params) mg base (CX w) k fa fd [x] (sp w))
    (hsp : ∀ (w : World) (H : Hp) (a : Addr) (ns : List Int), ns.length ≤ n → SqL (K w.params) H a (ns.map V.int) → TabOk H T qn → sp w [.ref a] H (fun v _ => v = .bl true) fun _ _ _ => False)
    (hCX : ∀ (w : World) (H : Hp) (s : Shared) (e : Value) (s' : Shared), CX w [] H s (fun _ _ _ => False) e s' → False) :
    PySem.W.WalkO q loose XP YP l.row.toRowW d [] (fun f vs => PySem.call f vs) := by
  refine Att.attach_call hn hdf fun w s₀ s₁ mg mb fa o pm cd doc a vs ns G Y ho hd hcd hmg hobj hints hlen hg => ?_
  have KX := hY w _ Y
  obtain ⟨fd, hb, hF⟩ := F w mg fa _ KX G.T.g hmg
  obtain ⟨hC, hT⟩ := tab_of G.T KX hfd (htb w.params)
  exact law_callT KX G.T.g G.T.b G.T.builtins G.T.nolimit hg hC hT (hnt w.params) G.T.bmain hobj hints (Nat.le_trans hlen hn2) hr hF hb (fun H hS hTb => hsp w H a ns hlen hS hTb) fun H e s' => hCX w H s₁ e s'
end L2

set_option Elab.async false
set_option linter.all false
set_option maxRecDepth 100000
namespace K02
open PySem L2
def top (i : Nat) : Stmt := PySem.Challenge.pw_woolyears_k02_sales_that_hold.main.body.getD i (.Pass ⟨0, 0, 0, 0⟩)
/-! ### what is asked of a thing -/
def wholeD (d : PyData) : Bool := isIntD d && !isBoolD d
def items : PyData → List PyData
  | .tuple ds => ds
  | _ => []
def intOf : PyData → Int
  | .int i => i
  | _ => 0
def tupOfD (d : PyData) (f m : Int) : Bool := isTupD d && (decide (f ≤ (items d).length) && decide (((items d).length : Int) ≤ m))
def wholesD (d : PyData) (n : Int) : Bool := tupOfD d n n && (items d).all wholeD
def at_ (d : PyData) (i : Nat) : Int := intOf ((items d).getD i .none)
def promOk (a b c d e f : Int) : Bool :=
  (decide (0 ≤ a) && decide (a < 8)) && ((decide (0 ≤ b) && decide (b < 3)) && ((decide (0 ≤ c) && (decide (c ≤ d) && decide (d ≤ 19))) && ((decide (1 ≤ e) && decide (e ≤ 99)) && (decide (0 ≤ f) && decide (f ≤ 1000000)))))
def promD (d : PyData) : Bool := wholesD d 6 && promOk (at_ d 0) (at_ d 1) (at_ d 2) (at_ d 3) (at_ d 4) (at_ d 5)
def promsD (d : PyData) : Bool := tupOfD d 0 10 && (items d).all promD
theorem nd1 (x : Str) : ([x] : List Str).Nodup := by simp
theorem sz_pos (d : PyData) : 1 ≤ sz d := by cases d <;> simp [sz]
theorem len_szs : ∀ (ds : List PyData), ds.length ≤ szs ds
  | [] => Nat.zero_le _
  | d :: ds => by
    have := len_szs ds
    have := sz_pos d
    simp only [List.length_cons, szs]
    omega
theorem mem_szs : ∀ {ds : List PyData} {d : PyData}, d ∈ ds → sz d ≤ szs ds
  | x :: ds, d, h => by
    simp only [szs]
    rcases List.mem_cons.mp h with e | e
    · rw [e]; omega
    · have := mem_szs e
      omega
theorem in_sz {ds : List PyData} {d : PyData} (h : d ∈ ds) (hz : sz (.tuple ds) ≤ 4000) : sz d ≤ 4000 := by
  have := mem_szs h
  simp only [sz] at hz
  omega
theorem len_line {S : Addr → Prop} {H : Hp} {xs : List V} {ds : List PyData} (r : IsThs S H xs ds) (hz : sz (.tuple ds) ≤ 4000) : xs.length < sizeLine := by
  have := len_szs ds
  have := r.length
  simp only [sz] at hz
  rw [sizeLine_eq]
  omega
/-! ### the promises -/
/-- one thing in; a truth of it out; nothing that there was is turned -/
def spT (f : PyData → Bool) : Sp := fun vs H Q _ => ∃ S v d, vs = [v] ∧ IsTh S H v d ∧ sz d ≤ 4000 ∧ ∀ H', Same H H' → Q (.bl (f d)) H'
def spT1 (f : PyData → Int → Bool) : Sp := fun vs H Q _ => ∃ S v d n, vs = [v, .int n] ∧ IsTh S H v d ∧ sz d ≤ 4000 ∧ ∀ H', Same H H' → Q (.bl (f d n)) H'
def spT2 (f : PyData → Int → Int → Bool) : Sp := fun vs H Q _ => ∃ S v d n m, vs = [v, .int n, .int m] ∧ IsTh S H v d ∧ sz d ≤ 4000 ∧ ∀ H', Same H H' → Q (.bl (f d n m)) H'
structure Mg (mg : Str → Option Value) : Prop where
  isinstance : mg "isinstance" = none
  int : mg "int" = none
  bool : mg "bool" = none
  tuple : mg "tuple" = none
  len : mg "len" = none
  all : mg "all" = none
theorem boot_int : bootBuiltins "int" = some (.type "int") := by decide +kernel
theorem boot_bool : bootBuiltins "bool" = some (.type "bool") := by decide +kernel
theorem boot_tuple : bootBuiltins "tuple" = some (.type "tuple") := by decide +kernel
theorem boot_isinstance : bootBuiltins "isinstance" = some (.builtin "isinstance") := by decide +kernel
theorem boot_all : bootBuiltins "all" = some (.builtin "all") := by decide +kernel
/-- all([.. for x in t]) of a tuple of things: read -/
theorem all_things {K : PySem.W.Frag} {S : Addr → Prop} {te : TE} {src : List (Option Nat)} {i j : Nat} {σ : St} {H : Hp} {Q : VK} {a : Addr} {xs : List V} {ds : List PyData} (f : PyData → Bool) (hσ : σ[i]? = some (some (.ref a))) (ea : H a = some (.tup xs)) (r : IsThs S H xs ds) (hl : xs.length < sizeLine)
    (hte : ∀ v d H1 Q1, d ∈ ds → Same H H1 → IsTh S H1 v d → (∀ H', Same H1 H' → Q1 (.bl (f d)) H') → te ((capσ σ src).set j (some v)) H1 Q1) (q : ∀ H', Same H H' → Q (.bl (ds.all f)) H') :
    tCB (fun xs H Q => ∃ (p : Addr) (bs : List Bool), xs = [.ref p] ∧ SqL K H p (bs.map V.bl) ∧ Q (.bl (bs.all id)) H) (tCons (tComp (iTup K (tVar i)) src (gName j) tYes te) tNil) σ H Q := by
  refine ⟨_, hσ, a, rfl, ⟨xs, SqT.of ea⟩, comp_truths (j := j) f ea r hl hte fun H2 s2 D hD => ⟨D, ds.map f, rfl, ?_, ?_⟩⟩
  · rw [← bools_of]
    exact SqL.of upd_same
  · rw [all_of]
    exact q _ (s2.updR hD)
/-- the module's numbers -/
structure Nums (mg : Str → Option Value) : Prop where
  sorts : ∃ t, mg "SORTS" = some (.int 3 t)
  holders : ∃ t, mg "HOLDERS" = some (.int 8 t)
  year : ∃ t, mg "LAST_YEAR" = some (.int 19 t)
  proms : ∃ t, mg "MOST_PROMISES" = some (.int 10 t)
  sacks : ∃ t, mg "MOST_SACKS" = some (.int 99 t)
  price : ∃ t, mg "MOST_PRICE" = some (.int 1000000 t)
theorem wholes_of {d : PyData} {n : Int} (h : wholesD d n = true) : tupOfD d n n = true ∧ ∀ x ∈ items d, wholeD x = true := by
  unfold wholesD at h
  rw [Bool.and_eq_true] at h
  exact ⟨h.1, List.all_eq_true.mp h.2⟩
theorem whole_int {S : Addr → Prop} {H : Hp} {v : V} {d : PyData} (h : IsTh S H v d) (e : wholeD d = true) : ∃ i, v = .int i ∧ d = .int i := by
  cases h with
  | int i => exact ⟨i, rfl, rfl⟩
  | _ => cases e
theorem len_s {α : Type} {n : Nat} {l : List α} (h : l.length = n + 1) : ∃ a t, l = a :: t ∧ t.length = n := by
  cases l with
  | nil => cases h
  | cons a t => exact ⟨a, t, rfl, Nat.succ.inj h⟩
theorem len5 {α : Type} {l : List α} (h : l.length = 5) : ∃ a b c d e, l = [a, b, c, d, e] := by
  obtain ⟨a, l1, e1, h1⟩ := len_s h
  obtain ⟨b, l2, e2, h2⟩ := len_s h1
  obtain ⟨c, l3, e3, h3⟩ := len_s h2
  obtain ⟨d, l4, e4, h4⟩ := len_s h3
  obtain ⟨e, l5, e5, h5⟩ := len_s h4
  exact ⟨a, b, c, d, e, by rw [e1, e2, e3, e4, e5, List.length_eq_zero_iff.mp h5]⟩
theorem len6 {α : Type} {l : List α} (h : l.length = 6) : ∃ a b c d e f, l = [a, b, c, d, e, f] := by
  obtain ⟨a, l1, e1, h1⟩ := len_s h
  obtain ⟨b, c, d, e, f, e2⟩ := len5 h1
  exact ⟨a, b, c, d, e, f, by rw [e1, e2]⟩
theorem ths_cons {S : Addr → Prop} {H : Hp} {xs : List V} {d : PyData} {ds : List PyData} (r : IsThs S H xs (d :: ds)) (e : wholeD d = true) : ∃ i t, xs = .int i :: t ∧ d = .int i ∧ IsThs S H t ds := by
  cases r with
  | cons h1 r =>
    obtain ⟨i, rfl, rfl⟩ := whole_int h1 e
    exact ⟨i, _, rfl, rfl, r⟩
theorem six_ints {S : Addr → Prop} {H : Hp} {xs : List V} {ds : List PyData} (r : IsThs S H xs ds) (hl : ds.length = 6) (hw : ∀ x ∈ ds, wholeD x = true) :
    ∃ i1 i2 i3 i4 i5 i6 : Int, xs = [.int i1, .int i2, .int i3, .int i4, .int i5, .int i6] ∧ ds = [.int i1, .int i2, .int i3, .int i4, .int i5, .int i6] := by
  obtain ⟨d1, d2, d3, d4, d5, d6, rfl⟩ := len6 hl
  obtain ⟨i1, t1, e1, rfl, r1⟩ := ths_cons r (hw _ (by simp))
  obtain ⟨i2, t2, e2, rfl, r2⟩ := ths_cons r1 (hw _ (by simp))
  obtain ⟨i3, t3, e3, rfl, r3⟩ := ths_cons r2 (hw _ (by simp))
  obtain ⟨i4, t4, e4, rfl, r4⟩ := ths_cons r3 (hw _ (by simp))
  obtain ⟨i5, t5, e5, rfl, r5⟩ := ths_cons r4 (hw _ (by simp))
  obtain ⟨i6, t6, e6, rfl, r6⟩ := ths_cons r5 (hw _ (by simp))
  cases r6
  exact ⟨i1, i2, i3, i4, i5, i6, by rw [e1, e2, e3, e4, e5, e6], rfl⟩
theorem tupOf_len {ds : List PyData} {n m : Int} (h : tupOfD (.tuple ds) n m = true) : n ≤ (ds.length : Int) ∧ (ds.length : Int) ≤ m := by
  have h : (true && (decide (n ≤ (ds.length : Int)) && decide ((ds.length : Int) ≤ m))) = true := h
  rw [Bool.true_and, Bool.and_eq_true] at h
  exact ⟨of_decide_eq_true h.1, of_decide_eq_true h.2⟩
/-- a def that may be called by its name -/
def Cal (P : Program) (w : World) (K : PySem.W.Frag) (mg : Str → Option Value) (base : Heap) (k : Nat) (x : Str) (ps : List Str) (sp : Sp) : Prop :=
  ∃ f fd, FnOk P w K mg base CX0 k f fd ps sp ∧ mg x = some (.ref f) ∧ PySem.W.keepIn K (.ref f) = true ∧ Binds K fd ps []
theorem pe_cal {X : Cx} {k j : Nat} {x : Str} {ps : List Str} {sp : Sp} {p pos : Pos} {e : Expr} {es : List Expr} {t : TA} (c : Cal X.prog X.w X.K X.mg X.base j x ps sp) (hr : Room k X.A) (hjk : j ≤ k) (hg : Gl X x) (ha : PA X (e :: es) t)
    (hdb : (x == ("__debug__" : Str)) = false := by decide) (he : starEach (e :: es) X.env = (false, eval e X.env) :: starEach es X.env := by rfl) (hpl : (backTo pos (starEach es X.env)).any (·.1) = false := by rfl) :
    PE X (.Call (.Name x p) (e :: es) [] pos) (tCall sp [] E0 t) := by
  obtain ⟨f, fd, F, hm, hk, hb⟩ := c
  exact pe_call F (hr.mono hjk) hg hm hk hb .nil pass0 ha hdb he hpl
section
variable {P : Program} {w : World} {K : PySem.W.Frag} {mg : Str → Option Value} {base : Heap}
/-! ### is_whole -/
theorem sc1 : FnScope ["thing"] ["thing"] (defScope (top 20)) := ⟨rfl, rfl, rfl, by decide +kernel, rfl, by decide +kernel, by decide +kernel⟩
theorem ok_is_whole {f : Addr} {fd : FuncData} (F : Fun K "is_whole" "is_whole" (top 20) f fd) (T : Mg mg) : FnOk P w K mg base CX0 1 f fd ["thing"] (spT wholeD) := by
  refine F.ok sc1 (fun vs H Q E h => ?_) (fun cdv A outer s H vs Q E hr h => ?_)
  · obtain ⟨S, v, d, rfl, _⟩ := h
    rfl
  · obtain ⟨S, v, d, rfl, th, hz, q⟩ := h
    refine ⟨_, pss_one (ps_ret (pe_and (pe_callB call_isinst rfl T.isinstance boot_isinstance (pa_cons (pv 0) (pa_cons (pe_bltn rfl T.int boot_int (v := .ty "int") rfl) pa_nil)))
      (pe_one (pe_not (pe_callB call_isinst rfl T.isinstance boot_isinstance (pa_cons (pv 0) (pa_cons (pe_bltn rfl T.bool boot_bool (v := .ty "bool") rfl) pa_nil))))))), ?_⟩
    refine ⟨_, rfl, v, _, "int", isIntD d, rfl, th.ty, kit_int d, _, rfl, ?_⟩
    have fin := q H (Same.refl H)
    unfold wholeD at fin
    cases e : isIntD d with
    | false =>
      rw [e] at fin
      exact iteF fin
    | true =>
      rw [e] at fin
      exact iteT ⟨_, rfl, v, _, "bool", isBoolD d, rfl, th.ty, kit_bool d, _, rfl, fin⟩
/-! ### is_tuple_of -/
theorem sc2 : FnScope ["thing", "fewest", "most"] ["thing", "fewest", "most"] (defScope (top 21)) := ⟨rfl, rfl, rfl, by decide +kernel, rfl, by decide +kernel, by decide +kernel⟩
theorem ok_is_tuple_of {f : Addr} {fd : FuncData} (F : Fun K "is_tuple_of" "is_tuple_of" (top 21) f fd) (T : Mg mg) : FnOk P w K mg base CX0 1 f fd ["thing", "fewest", "most"] (spT2 tupOfD) := by
  refine F.ok sc2 (fun vs H Q E h => ?_) (fun cdv A outer s H vs Q E hr h => ?_)
  · obtain ⟨S, v, d, n, m, rfl, _⟩ := h
    rfl
  · obtain ⟨S, v, d, n, m, rfl, th, hz, q⟩ := h
    refine ⟨_, pss_one (ps_ret (pe_and (pe_callB call_isinst rfl T.isinstance boot_isinstance (pa_cons (pv 0) (pa_cons (pe_bltn rfl T.tuple boot_tuple (v := .ty "tuple") rfl) pa_nil)))
      (pe_one (pe_chain op_le op_le (pv 1) (pe_callB call_len_seq rfl T.len PySem.boot_len (pa_cons (pv 0) pa_nil)) (pv 2))))), ?_⟩
    refine ⟨_, rfl, v, _, "tuple", isTupD d, rfl, th.ty, kit_tup d, _, rfl, ?_⟩
    have fin := q H (Same.refl H)
    unfold tupOfD at fin
    cases e : isTupD d with
    | false =>
      rw [e] at fin
      exact iteF fin
    | true =>
      rw [e] at fin
      refine iteT ?_
      cases th with
      | @tup a xs ds ea r =>
        have hl := r.length
        refine ⟨_, rfl, _, rfl, a, xs, rfl, .inr (SqT.of ea), _, _, rfl, rfl, _, rfl, ?_⟩
        rw [hl]
        have fin : Q (.bl (true && (decide (n ≤ (ds.length : Int)) && decide ((ds.length : Int) ≤ m)))) H := fin
        cases e1 : decide (n ≤ (ds.length : Int)) with
        | false =>
          rw [e1] at fin
          exact iteF fin
        | true =>
          rw [e1] at fin
          exact iteT ⟨_, rfl, _, _, rfl, rfl, fin⟩
      | _ => cases e
/-! ### are_wholes -/
theorem sc3 : FnScope ["thing", "many"] ["thing", "many"] (defScope (top 22)) := ⟨rfl, rfl, rfl, by decide +kernel, rfl, by decide +kernel, by decide +kernel⟩
theorem ok_are_wholes {f : Addr} {fd : FuncData} (F : Fun K "are_wholes" "are_wholes" (top 22) f fd) (T : Mg mg) (c1 : Cal P w K mg base 1 "is_whole" ["thing"] (spT wholeD)) (c2 : Cal P w K mg base 1 "is_tuple_of" ["thing", "fewest", "most"] (spT2 tupOfD)) :
    FnOk P w K mg base CX0 2 f fd ["thing", "many"] (spT1 wholesD) := by
  refine F.ok sc3 (fun vs H Q E h => ?_) (fun cdv A outer s H vs Q E hr h => ?_)
  · obtain ⟨S, v, d, n, rfl, _⟩ := h
    rfl
  · obtain ⟨S, v, d, n, rfl, th, hz, q⟩ := h
    refine ⟨_, pss_one (ps_ret (pe_and (pe_cal c2 hr (Nat.le_refl _) rfl (pa_cons (pv 0) (pa_cons (pv 1) (pa_cons (pv 1) pa_nil))))
      (pe_one (pe_callB (call_all rfl) rfl T.all boot_all (pa_cons (pe_comp ["part"] [none] rfl (pi_tup (pv 0))
        (fun C fp pins s₂ H₂ => ⟨pg_name (i := 0) (nd1 _) rfl (Or.inl rfl), pts_nil, pe_cal c1 hr (Nat.le_refl _) rfl (pa_cons (pv 0) pa_nil)⟩) (fun C => trivial) ⟨rfl, rfl, rfl, rfl⟩) pa_nil))))), ?_⟩
    refine ⟨_, rfl, _, rfl, _, rfl, S, v, d, n, n, rfl, th, hz, fun H1 s1 => ⟨_, rfl, ?_⟩⟩
    have th1 := th.same s1
    cases e : tupOfD d n n with
    | false =>
      refine iteF ?_
      have fin := q H1 s1
      unfold wholesD at fin
      rw [e] at fin
      exact fin
    | true =>
      refine iteT ?_
      cases th1 with
      | @tup a xs ds ea r =>
        have ew : wholesD (.tuple ds) n = ds.all wholeD := by unfold wholesD; rw [e]; rfl
        refine all_things wholeD rfl ea r (len_line r hz) (fun v d H2 Q2 hm s2 t2 q2 => ⟨_, rfl, S, v, d, rfl, t2, in_sz hm hz, q2⟩) fun H2 s2 => ?_
        rw [← ew]
        exact q _ (s1.trans s2)
      | _ => cases e
/-! ### is_clip -/
/-! ### are_clips -/
/-! ### is_promise -/
theorem sc15 : FnScope ["thing", "holder", "sort", "first", "last", "sacks", "price"] ["thing"] (defScope (top 31)) := ⟨rfl, rfl, rfl, by decide +kernel, rfl, by decide +kernel, by decide +kernel⟩
theorem ok_is_promise {f : Addr} {fd : FuncData} (F : Fun K "is_promise" "is_promise" (top 31) f fd) (T : Mg mg) (N : Nums mg) (c1 : Cal P w K mg base 2 "are_wholes" ["thing", "many"] (spT1 wholesD)) :
    FnOk P w K mg base CX0 3 f fd ["thing"] (spT promD) := by
  refine F.ok sc15 (fun vs H Q E h => ?_) (fun cdv A outer s H vs Q E hr h => ?_)
  · obtain ⟨S, v, d, rfl, _⟩ := h
    rfl
  · obtain ⟨S, v, d, rfl, th, hz, q⟩ := h
    obtain ⟨t1, e1⟩ := N.holders
    obtain ⟨t2, e2⟩ := N.sorts
    obtain ⟨t3, e3⟩ := N.year
    obtain ⟨t4, e4⟩ := N.sacks
    obtain ⟨t5, e5⟩ := N.price
    refine ⟨_, pss_cons (ps_if (pt_not (pt_val (pe_cal c1 hr (Nat.le_refl _) rfl (pa_cons (pv 0) (pa_cons pe_int pa_nil))))) (pss_one (ps_ret pe_bl)) pss_nil)
      (pss_cons (ps_asg (pv 0) (pg_tup rfl (pgs_cons (pg_name (i := 1) sc15.nd rfl (Or.inl rfl)) (pgs_cons (pg_name (i := 2) sc15.nd rfl (Or.inl rfl)) (pgs_cons (pg_name (i := 3) sc15.nd rfl (Or.inl rfl))
        (pgs_cons (pg_name (i := 4) sc15.nd rfl (Or.inl rfl)) (pgs_cons (pg_name (i := 5) sc15.nd rfl (Or.inl rfl)) (pgs_cons (pg_name (i := 6) sc15.nd rfl (Or.inl rfl)) pgs_nil))))))))
      (pss_one (ps_ret (pe_and (pe_chain op_le op_lt pe_int (pv 1) (pe_glob (v := .int 8) rfl e1 ⟨_, rfl⟩)) (pe_and (pe_chain op_le op_lt pe_int (pv 2) (pe_glob (v := .int 3) rfl e2 ⟨_, rfl⟩))
        (pe_and (pe_chain3 op_le op_le op_le pe_int (pv 3) (pv 4) (pe_glob (v := .int 19) rfl e3 ⟨_, rfl⟩)) (pe_and (pe_chain op_le op_le pe_int (pv 5) (pe_glob (v := .int 99) rfl e4 ⟨_, rfl⟩))
          (pe_one (pe_chain op_le op_le pe_int (pv 6) (pe_glob (v := .int 1000000) rfl e5 ⟨_, rfl⟩)))))))))), ?_⟩
    refine ⟨_, rfl, S, v, d, 6, rfl, th, hz, fun H1 s1 => ⟨_, rfl, ?_⟩⟩
    have th1 := th.same s1
    have fin := fun H' (s : Same H H') => q H' s
    unfold promD at fin
    cases e : wholesD d 6 with
    | false =>
      rw [e] at fin
      exact iteT (fin _ s1)
    | true =>
      rw [e] at fin
      refine iteF ?_
      obtain ⟨z1, z2⟩ := wholes_of e
      cases th1 with
      | @tup a xs ds ea r =>
        have hl : ds.length = 6 := by
          have := tupOf_len z1
          omega
        obtain ⟨i1, i2, i3, i4, i5, i6, rfl, rfl⟩ := six_ints r hl z2
        refine ⟨_, rfl, a, _, rfl, SqT.of ea, rfl, _, _, rfl, _, _, rfl, _, _, rfl, _, _, rfl, _, _, rfl, _, _, rfl, rfl, ?_⟩
        refine ev_and (ev_chain ev_c (ev_v rfl) ev_c) (fun _ => ev_and (ev_chain ev_c (ev_v rfl) ev_c) fun _ => ev_and (ev_chain3 ev_c (ev_v rfl) (ev_v rfl) ev_c) fun _ => ev_and (ev_chain ev_c (ev_v rfl) ev_c) fun _ => ev_chain ev_c (ev_v rfl) ev_c) _ ?_
        exact fin H1 s1
      | _ => cases z1
/-! ### are_promises -/
theorem sc16 : FnScope ["thing"] ["thing"] (defScope (top 32)) := ⟨rfl, rfl, rfl, by decide +kernel, rfl, by decide +kernel, by decide +kernel⟩
theorem ok_are_promises {f : Addr} {fd : FuncData} (F : Fun K "are_promises" "are_promises" (top 32) f fd) (T : Mg mg) (N : Nums mg) (c1 : Cal P w K mg base 3 "is_promise" ["thing"] (spT promD)) (c2 : Cal P w K mg base 1 "is_tuple_of" ["thing", "fewest", "most"] (spT2 tupOfD)) :
    FnOk P w K mg base CX0 4 f fd ["thing"] (spT promsD) := by
  refine F.ok sc16 (fun vs H Q E h => ?_) (fun cdv A outer s H vs Q E hr h => ?_)
  · obtain ⟨S, v, d, rfl, _⟩ := h
    rfl
  · obtain ⟨S, v, d, rfl, th, hz, q⟩ := h
    obtain ⟨t3, e3⟩ := N.proms
    refine ⟨_, pss_one (ps_ret (pe_and (pe_cal c2 hr (by decide) rfl (pa_cons (pv 0) (pa_cons pe_int (pa_cons (pe_glob (v := .int 10) rfl e3 ⟨_, rfl⟩) pa_nil))))
      (pe_one (pe_callB (call_all rfl) rfl T.all boot_all (pa_cons (pe_comp ["part"] [none] rfl (pi_tup (pv 0))
        (fun C fp pins s₂ H₂ => ⟨pg_name (i := 0) (nd1 _) rfl (Or.inl rfl), pts_nil, pe_cal c1 hr (by decide) rfl (pa_cons (pv 0) pa_nil)⟩) (fun C => trivial) ⟨rfl, rfl, rfl, rfl⟩) pa_nil))))), ?_⟩
    refine ⟨_, rfl, S, v, d, 0, 10, rfl, th, hz, fun H1 s1 => ⟨_, rfl, ?_⟩⟩
    have th1 := th.same s1
    have fin := fun H' (s : Same H H') => q H' s
    unfold promsD at fin
    cases e : tupOfD d 0 10 with
    | false =>
      rw [e] at fin
      exact iteF (fin _ s1)
    | true =>
      rw [e] at fin
      refine iteT ?_
      cases th1 with
      | @tup a xs ds ea r => exact all_things promD rfl ea r (len_line r hz) (fun v d H2 Q2 hm s2 t2 q2 => ⟨_, rfl, S, v, d, rfl, t2, in_sz hm hz, q2⟩) fun H2 s2 => fin _ (s1.trans s2)
      | _ => cases e
end
end K02

set_option Elab.async false
set_option linter.all false
set_option maxRecDepth 100000
set_option maxHeartbeats 400000
namespace K02
open PySem L2
def betD (d : PyData) (lo hi : Int) : Bool := wholeD d && (decide (lo ≤ intOf d) && decide (intOf d ≤ hi))
def bounds : List PyData := [.tuple [.int 0, .int 7], .tuple [.int 0, .int 2], .tuple [.int 0, .int 19], .tuple [.int 0, .int 19], .tuple [.int 1, .int 99], .tuple [.int 0, .int 1000000]]
def betT (d e : PyData) : Bool := betD d (at_ e 0) (at_ e 1)
def lpromD (d : PyData) : Bool := isTupD d && (decide ((items d).length = 6) && ((List.zipWith betT (items d) bounds).all id && decide (at_ d 2 ≤ at_ d 3)))
def lpromsD (d : PyData) : Bool := isTupD d && (decide ((items d).length ≤ 10) && (items d).all lpromD)
theorem two_of {S : Addr → Prop} {H : Hp} {z : V} {lo hi : Int} (h : IsTh S H z (.tuple [.int lo, .int hi])) : ∃ t, z = .ref t ∧ H t = some (.tup [.int lo, .int hi]) := by
  cases h with
  | @tup a xs ds e r =>
    cases r with
    | cons h1 r => cases r with
      | cons h2 r =>
        cases r
        cases h1
        cases h2
        exact ⟨a, rfl, e⟩
theorem in_bounds {e : PyData} (h : e ∈ bounds) : ∃ lo hi, e = .tuple [.int lo, .int hi] := by
  simp only [bounds, List.mem_cons, List.not_mem_nil, or_false] at h
  rcases h with z | z | z | z | z | z <;> exact ⟨_, _, z⟩
section
variable {P : Program} {w : World} {K : PySem.W.Frag} {mg : Str → Option Value} {base : Heap}
/-! ### _law_whole -/
theorem sc23 : FnScope ["_law_thing"] ["_law_thing"] (defScope (top 51)) := ⟨rfl, rfl, rfl, by decide +kernel, rfl, by decide +kernel, by decide +kernel⟩
theorem ok_lwhole {f : Addr} {fd : FuncData} (F : Fun K "_law_whole" "_law_whole" (top 51) f fd) (T : Mg mg) : FnOk P w K mg base CX0 1 f fd ["_law_thing"] (spT wholeD) := by
  refine F.ok sc23 (fun vs H Q E h => ?_) (fun cdv A outer s H vs Q E hr h => ?_)
  · obtain ⟨S, v, d, rfl, _⟩ := h
    rfl
  · obtain ⟨S, v, d, rfl, th, hz, q⟩ := h
    refine ⟨_, pss_one (ps_ret (pe_and (pe_callB call_isinst rfl T.isinstance boot_isinstance (pa_cons (pv 0) (pa_cons (pe_bltn rfl T.int boot_int (v := .ty "int") rfl) pa_nil)))
      (pe_one (pe_not (pe_callB call_isinst rfl T.isinstance boot_isinstance (pa_cons (pv 0) (pa_cons (pe_bltn rfl T.bool boot_bool (v := .ty "bool") rfl) pa_nil))))))), ?_⟩
    exact ev_and (b := isIntD d) (c := !isBoolD d) (fun Q h => ⟨_, rfl, v, _, "int", isIntD d, rfl, th.ty, kit_int d, h⟩) (fun _ Q h => ⟨_, rfl, v, _, "bool", isBoolD d, rfl, th.ty, kit_bool d, _, rfl, h⟩) _ (q H (Same.refl H))
/-! ### _law_between -/
theorem sc24 : FnScope ["_law_thing", "_law_low", "_law_high"] ["_law_thing", "_law_low", "_law_high"] (defScope (top 52)) := ⟨rfl, rfl, rfl, by decide +kernel, rfl, by decide +kernel, by decide +kernel⟩
theorem ok_lbetween {f : Addr} {fd : FuncData} (F : Fun K "_law_between" "_law_between" (top 52) f fd) (c1 : Cal P w K mg base 1 "_law_whole" ["_law_thing"] (spT wholeD)) : FnOk P w K mg base CX0 2 f fd ["_law_thing", "_law_low", "_law_high"] (spT2 betD) := by
  refine F.ok sc24 (fun vs H Q E h => ?_) (fun cdv A outer s H vs Q E hr h => ?_)
  · obtain ⟨S, v, d, n, m, rfl, _⟩ := h
    rfl
  · obtain ⟨S, v, d, n, m, rfl, th, hz, q⟩ := h
    refine ⟨_, pss_one (ps_ret (pe_and (pe_cal c1 hr (Nat.le_refl _) rfl (pa_cons (pv 0) pa_nil)) (pe_one (pe_chain op_le op_le (pv 1) (pv 0) (pv 2))))), ?_⟩
    refine ⟨_, rfl, S, v, d, rfl, th, hz, fun H1 s1 => ⟨_, rfl, ?_⟩⟩
    have fin := q H1 s1
    unfold betD at fin
    cases e : wholeD d with
    | false =>
      rw [e] at fin
      exact iteF fin
    | true =>
      rw [e] at fin
      obtain ⟨i, rfl, rfl⟩ := whole_int th e
      exact iteT (ev_chain (ev_v rfl) (ev_v rfl) (ev_v rfl) _ fin)
/-! ### _law_is_clip -/
/-! ### _law_are_clips -/
/-! ### _law_is_promise -/
theorem sc27 : FnScope ["_law_thing", "_law_tops"] ["_law_thing"] (defScope (top 53)) := ⟨rfl, rfl, rfl, by decide +kernel, rfl, by decide +kernel, by decide +kernel⟩
theorem nd3 : (["_law_one", "_law_low", "_law_high"] : List Str).Nodup := by decide +kernel
theorem ok_lis_promise {f : Addr} {fd : FuncData} (F : Fun K "_law_is_promise" "_law_is_promise" (top 53) f fd) (T : Mg mg) (Tz : mg "zip" = none) (c1 : Cal P w K mg base 2 "_law_between" ["_law_thing", "_law_low", "_law_high"] (spT2 betD)) :
    FnOk P w K mg base CX0 3 f fd ["_law_thing"] (spT lpromD) := by
  refine F.ok sc27 (fun vs H Q E h => ?_) (fun cdv A outer s H vs Q E hr h => ?_)
  · obtain ⟨S, v, d, rfl, _⟩ := h
    rfl
  · obtain ⟨S, v, d, rfl, th, hz, q⟩ := h
    refine ⟨_, pss_b (bss_cons ⟨ps_if (PW.pt (pw_or (pt_not (pt_val (pe_callB call_isinst rfl T.isinstance boot_isinstance (pa_c (pv 0) (pa_c (pe_bltn rfl T.tuple boot_tuple (v := .ty "tuple") rfl) pa_nil)))))
        (pw_or1 (pt_cmpR op_ne (pe_callB call_len_seq rfl T.len PySem.boot_len (pa_c (pv 0) pa_nil)) pe_int (nomark _))))) (pss_one (ps_ret pe_bl)) pss_nil⟩
      (bss_cons (bs_set (i := 1) sc27.nd rfl (Or.inl rfl) (be_lst (ab_c be_two (ab_c be_two (ab_c be_two (ab_c be_two (ab_c be_two (ab_c be_twoP aa_nil))))))))
      (bss_cons ⟨ps_if (pt_not (pt_val (pe_callB (call_all rfl) rfl T.all boot_all (pa_c (pe_comp (g := gTup K 2 (gCons (gName 0) (gCons (gTup K 2 (gCons (gName 1) (gCons (gName 2) gNil))) gNil))) ["_law_one", "_law_low", "_law_high"] [none, none, none] rfl (pi_zip rfl Tz (pa_c (pv 0) (pa_c (pv 1) pa_nil)))
        (fun C fp pins s₂ H₂ => ⟨pg_tupK rfl rfl (pgs_cons (pg_name (i := 0) nd3 rfl (Or.inl rfl) (Or.inr rfl)) (pgs_cons (pg_tupK rfl rfl (pgs_cons (pg_name (i := 1) nd3 rfl (Or.inl rfl) (Or.inr rfl)) (pgs_cons (pg_name (i := 2) nd3 rfl (Or.inl rfl) (Or.inr rfl)) pgs_nil))) pgs_nil)), pts_nil,
          pe_cal c1 hr (by decide) rfl (pa_c (pv 0) (pa_c (pv 1) (pa_c (pv 2) pa_nil)))⟩) (fun C => trivial) ⟨rfl, rfl, rfl, rfl⟩) pa_nil)))) (pss_one (ps_ret pe_bl)) pss_nil⟩
      (bss_one ⟨ps_ret (pe_cmpR op_le (pe_ix ix_tup (pv 0) pe_int (fun _ _ => rfl)) (pe_ix ix_tup (pv 0) pe_int (fun _ _ => rfl)) (nomark _))⟩)))), ?_⟩
    have fin := fun H' (s : Same H H') => q H' s
    unfold lpromD at fin
    refine ⟨_, rfl, v, _, "tuple", isTupD d, rfl, th.ty, kit_tup d, _, rfl, ?_⟩
    cases e : isTupD d with
    | false =>
      rw [e] at fin
      exact iteT (iteT (fin H (Same.refl H)))
    | true =>
      rw [e] at fin
      refine iteF ?_
      cases th with
      | @tup a xs ds ea r =>
        have hl := r.length
        refine ⟨_, rfl, a, xs, rfl, .inr (SqT.of ea), rfl, _, rfl, ?_⟩
        have fin : ∀ H', Same H H' → Q (.bl (true && (decide (ds.length = 6) && ((List.zipWith betT ds bounds).all id && decide (at_ (.tuple ds) 2 ≤ at_ (.tuple ds) 3))))) H' := fin
        by_cases e3 : ds.length = 6
        · refine iteNS (by rw [hl, e3] <;> rfl) ?_
          rw [decide_eq_true e3] at fin
          -- the bounds
          have two : ∀ {i j : Int} {σ : St}, ThE (fun _ => False) σ H (tTup (tInts [i, j])) (.tuple [.int i, .int j]) := fun {i j σ} => th_tup (th_ints [i, j]) (by show 2 ≤ 4000; decide)
          have twoP : ∀ {σ : St}, ThE (fun _ => False) σ H (tTup (tCons (tC (.int 0)) (tCons (tOp (rI CPow fun i j => .int (i ^ j.toNat)) (tC (.int 10)) (tC (.int 6))) tNil))) (.tuple [.int 0, .int 1000000]) := fun {σ} =>
            th_tup (th_cons th_int (th_cons (th_ev (i := 1000000) fun H' => ev_opC (g := fun i j => V.int (i ^ j.toNat)) ev_c ev_c ⟨by decide, by decide, by decide⟩) th_nil)) (by show 2 ≤ 4000; decide)
          refine rd_next ?_
          dsimp only
          refine rd_seq ?_
          refine rd_asg ?_
          refine rd_lst ?_
          refine th_cons two (th_cons two (th_cons two (th_cons two (th_cons two (th_cons twoP th_nil))))) H (Same.refl H) _ fun zs H1 s1 t1 => ?_
          have t1 : IsThs (fun _ => False) H1 zs bounds := t1
          refine ⟨by rw [t1.length]; show 6 ≤ sizeLine; decide, fun l hl' => ?_⟩
          have s2 : Same H (upd H1 l (.lst zs)) := s1.updR hl'
          have ea2 := s2 _ _ ea
          refine ⟨_, rfl, _, rfl, a, l, xs, zs, rfl, SqT.of ea2, SqL.of upd_same, comp_zip betT (fun σ => ∃ x y z, σ = [x, y, z]) ⟨_, _, _, rfl⟩ ea2 upd_same (r.same s2) (t1.same (Same.upd hl')) e3 (len_line r hz) ?_ fun H3 s3 D hD => ⟨D, List.zipWith betT ds bounds, rfl, SqL.of upd_same, _, rfl, ?_⟩⟩
          · rintro T x z dx dz σ H3 R hd he ⟨y1, y2, y3, rfl⟩ s3 eT tx tz hR
            obtain ⟨lo, hi, rfl⟩ := in_bounds he
            obtain ⟨t, rfl, et⟩ := two_of tz
            refine ⟨T, _, rfl, SqT.of eT, rfl, _, _, rfl, _, _, rfl, ⟨t, _, rfl, SqT.of et, rfl, _, _, rfl, _, _, rfl, rfl, rfl, ?_⟩⟩
            exact ⟨_, rfl, _, rfl, _, rfl, S, x, dx, lo, hi, rfl, tx, in_sz hd hz, fun H4 s4 => hR _ _ ⟨_, _, _, rfl⟩ s4⟩
          · have s4 : Same H (upd H3 D (.lst ((List.zipWith betT ds bounds).map V.bl))) := (s2.trans s3).updR hD
            cases e5 : (List.zipWith betT ds bounds).all id with
            | false =>
              rw [e5] at fin
              exact iteT (fin _ s4)
            | true =>
              rw [e5] at fin
              refine iteF ?_
              have hw : ∀ x ∈ ds, wholeD x = true := fun x hx => by
                obtain ⟨i, hi, rfl⟩ := List.getElem_of_mem hx
                have hb : i < bounds.length := by
                  rw [e3] at hi
                  exact hi
                have := List.all_eq_true.mp e5 (betT ds[i] bounds[i]) (List.mem_of_getElem? (i := i) (by rw [List.getElem?_zipWith, List.getElem?_eq_getElem hi, List.getElem?_eq_getElem hb]))
                have this : (wholeD ds[i] && _) = true := this
                rw [Bool.and_eq_true] at this
                exact this.1
              obtain ⟨i1, i2, i3, i4, i5, i6, rfl, rfl⟩ := six_ints r e3 hw
              have ea4 := s4 _ _ ea
              refine ⟨_, rfl, a, _, 2, .int i3, rfl, rfl, SqT.of ea4, rfl, _, rfl, a, _, 3, .int i4, rfl, rfl, SqT.of ea4, rfl, _, _, rfl, rfl, fin _ s4⟩
        · rw [decide_eq_false e3] at fin
          have ne : ¬ (V.int (xs.length : Int) = V.int 6) := fun z => by
            injection z with z
            omega
          rw [decide_eq_false ne]
          exact iteT (fin H (Same.refl H))
      | _ => cases e
/-! ### _law_are_promises -/
theorem sc28 : FnScope ["_law_thing"] ["_law_thing"] (defScope (top 54)) := ⟨rfl, rfl, rfl, by decide +kernel, rfl, by decide +kernel, by decide +kernel⟩
theorem ok_lare_promises {f : Addr} {fd : FuncData} (F : Fun K "_law_are_promises" "_law_are_promises" (top 54) f fd) (T : Mg mg) (c1 : Cal P w K mg base 3 "_law_is_promise" ["_law_thing"] (spT lpromD)) :
    FnOk P w K mg base CX0 4 f fd ["_law_thing"] (spT lpromsD) := by
  refine F.ok sc28 (fun vs H Q E h => ?_) (fun cdv A outer s H vs Q E hr h => ?_)
  · obtain ⟨S, v, d, rfl, _⟩ := h
    rfl
  · obtain ⟨S, v, d, rfl, th, hz, q⟩ := h
    refine ⟨_, pss_cons (ps_if (PW.pt (pw_or (pt_not (pt_val (pe_callB call_isinst rfl T.isinstance boot_isinstance (pa_c (pv 0) (pa_c (pe_bltn rfl T.tuple boot_tuple (v := .ty "tuple") rfl) pa_nil)))))
        (pw_or1 (pt_cmpR op_gt (pe_callB call_len_seq rfl T.len PySem.boot_len (pa_c (pv 0) pa_nil)) pe_int (nomark _))))) (pss_one (ps_ret pe_bl)) pss_nil)
      (pss_one (ps_ret (pe_callB (call_all rfl) rfl T.all boot_all (pa_c (pe_comp ["_law_one"] [none] rfl (pi_tup (pv 0))
        (fun C fp pins s₂ H₂ => ⟨pg_name (i := 0) (nd1 _) rfl (Or.inl rfl), pts_nil, pe_cal c1 hr (by decide) rfl (pa_c (pv 0) pa_nil)⟩) (fun C => trivial) ⟨rfl, rfl, rfl, rfl⟩) pa_nil)))), ?_⟩
    have fin := fun H' (s : Same H H') => q H' s
    unfold lpromsD at fin
    refine ⟨_, rfl, v, _, "tuple", isTupD d, rfl, th.ty, kit_tup d, _, rfl, ?_⟩
    cases e : isTupD d with
    | false =>
      rw [e] at fin
      exact iteT (iteT (fin H (Same.refl H)))
    | true =>
      rw [e] at fin
      refine iteF ?_
      cases th with
      | @tup a xs ds ea r =>
        have hl := r.length
        refine ⟨_, rfl, a, xs, rfl, .inr (SqT.of ea), _, _, rfl, rfl, _, rfl, ?_⟩
        have fin : ∀ H', Same H H' → Q (.bl (true && (decide (ds.length ≤ 10) && ds.all lpromD))) H' := fin
        by_cases e3 : ds.length ≤ 10
        · rw [decide_eq_true e3] at fin
          rw [decide_eq_false (by omega)]
          refine iteF ?_
          exact all_things lpromD rfl ea r (len_line r hz) (fun v d H2 Q2 hm s2 t2 q2 => ⟨_, rfl, S, v, d, rfl, t2, in_sz hm hz, q2⟩) fin
        · rw [decide_eq_false e3] at fin
          rw [decide_eq_true (by omega)]
          exact iteT (fin H (Same.refl H))
      | _ => cases e
end
end K02

set_option Elab.async false
set_option linter.all false
set_option maxRecDepth 100000
namespace K02
open PySem L2
theorem whole_cases (d : PyData) : (∃ i, d = .int i) ∨ wholeD d = false := by
  cases d with
  | int i => exact .inl ⟨i, rfl⟩
  | _ => exact .inr rfl
theorem prom_eq (d : PyData) : promD d = lpromD d := by
  cases d with
  | tuple ds =>
    have e1 : promD (.tuple ds) = (((decide ((6 : Int) ≤ (ds.length : Int)) && decide ((ds.length : Int) ≤ 6)) && ds.all wholeD) && promOk (at_ (.tuple ds) 0) (at_ (.tuple ds) 1) (at_ (.tuple ds) 2) (at_ (.tuple ds) 3) (at_ (.tuple ds) 4) (at_ (.tuple ds) 5)) := rfl
    have e2 : lpromD (.tuple ds) = (decide (ds.length = 6) && ((List.zipWith betT ds bounds).all id && decide (at_ (.tuple ds) 2 ≤ at_ (.tuple ds) 3))) := rfl
    rw [e1, e2]
    have e3 : (decide ((6 : Int) ≤ (ds.length : Int)) && decide ((ds.length : Int) ≤ 6)) = decide (ds.length = 6) := by
      rw [← Bool.decide_and]
      exact decide_eq_decide.mpr (by omega)
    rw [e3]
    by_cases hl : ds.length = 6
    · rw [decide_eq_true hl, Bool.true_and, Bool.true_and]
      obtain ⟨d1, d2, d3, d4, d5, d6, rfl⟩ := len6 hl
      have e4 : (List.zipWith betT [d1, d2, d3, d4, d5, d6] bounds).all id = (betD d1 0 7 && (betD d2 0 2 && (betD d3 0 19 && (betD d4 0 19 && (betD d5 1 99 && (betD d6 0 1000000 && true)))))) := rfl
      have e5 : [d1, d2, d3, d4, d5, d6].all wholeD = (wholeD d1 && (wholeD d2 && (wholeD d3 && (wholeD d4 && (wholeD d5 && (wholeD d6 && true)))))) := rfl
      rw [e4, e5]
      unfold betD
      rcases whole_cases d1 with ⟨i1, rfl⟩ | z
      · rcases whole_cases d2 with ⟨i2, rfl⟩ | z
        · rcases whole_cases d3 with ⟨i3, rfl⟩ | z
          · rcases whole_cases d4 with ⟨i4, rfl⟩ | z
            · rcases whole_cases d5 with ⟨i5, rfl⟩ | z
              · rcases whole_cases d6 with ⟨i6, rfl⟩ | z
                · show (true && promOk i1 i2 i3 i4 i5 i6) = ((true && (decide (0 ≤ i1) && decide (i1 ≤ 7))) && ((true && (decide (0 ≤ i2) && decide (i2 ≤ 2))) && ((true && (decide (0 ≤ i3) && decide (i3 ≤ 19))) && ((true && (decide (0 ≤ i4) && decide (i4 ≤ 19))) && ((true && (decide (1 ≤ i5) && decide (i5 ≤ 99))) && ((true && (decide (0 ≤ i6) && decide (i6 ≤ 1000000))) && true))))) && decide (i3 ≤ i4))
                  unfold promOk
                  simp only [Bool.true_and, Bool.and_true]
                  apply Bool.eq_iff_iff.mpr
                  simp only [Bool.and_eq_true, decide_eq_true_eq]
                  omega
                · rw [z]; simp
              · rw [z]; simp
            · rw [z]; simp
          · rw [z]; simp
        · rw [z]; simp
      · rw [z]; simp
    · rw [decide_eq_false hl, Bool.false_and, Bool.false_and, Bool.false_and]
  | _ => rfl
theorem proms_eq (d : PyData) : promsD d = lpromsD d := by
  cases d with
  | tuple ds =>
    have e1 : promsD (.tuple ds) = ((decide ((0 : Int) ≤ (ds.length : Int)) && decide ((ds.length : Int) ≤ 10)) && ds.all promD) := rfl
    have e2 : lpromsD (.tuple ds) = (decide (ds.length ≤ 10) && ds.all lpromD) := rfl
    rw [e1, e2]
    have e3 : (decide ((0 : Int) ≤ (ds.length : Int)) && decide ((ds.length : Int) ≤ 10)) = decide (ds.length ≤ 10) := by
      rw [← Bool.decide_and]
      exact decide_eq_decide.mpr (by omega)
    rw [e3, show promD = lpromD from funext prom_eq]
  | _ => rfl
end K02

set_option Elab.async false
set_option linter.all false
set_option maxRecDepth 100000
set_option maxHeartbeats 400000
namespace K02
open PySem L2
/-- the state of the draws, at st -/
def StAt (H : Hp) (st : Addr) : Prop := ∃ a b : Int, H st = some (.lst [.int a, .int b]) ∧ 0 ≤ a ∧ 0 ≤ b ∧ b < 4294967296
/-- nothing that there was is turned, but what stands at st -/
def But (st : Addr) (H H' : Hp) : Prop := ∀ b o, H b = some o → b ≠ st → H' b = some o
def spCell (K : PySem.W.Frag) : Sp := fun vs H Q _ => ∃ (a : Addr) (ns : List Int) (k : Int), vs = [.ref a, .int k] ∧ SqL K H a (ns.map V.int) ∧ 0 ≤ k ∧ ∀ i, Q (.int i) H
def spState (K : PySem.W.Frag) : Sp := fun vs H Q _ => ∃ (a : Addr) (ns : List Int) (k : Int), vs = [.ref a, .int k] ∧ SqL K H a (ns.map V.int) ∧ 0 ≤ k ∧ ∀ (p : Addr) (x y : Int), H p = none → 0 ≤ x → 0 ≤ y → y < 4294967296 → Q (.ref p) (upd H p (.lst [.int x, .int y]))
def spTake : Sp := fun vs H Q _ => ∃ (st : Addr) (n : Int), vs = [.ref st, .int n] ∧ StAt H st ∧ 1 ≤ n ∧ n < 1073741824 ∧ ∀ r a' b' : Int, 0 ≤ r → r < n → 0 ≤ a' → 0 ≤ b' → b' < 4294967296 → Q (.int r) (upd H st (.lst [.int a', .int b']))
section
variable {P : Program} {w : World} {K : PySem.W.Frag} {mg : Str → Option Value} {base : Heap}
theorem sc18 : FnScope ["_law_script", "_law_k"] ["_law_script", "_law_k"] (defScope (top 39)) := ⟨rfl, rfl, rfl, by decide +kernel, rfl, by decide +kernel, by decide +kernel⟩
theorem ok_cell {f : Addr} {fd : FuncData} (F : Fun K "_law_cell_at" "_law_cell_at" (top 39) f fd) (T : Mg mg) : FnOk P w K mg base CX0 1 f fd ["_law_script", "_law_k"] (spCell K) := by
  refine F.ok sc18 (fun vs H Q E h => ?_) (fun cdv A outer s H vs Q E hr h => ?_)
  · obtain ⟨a, ns, k, rfl, _⟩ := h
    rfl
  · obtain ⟨a, ns, k, rfl, hS, h0, q⟩ := h
    refine ⟨_, pss_cons (ps_if (pt_cmpR op_lt (pv 1) (pe_callB call_len_seq rfl T.len PySem.boot_len (pa_cons (pv 0) pa_nil)) (nomark _)) (pss_one (ps_ret (pe_ix ix_list (pv 0) (pv 1) (fun _ _ => rfl)))) pss_nil) (pss_one (ps_ret pe_int)), ?_⟩
    refine ⟨_, rfl, _, rfl, a, _, rfl, .inl hS, _, _, rfl, rfl, _, rfl, ?_⟩
    refine ite2 (fun c => ?_) (fun _ => q 0)
    have c := of_decide_eq_true c
    rw [List.length_map] at c
    have hk : k.toNat < ns.length := by omega
    refine ⟨_, rfl, _, rfl, a, _, k, .int ns[k.toNat], rfl, rfl, hS, ?_, q _⟩
    have e : (ns.map V.int)[k.toNat]? = some (.int ns[k.toNat]) := by rw [List.getElem?_map, List.getElem?_eq_getElem hk]; rfl
    have := atI_nat e
    rw [show ((k.toNat : Nat) : Int) = k by omega] at this
    exact this
theorem sc19 : FnScope ["_law_script", "_law_k", "_law_cell"] ["_law_script", "_law_k"] (defScope (top 40)) := ⟨rfl, rfl, rfl, by decide +kernel, rfl, by decide +kernel, by decide +kernel⟩
theorem ok_state {f : Addr} {fd : FuncData} (F : Fun K "_law_state" "_law_state" (top 40) f fd) (c1 : Cal P w K mg base 1 "_law_cell_at" ["_law_script", "_law_k"] (spCell K)) : FnOk P w K mg base CX0 2 f fd ["_law_script", "_law_k"] (spState K) := by
  refine F.ok sc19 (fun vs H Q E h => ?_) (fun cdv A outer s H vs Q E hr h => ?_)
  · obtain ⟨a, ns, k, rfl, _⟩ := h
    rfl
  · obtain ⟨a, ns, k, rfl, hS, h0, q⟩ := h
    refine ⟨_, pss_cons (ps_set (i := 2) sc19.nd rfl (Or.inl rfl) (pe_cal c1 hr (Nat.le_refl _) rfl (pa_cons (pv 0) (pa_cons (pv 1) pa_nil))))
      (pss_cons (ps_if (pt_cmpR op_ge (pv 2) (pe_op op_pow pe_int pe_int) (nomark _)) (pss_one (ps_ret (pe_lst (pa_c (pe_op op_sub (pv 2) (pe_op op_pow pe_int pe_int)) (pa_c (pe_op op_add (pe_op op_mod (pv 2) pe_int) pe_int) pa_nil))))) pss_nil)
      (pss_one (ps_ret (pe_lst (pa_c pe_int (pa_c (pe_op op_add (pe_op op_mod (pv 2) pe_int) pe_int) pa_nil)))))), ?_⟩
    refine ⟨_, rfl, _, rfl, a, ns, k, rfl, hS, h0, fun c => ?_⟩
    refine ⟨_, rfl, _, _, rfl, rfl, ⟨by decide, by decide, by decide⟩, _, _, rfl, rfl, _, rfl, ?_⟩
    refine ite2 (fun hc => ?_) (fun _ => ?_)
    · have hc := of_decide_eq_true hc
      refine ⟨_, rfl, _, _, rfl, rfl, ⟨by decide, by decide, by decide⟩, _, _, rfl, rfl, _, rfl, _, _, rfl, rfl, (by show (0 : Int) < 2147483629; decide), _, _, rfl, rfl, (by show 2 ≤ sizeLine; decide), fun p hp => ?_⟩
      refine q p _ _ hp ?_ ?_ ?_
      · show 0 ≤ c - (10 : Int) ^ 18
        have hc : (10 : Int) ^ 18 ≤ c := hc
        omega
      · show 0 ≤ c % 2147483629 + 1
        omega
      · show c % 2147483629 + 1 < 4294967296
        omega
    · refine ⟨_, rfl, _, _, rfl, rfl, (by show (0 : Int) < 2147483647; decide), _, _, rfl, rfl, (by show 2 ≤ sizeLine; decide), fun p hp => ?_⟩
      refine q p _ _ hp (Int.le_refl 0) ?_ ?_
      · show 0 ≤ c % 2147483647 + 1
        omega
      · show c % 2147483647 + 1 < 4294967296
        omega
theorem sc20 : FnScope ["_law_state_here", "_law_many", "_law_found", "_law_stirred"] ["_law_state_here", "_law_many"] (defScope (top 41)) := ⟨rfl, rfl, rfl, by decide +kernel, rfl, by decide +kernel, by decide +kernel⟩
theorem ok_take {f : Addr} {fd : FuncData} (F : Fun K "_law_take" "_law_take" (top 41) f fd) : FnOk P w K mg base CX0 1 f fd ["_law_state_here", "_law_many"] spTake := by
  refine F.ok sc20 (fun vs H Q E h => ?_) (fun cdv A outer s H vs Q E hr h => ?_)
  · obtain ⟨st, n, rfl, _⟩ := h
    rfl
  · obtain ⟨st, n, rfl, ⟨a, b, es, ha, hb, hb2⟩, h1, h2, q⟩ := h
    refine ⟨_, pss_cons (ps_if (pt_cmpR op_gt (pe_ix ix_list (pv 0) pe_int (fun _ _ => rfl)) pe_int (nomark _))
        (pss_cons (ps_set (i := 2) sc20.nd rfl (Or.inl rfl) (pe_op op_mod (pe_ix ix_list (pv 0) pe_int (fun _ _ => rfl)) (pv 1)))
          (pss_cons (ps_asg (pe_op op_fdiv (pe_ix ix_list (pv 0) pe_int (fun _ _ => rfl)) (pv 1)) (pg_sub (pv 0) pe_int set_list)) (pss_one (ps_ret (pv 2))))) pss_nil)
      (pss_cons (ps_asg (pe_op op_mod (pe_op op_add (pe_op op_mul (pe_ix ix_list (pv 0) pe_int (fun _ _ => rfl)) pe_int) pe_int) pe_int) (pg_sub (pv 0) pe_int set_list))
      (pss_cons (ps_set (i := 3) sc20.nd rfl (Or.inl rfl) (pe_op op_mod (pe_op op_add (pe_op op_add (pe_op op_mul (pe_ix ix_list (pv 0) pe_int (fun _ _ => rfl)) (pe_ix ix_list (pv 0) pe_int (fun _ _ => rfl))) (pe_op op_mul pe_int (pe_ix ix_list (pv 0) pe_int (fun _ _ => rfl)))) pe_int) pe_int))
      (pss_cons (ps_set (i := 3) sc20.nd rfl (Or.inl rfl) (pe_op op_mod (pe_op op_add (pe_op op_add (pe_op op_mul (pv 3) (pv 3)) (pe_op op_mul pe_int (pv 3))) pe_int) pe_int))
      (pss_one (ps_ret (pe_op op_mod (pe_op op_fdiv (pv 3) pe_int) (pv 1))))))), ?_⟩
    refine ⟨_, rfl, st, _, 0, .int a, rfl, rfl, SqL.of es, rfl, _, _, rfl, rfl, _, rfl, ?_⟩
    refine ite2 (fun hc => ?_) (fun _ => ?_)
    · refine ⟨_, rfl, st, _, 0, .int a, rfl, rfl, SqL.of es, rfl, _, rfl, _, _, rfl, rfl, (by show 0 < n; omega), ?_⟩
      refine ⟨_, rfl, st, _, 0, .int a, rfl, rfl, SqL.of es, rfl, _, rfl, _, _, rfl, rfl, ⟨by omega, h2⟩, _, rfl, st, _, 0, 0, rfl, rfl, es, rfl, _, rfl, ?_⟩
      exact q (a % n) (a / n) b (Int.emod_nonneg a (by omega)) (Int.emod_lt_of_pos a (by omega)) (Int.ediv_nonneg ha (by omega)) hb hb2
    · refine ⟨_, rfl, st, _, 1, .int b, rfl, rfl, SqL.of es, rfl, _, _, rfl, rfl, .inl ⟨by omega, by omega⟩, _, _, rfl, rfl, _, _, rfl, rfl, (by show (0 : Int) < 2147483647; decide), _, rfl, st, _, 1, 1, rfl, rfl, es, rfl, ?_⟩
      have hm0 : 0 ≤ (b * 48271 + 29) % 2147483647 := Int.emod_nonneg _ (by decide)
      have hm1 : (b * 48271 + 29) % 2147483647 < 2147483647 := Int.emod_lt_of_pos _ (by decide)
      obtain ⟨m, hm⟩ : ∃ m, m = (b * 48271 + 29) % 2147483647 := ⟨_, rfl⟩
      rw [← hm] at hm0 hm1
      have eL : ([V.int a, V.int b].set 1 ((fun i j : Int => V.int (i % j)) (b * 48271 + 29) 2147483647)) = [V.int a, V.int m] := by rw [hm]; rfl
      rw [eL]
      have es' : upd H st (.lst [.int a, .int m]) st = some (.lst [.int a, .int m]) := upd_same
      refine ⟨_, rfl, st, _, 1, .int m, rfl, rfl, SqL.of es', rfl, _, rfl, st, _, 1, .int m, rfl, rfl, SqL.of es', rfl, _, _, rfl, rfl, .inl ⟨by omega, by omega⟩, _, rfl, st, _, 1, .int m, rfl, rfl, SqL.of es', rfl, _, _, rfl, rfl, .inl ⟨by decide, by decide⟩, _, _, rfl, rfl, _, _, rfl, rfl, _, _, rfl, rfl, (by show (0 : Int) < 2147483629; decide), ?_⟩
      have hx0 : 0 ≤ (m * m + 39373 * m + 7) % 2147483629 := Int.emod_nonneg _ (by decide)
      have hx1 : (m * m + 39373 * m + 7) % 2147483629 < 2147483629 := Int.emod_lt_of_pos _ (by decide)
      refine ⟨_, rfl, _, rfl, _, _, rfl, rfl, .inl ⟨Int.lt_of_lt_of_le (by decide) hx0, Int.lt_trans hx1 (by decide)⟩, _, rfl, _, _, rfl, rfl, .inl ⟨by decide, by decide⟩, _, _, rfl, rfl, _, _, rfl, rfl, _, _, rfl, rfl, (by show (0 : Int) < 2147483587; decide), ?_⟩
      refine ⟨_, rfl, _, _, rfl, rfl, ⟨by decide, by decide⟩, _, rfl, _, _, rfl, rfl, (by show 0 < n; omega), ?_⟩
      exact q _ a m (Int.emod_nonneg _ (by omega)) (Int.emod_lt_of_pos _ (by omega)) ha hm0 (by omega)
end
end K02

set_option Elab.async false
set_option linter.all false
set_option maxRecDepth 100000
set_option maxHeartbeats 400000
namespace K02
open PySem L2
theorem boot_repr' : bootBuiltins "repr" = some (.builtin "repr") := by decide +kernel
def spSame : Sp := fun vs H Q _ => ∃ S v u d e, vs = [v, u] ∧ ¬ S sysModules ∧ IsTh S H v d ∧ IsTh S H u e ∧ tame d = true ∧ tame e = true ∧ sz d ≤ 1000 ∧ sz e ≤ 1000 ∧ Q (.bl (decide (V.str d.shown = V.str e.shown))) H
section
variable {P : Program} {w : World} {K : PySem.W.Frag} {mg : Str → Option Value} {base : Heap}
theorem room_sz {A : Around} {k : Nat} (hr : Room k A) (hk : 60 ≤ k) {d : PyData} (h : sz d ≤ 1000) : A.units + (sz d + 1) < cLine := by
  have := hr.un
  omega
theorem sc31 : FnScope ["_law_found", "_law_due"] ["_law_found", "_law_due"] (defScope (top 59)) := ⟨rfl, rfl, rfl, by decide +kernel, rfl, by decide +kernel, by decide +kernel⟩
theorem ok_same {f : Addr} {fd : FuncData} (F : Fun K "_law_same" "_law_same" (top 59) f fd) (Tr : mg "repr" = none) : FnOk P w K mg base CX0 61 f fd ["_law_found", "_law_due"] spSame := by
  refine F.ok sc31 (fun vs H Q E h => ?_) (fun cdv A outer s H vs Q E hr h => ?_)
  · obtain ⟨S, v, u, d, e, rfl, _⟩ := h
    rfl
  · obtain ⟨S, v, u, d, e, rfl, hS, t1, t2, m1, m2, z1, z2, q⟩ := h
    refine ⟨_, pss_one (ps_ret (pe_cmpR op_eq (pe_callB (call_repr (S := S) hr.gd hS) rfl Tr boot_repr' (pa_cons (pv 0) pa_nil)) (pe_callB (call_repr (S := S) hr.gd hS) rfl Tr boot_repr' (pa_cons (pv 1) pa_nil)) (nomark _))), ?_⟩
    exact ⟨_, rfl, v, d, rfl, t1, m1, by omega, room_sz hr (Nat.le_refl _) z1, _, rfl, u, e, rfl, t2, m2, by omega, room_sz hr (Nat.le_refl _) z2, rfl, q⟩
end
end K02

set_option Elab.async false
set_option linter.all false
set_option maxRecDepth 100000
namespace K02
open PySem L2
/-! things whose numbers lie below a bound -/
mutual
def tm (B : Nat) : PyData → Bool
  | .none => true
  | .bool _ => true
  | .int i => decide (i.natAbs < B)
  | .str x => decide (x.length ≤ 10) && x.cps.toList.all fun c => decide (c < 16 ^ 8)
  | .list xs => tms B xs
  | .tuple xs => tms B xs
  | .dict kvs => tmKv B kvs
def tms (B : Nat) : List PyData → Bool
  | [] => true
  | x :: xs => tm B x && tms B xs
def tmKv (B : Nat) : List (PyData × PyData) → Bool
  | [] => true
  | (.int i, .int j) :: r => decide (i.natAbs < B) && decide (j.natAbs < B) && tmKv B r
  | _ :: _ => false
end
theorem tmKv_up {B C : Nat} (h : B ≤ C) : ∀ (kvs : List (PyData × PyData)), tmKv B kvs = true → tmKv C kvs = true
  | [], _ => rfl
  | (.int i, .int j) :: r, e => by
    have e : (decide (i.natAbs < B) && decide (j.natAbs < B) && tmKv B r) = true := e
    simp only [Bool.and_eq_true, decide_eq_true_eq] at e
    show (decide (i.natAbs < C) && decide (j.natAbs < C) && tmKv C r) = true
    rw [tmKv_up h r e.2, decide_eq_true (by omega : i.natAbs < C), decide_eq_true (by omega : j.natAbs < C)]
    rfl
  | (.none, _) :: _, h => by simp [tmKv] at h
  | (.bool _, _) :: _, h => by simp [tmKv] at h
  | (.str _, _) :: _, h => by simp [tmKv] at h
  | (.list _, _) :: _, h => by simp [tmKv] at h
  | (.tuple _, _) :: _, h => by simp [tmKv] at h
  | (.dict _, _) :: _, h => by simp [tmKv] at h
  | (.int _, .none) :: _, h => by simp [tmKv] at h
  | (.int _, .bool _) :: _, h => by simp [tmKv] at h
  | (.int _, .str _) :: _, h => by simp [tmKv] at h
  | (.int _, .list _) :: _, h => by simp [tmKv] at h
  | (.int _, .tuple _) :: _, h => by simp [tmKv] at h
  | (.int _, .dict _) :: _, h => by simp [tmKv] at h
mutual
theorem tm_up {B C : Nat} (h : B ≤ C) : ∀ (d : PyData), tm B d = true → tm C d = true
  | .none, _ => rfl
  | .bool _, _ => rfl
  | .int i, e => by
    have e : decide (i.natAbs < B) = true := e
    rw [decide_eq_true_eq] at e
    exact decide_eq_true (show i.natAbs < C by omega)
  | .str _, e => e
  | .list xs, e => tms_up h xs e
  | .tuple xs, e => tms_up h xs e
  | .dict kvs, e => tmKv_up h kvs e
theorem tms_up {B C : Nat} (h : B ≤ C) : ∀ (ds : List PyData), tms B ds = true → tms C ds = true
  | [], _ => rfl
  | d :: ds, e => by
    have e : (tm B d && tms B ds) = true := e
    rw [Bool.and_eq_true] at e
    show (tm C d && tms C ds) = true
    rw [tm_up h d e.1, tms_up h ds e.2]
    rfl
end
theorem tmKv_tame : ∀ (kvs : List (PyData × PyData)), tmKv (2 ^ 128) kvs = true → tameKv kvs = true
  | [], _ => rfl
  | (.int i, .int j) :: r, e => by
    have e : (decide (i.natAbs < 2 ^ 128) && decide (j.natAbs < 2 ^ 128) && tmKv (2 ^ 128) r) = true := e
    rw [Bool.and_eq_true] at e
    show (decide (i.natAbs < 2 ^ 128) && decide (j.natAbs < 2 ^ 128) && tameKv r) = true
    rw [e.1, tmKv_tame r e.2]
    rfl
  | (.none, _) :: _, h => by simp [tmKv] at h
  | (.bool _, _) :: _, h => by simp [tmKv] at h
  | (.str _, _) :: _, h => by simp [tmKv] at h
  | (.list _, _) :: _, h => by simp [tmKv] at h
  | (.tuple _, _) :: _, h => by simp [tmKv] at h
  | (.dict _, _) :: _, h => by simp [tmKv] at h
  | (.int _, .none) :: _, h => by simp [tmKv] at h
  | (.int _, .bool _) :: _, h => by simp [tmKv] at h
  | (.int _, .str _) :: _, h => by simp [tmKv] at h
  | (.int _, .list _) :: _, h => by simp [tmKv] at h
  | (.int _, .tuple _) :: _, h => by simp [tmKv] at h
  | (.int _, .dict _) :: _, h => by simp [tmKv] at h
mutual
theorem tm_tame : ∀ (d : PyData), tm (2 ^ 128) d = true → tame d = true
  | .none, _ => rfl
  | .bool _, _ => rfl
  | .int i, e => e
  | .str _, e => e
  | .list xs, e => tms_tame xs e
  | .tuple xs, e => tms_tame xs e
  | .dict kvs, e => tmKv_tame kvs e
theorem tms_tame : ∀ (ds : List PyData), tms (2 ^ 128) ds = true → tames ds = true
  | [], _ => rfl
  | d :: ds, e => by
    have e : (tm (2 ^ 128) d && tms (2 ^ 128) ds) = true := e
    rw [Bool.and_eq_true] at e
    show (tame d && tames ds) = true
    rw [tm_tame d e.1, tms_tame ds e.2]
    rfl
end
theorem tame_of {B : Nat} {d : PyData} (h : tm B d = true) (hB : B ≤ 2 ^ 128) : tame d = true := tm_tame d (tm_up hB d h)
theorem tms_all {B : Nat} : ∀ {ds : List PyData}, tms B ds = true ↔ ∀ d ∈ ds, tm B d = true
  | [] => Iff.intro (fun _ _ h => absurd h List.not_mem_nil) (fun _ => rfl)
  | x :: ds => by
    show (tm B x && tms B ds) = true ↔ _
    rw [Bool.and_eq_true, tms_all (ds := ds)]
    exact ⟨fun ⟨h1, h2⟩ d hd => (List.mem_cons.mp hd).elim (fun e => e ▸ h1) (h2 d), fun h => ⟨h x List.mem_cons_self, fun d hd => h d (List.mem_cons_of_mem _ hd)⟩⟩
theorem szs_app : ∀ (ds es : List PyData), szs (ds ++ es) = szs ds + szs es
  | [], es => by show szs es = 0 + szs es; omega
  | d :: ds, es => by
    show sz d + szs (ds ++ es) = sz d + szs ds + szs es
    rw [szs_app ds es]
    omega
theorem szs_ins (ds : List PyData) (i : Nat) (e : PyData) : szs (ds.take i ++ e :: ds.drop i) = szs ds + sz e := by
  have h : szs (ds.take i ++ ds.drop i) = szs ds := by rw [List.take_append_drop]
  rw [szs_app] at h ⊢
  show szs (ds.take i) + (sz e + szs (ds.drop i)) = _
  omega
theorem szs_era : ∀ {ds : List PyData} {i : Nat} {d : PyData}, ds[i]? = some d → szs (ds.eraseIdx i) + sz d = szs ds
  | x :: ds, 0, d, h => by
    have : x = d := by simpa using h
    subst this
    show szs ds + sz x = sz x + szs ds
    omega
  | x :: ds, i + 1, d, h => by
    have := szs_era (ds := ds) (i := i) (d := d) (by simpa using h)
    show sz x + szs (ds.eraseIdx i) + sz d = sz x + szs ds
    omega
theorem szs_set : ∀ {ds : List PyData} {i : Nat} {d e : PyData}, ds[i]? = some d → szs (ds.set i e) + sz d = szs ds + sz e
  | x :: ds, 0, d, e, h => by
    have : x = d := by simpa using h
    subst this
    show sz e + szs ds + sz x = sz x + szs ds + sz e
    omega
  | x :: ds, i + 1, d, e, h => by
    have := szs_set (ds := ds) (i := i) (d := d) (e := e) (by simpa using h)
    show sz x + szs (ds.set i e) + sz d = sz x + szs ds + sz e
    omega
end K02

set_option Elab.async false
set_option linter.all false
set_option maxRecDepth 100000
set_option maxHeartbeats 400000
namespace K02
open PySem L2
def odd1 : List PyData := [.none, .bool true, .bool false, .int 0, .int 1, .int (-1), .int (10 ^ 29), .str "", .str "a", .str "0/0/0", .tuple [], .list [], .dict [], .tuple [.int 0], .list [.int 0], .tuple [.none], .tuple [.tuple []]]
def odd2 : List PyData := [.str "-", .dict [(.int 0, .int 1)], .tuple [.int 0, .int 0, .int 0]]
theorem odd_ok : ∀ d ∈ odd1 ++ odd2, tm (2 ^ 100) d = true ∧ sz d ≤ 6 := by
  have h : ((odd1 ++ odd2).all fun d => tm (2 ^ 100) d && decide (sz d ≤ 6)) = true := by decide +kernel
  intro d hd
  have := List.all_eq_true.mp h d hd
  rw [Bool.and_eq_true, decide_eq_true_eq] at this
  exact this
/-- a new thing, out of the draws at st -/
def Made (st : Addr) (H : Hp) (n : Nat) (v : V) (H' : Hp) : Prop := ∃ d, But st H H' ∧ StAt H' st ∧ IsTh (fun a => H a = none ∧ a ≠ sysModules) H' v d ∧ tm (2 ^ 100) d = true ∧ sz d ≤ n
def spOdd : Sp := fun vs H Q _ => ∃ st, vs = [.ref st] ∧ StAt H st ∧ ∀ v H', Made st H 6 v H' → Q v H'
section
variable {P : Program} {w : World} {K : PySem.W.Frag} {mg : Str → Option Value} {base : Heap}
theorem sc29 : FnScope ["_law_state_here", "_law_some"] ["_law_state_here"] (defScope (top 57)) := ⟨rfl, rfl, rfl, by decide +kernel, rfl, by decide +kernel, by decide +kernel⟩
theorem ok_odd {f : Addr} {fd : FuncData} (F : Fun K "_law_odd" "_law_odd" (top 57) f fd) (c1 : Cal P w K mg base 1 "_law_take" ["_law_state_here", "_law_many"] spTake) : FnOk P w K mg base CX0 2 f fd ["_law_state_here"] spOdd := by
  refine F.ok sc29 (fun vs H Q E h => ?_) (fun cdv A outer s H vs Q E hr h => ?_)
  · obtain ⟨st, rfl, _⟩ := h
    rfl
  · obtain ⟨st, rfl, hst, q⟩ := h
    refine ⟨_, pss_b (bss_cons (bs_set (i := 1) sc29.nd rfl (Or.inl rfl) (be_lst (ab_c be_non (ab_c be_bl (ab_c be_bl (ab_c be_int (ab_c be_int (ab_c be_neg (ab_c be_pow (ab_c be_str (ab_c be_str (ab_c be_str (ab_c (be_tup aa_nil) (ab_c (be_lstS aa_nil) (ab_c be_dnewS (ab_c (be_tup (ab_c be_int aa_nil)) (ab_c (be_lstS (ab_c be_int aa_nil)) (ab_c (be_tup (ab_c be_non aa_nil)) (ab_c (be_tup (ab_c (be_tup aa_nil) aa_nil)) aa_nil)))))))))))))))))))
      (bss_one (bs_ret (be_ix ix_list (be_op op_cat ⟨pv 1⟩ (be_lst (ab_c be_str (ab_c be_disp1 (ab_c (be_tup (ab_c be_int (ab_c be_int (ab_c be_int aa_nil)))) aa_nil)))))
        ⟨pe_cal c1 hr (by decide) rfl (pa_c (pv 0) (pa_c pe_int pa_nil))⟩ (fun _ _ => rfl))))), ?_⟩
    have hS : ∀ H0, Same H H0 → ∀ p, H0 p = none → p ≠ sysModules → (H p = none ∧ p ≠ sysModules) := fun H0 s0 p hp np => ⟨s0.free hp, np⟩
    have z0 : ∀ {n : Nat}, n ≤ 3 → n ≤ 4000 := fun h => by omega
    refine rd_seq ?_
    refine rd_asg ?_
    refine rd_lst ?_
    refine (th_cons th_non (th_cons th_bl (th_cons th_bl (th_cons th_int (th_cons th_int (th_cons (th_ev (i := -1) fun H' Q h => ⟨1, rfl, h⟩) (th_cons (th_ev (i := 10 ^ 29) fun H' => ev_opC (g := fun i j => V.int (i ^ j.toNat)) ev_c ev_c ⟨by decide, by decide, by decide⟩) (th_cons th_str (th_cons th_str (th_cons th_str
      (th_cons (th_tup th_nil (by decide)) (th_cons (th_lstS th_nil (by decide) hS) (th_cons (th_dnew hS) (th_cons (th_tup (th_cons th_int th_nil) (by decide)) (th_cons (th_lstS (th_cons th_int th_nil) (by decide) hS) (th_cons (th_tup (th_cons th_non th_nil) (by decide)) (th_cons (th_tup (th_cons (th_tup th_nil (by decide)) th_nil) (by decide)) th_nil))))))))))))))))) H (Same.refl H) _ fun xs H1 s1 t1 => ?_
    have t1 : IsThs (fun a => H a = none ∧ a ≠ sysModules) H1 xs odd1 := t1
    refine ⟨by rw [t1.length]; show 17 ≤ sizeLine; decide, fun p hp => ?_⟩
    refine rd_name ?_
    dsimp only
    refine rd_ret ?_
    have s2 : Same H (upd H1 p (.lst xs)) := s1.updR hp
    refine ⟨_, rfl, ?_⟩
    refine (th_cons th_str (th_cons (th_disp1 hS) (th_cons (th_tup (th_cons th_int (th_cons th_int (th_cons th_int th_nil))) (by decide)) th_nil))) (upd H1 p (.lst xs)) s2 _ fun ys H2 s3 t2 => ?_
    have t2 : IsThs (fun a => H a = none ∧ a ≠ sysModules) H2 ys odd2 := t2
    refine ⟨by rw [t2.length]; show 3 ≤ sizeLine; decide, fun p2 hp2 => ?_⟩
    have s4 : Same (upd H1 p (.lst xs)) (upd H2 p2 (.lst ys)) := s3.updR hp2
    refine ⟨p, p2, xs, ys, rfl, rfl, s4 _ _ upd_same, upd_same, by rw [t1.length, t2.length]; show 20 ≤ sizeLine; decide, fun l hl => ?_⟩
    have s5 : Same H (upd (upd H2 p2 (.lst ys)) l (.lst (xs ++ ys))) := (s2.trans s4).updR hl
    obtain ⟨a, b, es, h1, h2, h3⟩ := hst
    refine ⟨_, rfl, st, 20, rfl, ⟨a, b, s5 _ _ es, h1, h2, h3⟩, by decide, by decide, fun r a' b' r0 r1 g1 g2 g3 => ?_⟩
    have nl : l ≠ st := fun z => by
      have := (s2.trans s4) _ _ es
      rw [z, this] at hl
      cases hl
    have t3 : IsThs (fun a => H a = none ∧ a ≠ sysModules) (upd (upd H2 p2 (.lst ys)) l (.lst (xs ++ ys))) (xs ++ ys) (odd1 ++ odd2) :=
      (((t1.same (Same.upd hp)).same s4).same (Same.upd hl)).append ((t2.same (Same.upd hp2)).same (Same.upd hl))
    have hlen : (xs ++ ys).length = 20 := by
      rw [t3.length]
      rfl
    have hr' : r.toNat < (xs ++ ys).length := by omega
    have e : (xs ++ ys)[r.toNat]? = some ((xs ++ ys)[r.toNat]) := List.getElem?_eq_getElem hr'
    obtain ⟨d, hd, td⟩ := t3.get e
    have hat : atI (xs ++ ys) r = some ((xs ++ ys)[r.toNat]) := by
      have := atI_nat e
      rw [show ((r.toNat : Nat) : Int) = r by omega] at this
      exact this
    refine ⟨l, _, r, _, rfl, rfl, SqL.of (by rw [upd_ne nl]; exact upd_same), hat, q _ _ ⟨d, fun b' o' e' ne => ?_, ⟨a', b', upd_same, g1, g2, g3⟩, ?_, (odd_ok d (List.mem_of_getElem? hd)).1, (odd_ok d (List.mem_of_getElem? hd)).2⟩⟩
    · rw [upd_ne ne]
      exact s5 _ _ e'
    · refine td.keep (fun c l' e' => ?_) (fun c o' hc e' => ?_) fun _ _ z _ => z
      · have : c ≠ st := fun z => by
          rw [z, s5 _ _ es] at e'
          cases e'
        rw [upd_ne this]
        exact e'
      · have : c ≠ st := fun z => by
          rw [z, es] at hc
          cases hc.1
        rw [upd_ne this]
        exact e'
end
end K02

set_option Elab.async false
set_option linter.all false
set_option maxRecDepth 100000
set_option maxHeartbeats 400000
namespace K02
open PySem L2
theorem ix_listK {X : Cx} {K : PySem.W.Frag} (hK : X.K = K) : IxR X (rIxL K) := by
  subst hK
  exact ix_list
theorem szs_ints : ∀ (is : List Int), szs (is.map PyData.int) = is.length
  | [] => rfl
  | i :: is => by
    show 1 + szs (is.map PyData.int) = is.length + 1
    rw [szs_ints is]
    omega
section
variable {P : Program} {w : World} {K : PySem.W.Frag} {mg : Str → Option Value} {base : Heap}
end
end K02

set_option Elab.async false
set_option linter.all false
set_option maxRecDepth 100000
set_option maxHeartbeats 4000000
namespace K02
open PySem L2
/-- what stands while promises are made: the draws at st, the list at p3 -/
structure Mk3 (st p3 : Addr) (xs : List V) (ds : List PyData) (H H' : Hp) : Prop where
  bt : But st H H'
  sa : StAt H' st
  e3 : H' p3 = some (.lst xs)
  ts : IsThs (fun _ => False) H' xs ds
theorem Mk3.take {st p3 : Addr} {xs : List V} {ds : List PyData} {H H' : Hp} (g : Mk3 st p3 xs ds H H') (np : p3 ≠ st) {a b : Int} (h1 : 0 ≤ a) (h2 : 0 ≤ b) (h3 : b < 4294967296) : Mk3 st p3 xs ds H (upd H' st (.lst [.int a, .int b])) := by
  refine ⟨fun b' o' e' ne => ?_, ⟨a, b, upd_same, h1, h2, h3⟩, by rw [upd_ne np]; exact g.e3, g.ts.keep (fun c l e => ?_) (fun _ _ z _ => z.elim) fun _ _ z _ => z.elim⟩
  · rw [upd_ne ne]
    exact g.bt b' o' e' ne
  · obtain ⟨x, y, e7, _⟩ := g.sa
    have : c ≠ st := fun z => by
      rw [z, e7] at e
      cases e
    rw [upd_ne this]
    exact e
theorem Mk3.new {st p3 p : Addr} {xs : List V} {ds : List PyData} {H H' : Hp} {o : HO} (g : Mk3 st p3 xs ds H H') (hp : H' p = none) : Mk3 st p3 xs ds H (upd H' p o) := by
  obtain ⟨x, y, e7, k⟩ := g.sa
  exact ⟨fun b' o' e' ne => Same.upd hp _ _ (g.bt b' o' e' ne), ⟨x, y, Same.upd hp _ _ e7, k⟩, Same.upd hp _ _ g.e3, g.ts.same (Same.upd hp)⟩
section
variable {P : Program} {w : World} {K : PySem.W.Frag} {mg : Str → Option Value} {base : Heap}
theorem boot_min : bootBuiltins "min" = some (.builtin "min") := by decide +kernel
theorem sc22 : FnScope ["_law_state_here", "_law_most", "_law_years", "_law_found", "_law_wide", "_law_turn", "_law_first", "_law_last", "_law_price", "_law_holder"] ["_law_state_here", "_law_most", "_law_years"] (defScope (top 42)) := ⟨rfl, rfl, rfl, by decide +kernel, rfl, by decide +kernel, by decide +kernel⟩
end
end K02

set_option Elab.async false
set_option linter.all false
set_option maxRecDepth 100000
set_option maxHeartbeats 400000
namespace K02
open PySem L2
/-- the draws at st stand; nothing else is turned -/
structure Dr (st : Addr) (H H' : Hp) : Prop where
  bt : But st H H'
  sa : StAt H' st
theorem But.refl {st : Addr} {H : Hp} : But st H H := fun _ _ e _ => e
theorem Dr.same {st : Addr} {H H1 H2 : Hp} (g : Dr st H H1) (s : Same H1 H2) : Dr st H H2 := by
  obtain ⟨a, b, e, k⟩ := g.sa
  exact ⟨fun b' o' e' ne => s _ _ (g.bt b' o' e' ne), a, b, s _ _ e, k⟩
theorem Dr.trans {st : Addr} {H H1 H2 : Hp} (g : Dr st H H1) (g' : Dr st H1 H2) : Dr st H H2 := ⟨fun b' o' e' ne => g'.bt _ _ (g.bt b' o' e' ne) ne, g'.sa⟩
theorem Dr.take {st : Addr} {H H1 : Hp} (g : Dr st H H1) {a b : Int} (h1 : 0 ≤ a) (h2 : 0 ≤ b) (h3 : b < 4294967296) : Dr st H (upd H1 st (.lst [.int a, .int b])) :=
  ⟨fun b' o' e' ne => by rw [upd_ne ne]; exact g.bt b' o' e' ne, a, b, upd_same, h1, h2, h3⟩
theorem Dr.new {st p : Addr} {o : HO} {H H1 : Hp} (g : Dr st H H1) (hp : H1 p = none) : Dr st H (upd H1 p o) := g.same (Same.upd hp)
theorem Dr.ne {st p : Addr} {H H1 : Hp} (g : Dr st H H1) (hp : H1 p = none) : p ≠ st := fun z => by
  obtain ⟨a, b, e, _⟩ := g.sa
  rw [z, e] at hp
  cases hp
theorem Dr.free {st p : Addr} {H H1 : Hp} (g : Dr st H H1) (hp : H1 p = none) : H p = none := by
  cases e : H p with
  | none => rfl
  | some o =>
    rw [g.bt _ _ e (g.ne hp)] at hp
    cases hp
/-- what stands at p is written, which there wasn't -/
theorem Dr.put {st p : Addr} {o : HO} {H H1 : Hp} (g : Dr st H H1) (hp : H p = none) (np : p ≠ st) : Dr st H (upd H1 p o) := by
  obtain ⟨a, b, e, k⟩ := g.sa
  refine ⟨fun b' o' e' ne => ?_, a, b, by rw [upd_ne np.symm]; exact e, k⟩
  rw [upd_ne (ne_of_none e' hp)]
  exact g.bt b' o' e' ne
theorem Dr.th {F : Addr → Prop} {st : Addr} {H H1 : Hp} {v : V} {d : PyData} (g : Dr st H H1) (h0 : StAt H st) (hF : F st) (t : IsTh (fun a => ¬ F a) H v d) : IsTh (fun a => ¬ F a) H1 v d := by
  obtain ⟨a, b, e, _⟩ := h0
  refine t.keep (fun c l e' => g.bt _ _ e' fun z => ?_) (fun c o hc e' => g.bt _ _ e' fun z => hc (z ▸ hF)) fun _ _ z _ => z
  rw [z, e] at e'
  cases e'
theorem Dr.ths {F : Addr → Prop} {st : Addr} {H H1 : Hp} {v : List V} {d : List PyData} (g : Dr st H H1) (h0 : StAt H st) (hF : F st) (t : IsThs (fun a => ¬ F a) H v d) : IsThs (fun a => ¬ F a) H1 v d := by
  obtain ⟨a, b, e, _⟩ := h0
  refine t.keep (fun c l e' => g.bt _ _ e' fun z => ?_) (fun c o hc e' => g.bt _ _ e' fun z => hc (z ▸ hF)) fun _ _ z _ => z
  rw [z, e] at e'
  cases e'
/-- what may not be turned into a thing: the draws, the table of modules, and what else F names; all of it is there -/
structure Fb (F : Addr → Prop) (st : Addr) (H : Hp) : Prop where
  st : F st
  sys : F sysModules
  new : ∀ a, F a → H a = none → a = sysModules
theorem Fb.dr {F : Addr → Prop} {st : Addr} {H H1 : Hp} (f : Fb F st H) (g : Dr st H H1) : Fb F st H1 := ⟨f.st, f.sys, fun a ha hn => f.new a ha (g.free hn)⟩
theorem Fb.with {F : Addr → Prop} {st p : Addr} {H : Hp} {o : HO} (f : Fb F st H) (hp : H p = some o) : Fb (fun a => F a ∨ a = p) st H := ⟨.inl f.st, .inl f.sys, fun a ha hn => ha.elim (fun z => f.new a z hn) fun z => by rw [z, hp] at hn; cases hn⟩
theorem Made.dr {st : Addr} {H H' : Hp} {n : Nat} {v : V} (m : Made st H n v H') {F : Addr → Prop} (f : Fb F st H) : ∃ d, Dr st H H' ∧ IsTh (fun a => ¬ F a) H' v d ∧ tm (2 ^ 100) d = true ∧ sz d ≤ n := by
  obtain ⟨d, bt, sa, t, m1, z⟩ := m
  exact ⟨d, ⟨bt, sa⟩, t.keep (fun _ _ e => e) (fun _ _ _ e => e) fun a o ha _ hF => ha.2 (f.new a hF ha.1), m1, z⟩
def spSpoilt (k : Int) : Sp := fun vs H Q _ => ∃ (F : Addr → Prop) (st : Addr) (v : V) (d : PyData) (deep : Int) (B : Nat), vs = [.ref st, v, .int deep] ∧ StAt H st ∧ Fb F st H ∧ 0 ≤ deep ∧ deep < k ∧ IsTh (fun a => ¬ F a) H v d ∧ tm B d = true ∧ 2 ^ 100 ≤ B ∧ sz d ≤ 1000 ∧
  ∀ v' H' d', Dr st H H' → IsTh (fun a => ¬ F a) H' v' d' → tm (B + 1000000) d' = true → sz d' ≤ 2 * sz d + 10 → Q v' H'
theorem room_un {A : Around} {k : Nat} (hr : Room k A) : A.units < cLine := by
  have := hr.un
  omega
theorem boot_list' : bootBuiltins "list" = some (.type "list") := by decide +kernel
section
variable {P : Program} {w : World} {K : PySem.W.Frag} {mg : Str → Option Value} {base : Heap}
theorem sc30 : FnScope ["_law_state_here", "_law_thing", "_law_deep", "_law_at", "_law_kind_here", "_law_row"] ["_law_state_here", "_law_thing", "_law_deep"] (defScope (top 58)) := ⟨rfl, rfl, rfl, by decide +kernel, rfl, by decide +kernel, by decide +kernel⟩
theorem ok_spoilt {k : Nat} {f : Addr} {fd : FuncData} (F : Fun K "_law_spoilt" "_law_spoilt" (top 58) f fd) (T : Mg mg) (Tl : mg "list" = none) (c1 : Cal P w K mg base 1 "_law_take" ["_law_state_here", "_law_many"] spTake)
    (c2 : Cal P w K mg base 1 "_law_whole" ["_law_thing"] (spT wholeD)) (c3 : Cal P w K mg base 2 "_law_odd" ["_law_state_here"] spOdd) (c4 : Cal P w K mg base (3 + k) "_law_spoilt" ["_law_state_here", "_law_thing", "_law_deep"] (spSpoilt k)) :
    FnOk P w K mg base CX0 (3 + k + 1) f fd ["_law_state_here", "_law_thing", "_law_deep"] (spSpoilt (k + 1 : Nat)) := by
  refine F.ok sc30 (fun vs H Q E h => ?_) (fun cdv A outer s H vs Q E hr h => ?_)
  · obtain ⟨F, st, v, d, deep, B, rfl, _⟩ := h
    rfl
  · obtain ⟨F, st, v, d, deep, B, rfl, hst, fb, d0, d1, th, tmd, hB, hz, q⟩ := h
    refine ⟨_, pss_cons (ps_if (PW.pt (pw_and (pt_val (pe_cal c2 hr (by omega) rfl (pa_c (pv 1) pa_nil))) (pw_and1 (pt_cmpR op_gt (pe_cal c1 hr (by omega) rfl (pa_c (pv 0) (pa_c pe_int pa_nil))) pe_int (nomark _)))))
        (pss_one (ps_ret (pe_op op_add (pv 1) (pe_ix ix_list (pe_lstA (aa_c pe_int (aa_c (pe_un un_neg pe_int) (aa_c pe_int (aa_c (pe_un un_neg pe_int) (aa_c pe_int (aa_c (pe_op op_pow pe_int pe_int) aa_nil))))))) (pe_cal c1 hr (by omega) rfl (pa_c (pv 0) (pa_c pe_int pa_nil))) (fun _ _ => rfl))))) pss_nil)
      (pss_cons (ps_if (PW.pt (pw_or (pt_not (pt_val (pe_callB call_isinst rfl T.isinstance boot_isinstance (pa_c (pv 1) (pa_c (pe_bltn rfl T.tuple boot_tuple (v := .ty "tuple") rfl) pa_nil)))))
          (pw_or (pt_cmpR (op_eq_nil (room_un hr)) (pv 1) (pe_tupA aa_nil) (nomark _)) (pw_or1 (pt_cmpR op_eq (pv 2) pe_int (nomark _)))))) (pss_one (ps_ret (pe_cal c3 hr (by omega) rfl (pa_c (pv 0) pa_nil)))) pss_nil)
      (pss_cons (ps_par3 (i := 3) (j := 4) (k := 5) rfl sc30.nd rfl rfl rfl (by decide) (by decide) (by decide) rfl rfl rfl (pa_c (pe_cal c1 hr (by omega) rfl (pa_c (pv 0) (pa_c (pe_callB call_len_seq rfl T.len PySem.boot_len (pa_c (pv 1) pa_nil)) pa_nil))) (pa_c (pe_cal c1 hr (by omega) rfl (pa_c (pv 0) (pa_c pe_int pa_nil))) (pa_c (pe_callTy call_list_ofS rfl Tl boot_list' (pa_c (pv 1) pa_nil)) pa_nil))) rfl)
      (pss_cons (ps_if (pt_cmpR op_eq (pv 4) pe_int (nomark _))
          (pss_one (ps_expr (pe_bm PySem.F.plainAttrs_list PySem.F.slot_list_insert PySem.F.type_list_insert mt_insert (pv 5) (pa_c (pv 3) (pa_c (pe_cal c3 hr (by omega) rfl (pa_c (pv 0) pa_nil)) pa_nil)))))
        (pss_one (ps_if (pt_cmpR op_eq (pv 4) pe_int (nomark _))
          (pss_one (ps_expr (pe_bm PySem.F.plainAttrs_list PySem.F.slot_list_pop PySem.F.type_list_pop mt_popAt (pv 5) (pa_c (pv 3) pa_nil))))
        (pss_one (ps_if (pt_cmpR op_eq (pv 4) pe_int (nomark _))
          (pss_one (ps_expr (pe_bm PySem.F.plainAttrs_list PySem.F.slot_list_insert PySem.F.type_list_insert mt_insert (pv 5) (pa_c (pv 3) (pa_c (pe_ix ix_list (pv 5) (pv 3) (fun _ _ => rfl)) pa_nil)))))
        (pss_one (ps_if (pt_cmpR op_eq (pv 4) pe_int (nomark _))
          (pss_one (ps_ret (pv 5)))
        (pss_one (ps_if (pt_cmpR op_eq (pv 4) pe_int (nomark _))
          (pss_one (ps_expr (pe_bm PySem.F.plainAttrs_list PySem.F.slot_list_append PySem.F.type_list_append mt_append (pv 5) (pa_c (pe_bm PySem.F.plainAttrs_list PySem.F.slot_list_pop PySem.F.type_list_pop mt_popAt (pv 5) (pa_c (pv 3) pa_nil)) pa_nil))))
        (pss_one (ps_asg (pe_cal c4 hr (by omega) rfl (pa_c (pv 0) (pa_c (pe_ix ix_list (pv 5) (pv 3) (fun _ _ => rfl)) (pa_c (pe_op op_sub (pv 2) pe_int) pa_nil)))) (pg_sub (pv 5) (pv 3) set_list))))))))))))
      (pss_one (ps_ret (pe_callTy call_tuple_of rfl T.tuple boot_tuple (pa_c (pv 5) pa_nil))))))), ?_⟩
    have hz4 : sz d ≤ 4000 := by omega
    have g0 : Dr st H H := ⟨But.refl, hst⟩
    refine rd_seq ?_
    refine ⟨_, rfl, _, v, d, rfl, th, hz4, fun H1 s1 => ⟨_, rfl, ?_⟩⟩
    have g1 : Dr st H H1 := g0.same s1
    have odd : ∀ H2 v' H', Dr st H H2 → Made st H2 6 v' H' → Q v' H' := fun H2 v' H' g2 m => by
      obtain ⟨d', g3, t3, m3, z3⟩ := m.dr (fb.dr g2)
      exact q v' H' d' (g2.trans g3) t3 (tm_up (by omega) _ m3) (by omega)
    cases ew : wholeD d with
    | true =>
      obtain ⟨i, rfl, rfl⟩ := whole_int th ew
      refine iteT ?_
      refine ⟨_, rfl, st, 4, rfl, g1.sa, by decide, by decide, fun r a1 b1 r0 r1 k1 k2 k3 => ⟨_, _, rfl, rfl, _, rfl, ?_⟩⟩
      have g2 := g1.take k1 k2 k3
      refine ite2 (fun _ => ?_) (fun _ => ?_)
      · refine ⟨_, rfl, 1, rfl, 5, rfl, _, _, rfl, rfl, ⟨by decide, by decide, by decide⟩, (by show 6 ≤ sizeLine; decide), fun p hp => ?_⟩
        have g3 := g2.new (o := .lst [V.int 1, V.int (-1), V.int 5, V.int (-5), V.int 1000, V.int (10 ^ (6 : Int).toNat)]) hp
        refine ⟨_, rfl, st, 6, rfl, g3.sa, by decide, by decide, fun r2 a2 b2 x0 x1 y1 y2 y3 => ?_⟩
        obtain ⟨wd, hw, w1, w2⟩ : ∃ wd : Int, atI [V.int 1, V.int (-1), V.int 5, V.int (-5), V.int 1000, V.int (10 ^ (6 : Int).toNat)] r2 = some (.int wd) ∧ -5 ≤ wd ∧ wd ≤ 1000000 := by
          have : r2 = 0 ∨ r2 = 1 ∨ r2 = 2 ∨ r2 = 3 ∨ r2 = 4 ∨ r2 = 5 := by omega
          rcases this with rfl | rfl | rfl | rfl | rfl | rfl
          · exact ⟨1, rfl, by decide, by decide⟩
          · exact ⟨-1, rfl, by decide, by decide⟩
          · exact ⟨5, rfl, by decide, by decide⟩
          · exact ⟨-5, rfl, by decide, by decide⟩
          · exact ⟨1000, rfl, by decide, by decide⟩
          · exact ⟨_, rfl, by decide, by decide⟩
        refine ⟨p, _, r2, .int wd, rfl, rfl, SqL.of (by rw [upd_ne (g2.ne hp)]; exact upd_same), hw, i, wd, rfl, rfl, ?_⟩
        have tmd : decide (i.natAbs < B) = true := tmd
        rw [decide_eq_true_eq] at tmd
        exact q _ _ (.int (i + wd)) (g3.take y1 y2 y3) (.int _) (decide_eq_true (show (i + wd).natAbs < B + 1000000 by omega)) (by show 1 ≤ 2 * 1 + 10; decide)
      · refine ⟨_, rfl, .int i, _, "tuple", false, rfl, (IsTh.int (S := fun _ => False) i).ty, kit_tup (.int i), _, rfl, ?_⟩
        exact iteT (iteT ⟨_, rfl, st, rfl, g2.sa, fun v' H' m => odd _ _ _ g2 m⟩)
    | false =>
      refine iteF ?_
      refine rd_next ?_
      dsimp only
      refine rd_seq ?_
      refine ⟨_, rfl, v, _, "tuple", isTupD d, rfl, (g1.th hst fb.st th).ty, kit_tup d, _, rfl, ?_⟩
      cases et : isTupD d with
      | false => exact iteT (iteT ⟨_, rfl, st, rfl, g1.sa, fun v' H' m => odd _ _ _ g1 m⟩)
      | true =>
        refine iteF ?_
        cases th with
        | @tup a xs ds ea r =>
          have hl := r.length
          have hls := len_szs ds
          have hz' : 1 + szs ds ≤ 1000 := hz
          have na : a ≠ st := fun z => by
            obtain ⟨x, y, e, _⟩ := hst
            rw [z, e] at ea
            cases ea
          refine ⟨_, rfl, (by show 0 ≤ sizeLine; decide), fun p0 hp0 => ⟨a, p0, xs, rfl, rfl, SqT.of (Same.upd hp0 _ _ (s1 _ _ ea)), SqT.of upd_same, _, rfl, ?_⟩⟩
          have g2 := g1.new (o := .tup []) hp0
          cases hx : xs.isEmpty with
          | true => exact iteT (iteT ⟨_, rfl, st, rfl, g2.sa, fun v' H' m => odd _ _ _ g2 m⟩)
          | false =>
            refine iteF ?_
            refine ⟨_, rfl, rfl, _, rfl, ?_⟩
            by_cases hd0 : deep = 0
            · subst hd0
              exact iteT ⟨_, rfl, st, rfl, g2.sa, fun v' H' m => odd _ _ _ g2 m⟩
            · rw [decide_eq_false (fun z : V.int deep = V.int 0 => hd0 (by injection z))]
              refine iteF ?_
              refine rd_next ?_
              dsimp only
              refine rd_seq ?_
              have hx1 : 1 ≤ xs.length := by
                cases xs with
                | nil => cases hx
                | cons _ _ => exact Nat.le_add_left 1 _
              have ea2 := g2.bt _ _ ea na
              refine ⟨_, rfl, _, rfl, a, xs, rfl, .inr (SqT.of ea2), st, _, rfl, g2.sa, by omega, by omega, fun r1 a1 b1 r0 rn k1 k2 k3 => ?_⟩
              have g3 := g2.take k1 k2 k3
              refine ⟨_, rfl, st, 10, rfl, g3.sa, by decide, by decide, fun kd a2 b2 _ _ k4 k5 k6 => ?_⟩
              have g4 := g3.take k4 k5 k6
              refine ⟨_, rfl, a, xs, rfl, SqT.of (g4.bt _ _ ea na), fun p hp np => ⟨_, _, _, rfl, ?_⟩⟩
              have p0 := g4.free hp
              have pst := g4.ne hp
              have g5 := g4.new (o := .lst xs) hp
              generalize hH5 : upd (upd (upd (upd H1 _ _) st _) st _) p (.lst xs) = H5 at g5 ⊢
              have e5 : H5 p = some (.lst xs) := by rw [← hH5]; exact upd_same
              clear hH5
              have fb5 : Fb (fun a => F a ∨ a = p) st H5 := (fb.dr g5).with e5
              have r5 : IsThs (fun a => ¬ (F a ∨ a = p)) H5 xs ds := r.keep (fun c l e' => g5.bt _ _ e' fun z => by
                  obtain ⟨x, y, e, _⟩ := hst
                  rw [z, e] at e'
                  cases e') (fun c o hc e' => g5.bt _ _ e' fun z => hc (z ▸ fb.st)) fun c o hc e' => fun z => z.elim hc fun z => by
                  rw [z, p0] at e'
                  cases e'
              /- while the row is written, its things stand -/
              have put : ∀ {Hc : Hp} {ys zs ws : List V} {es : List PyData}, Hc p = some (.lst ys) → IsThs (fun a => ¬ (F a ∨ a = p)) Hc ws es → IsThs (fun a => ¬ (F a ∨ a = p)) (upd Hc p (.lst zs)) ws es := fun {Hc ys zs ws es} e t => t.keep (fun c l e' => by
                  have : c ≠ p := fun z => by
                    rw [z, e] at e'
                    cases e'
                  rw [upd_ne this]
                  exact e') (fun c o hc e' => by
                  have : c ≠ p := fun z => hc (.inr z)
                  rw [upd_ne this]
                  exact e') fun _ _ z _ => z
              have putT : ∀ {Hc : Hp} {ys zs : List V} {w : V} {e1 : PyData}, Hc p = some (.lst ys) → IsTh (fun a => ¬ (F a ∨ a = p)) Hc w e1 → IsTh (fun a => ¬ (F a ∨ a = p)) (upd Hc p (.lst zs)) w e1 := fun {Hc ys zs w e1} e t => by
                have := put (zs := zs) e (.cons t .nil)
                cases this with
                | cons h _ => exact h
              have fin : ∀ {Hc : Hp} {ys : List V} {es : List PyData} {l : Addr}, Dr st H Hc → Hc p = some (.lst ys) → IsThs (fun a => ¬ (F a ∨ a = p)) Hc ys es → tms (B + 1000000) es = true → 1 + szs es ≤ 2 * (1 + szs ds) + 10 → Hc l = none → Q (.ref l) (upd Hc l (.tup ys)) := fun {Hc ys es l} g e t h1 h2 hn =>
                q _ _ (.tuple es) (g.new hn) (.tup upd_same ((t.same (Same.upd hn)).keep (fun _ _ e => e) (fun _ _ _ e => e) fun _ _ z _ zF => z (.inl zF))) h1 h2
              have hr1 : r1.toNat < xs.length := by omega
              have er : xs[r1.toNat]? = some xs[r1.toNat] := List.getElem?_eq_getElem hr1
              obtain ⟨di, hdi, ti⟩ := r5.get er
              have hat : atI xs r1 = some xs[r1.toNat] := by
                have := atI_nat er
                rw [show ((r1.toNat : Nat) : Int) = r1 by omega] at this
                exact this
              have hix : ixN xs.length r1 = some r1.toNat := by
                unfold ixN
                rw [if_pos r0, if_pos (by omega)]
              have hsq := ixN_seq hix
              have tmd : tms B ds = true := tmd
              have tmu : tms (B + 1000000) ds = true := tms_up (by omega) _ tmd
              have tmi : tm B di = true := tms_all.mp tmd di (List.mem_of_getElem? hdi)
              have tmiu : tm (B + 1000000) di = true := tm_up (by omega) _ tmi
              have zi := mem_szs (List.mem_of_getElem? hdi)
              have hsl : xs.length < sizeLine := by rw [sizeLine_eq]; omega
              refine rd_seq ?_
              refine ⟨_, rfl, rfl, _, rfl, ite2 (fun _ => ?_) fun _ => ⟨_, rfl, rfl, _, rfl, ite2 (fun _ => ?_) fun _ => ⟨_, rfl, rfl, _, rfl, ite2 (fun _ => ?_) fun _ => ⟨_, rfl, rfl, _, rfl, ite2 (fun _ => ?_) fun _ => ⟨_, rfl, rfl, _, rfl, ite2 (fun _ => ?_) fun _ => ?_⟩⟩⟩⟩⟩
              · refine ⟨_, rfl, .inl ⟨rfl, _, SqL.of e5⟩, _, rfl, _, rfl, st, rfl, g5.sa, fun v' H6 m => ?_⟩
                obtain ⟨d', g6, t6, m6, z6⟩ := m.dr fb5
                have e6 := g6.bt _ _ e5 pst
                refine ⟨p, xs, r1, v', rfl, rfl, e6, r0, by omega, hsl, ?_⟩
                refine ⟨_, rfl, p, _, rfl, .inl ⟨SqL.of upd_same, fun l hl' => fin (es := ds.take r1.toNat ++ d' :: ds.drop r1.toNat) ((g5.trans g6).put p0 pst) upd_same ?_ ?_ ?_ hl'⟩⟩
                · have r6 := g6.ths g5.sa fb5.st r5
                  exact put e6 ((r6.take _).append (.cons t6 (r6.drop _)))
                · refine tms_all.mpr fun x hx => ?_
                  rcases List.mem_append.mp hx with z | z
                  · exact tms_all.mp tmu x (List.mem_of_mem_take z)
                  · rcases List.mem_cons.mp z with z | z
                    · rw [z]
                      exact tm_up (by omega) _ m6
                    · exact tms_all.mp tmu x (List.mem_of_mem_drop z)
                · rw [szs_ins]
                  omega
              · refine ⟨_, rfl, .inl ⟨rfl, _, SqL.of e5⟩, _, rfl, ?_⟩
                refine ⟨p, xs, r1, r1.toNat, _, rfl, rfl, e5, by omega, by omega, hsq.1, er, ?_⟩
                refine ⟨_, rfl, p, _, rfl, .inl ⟨SqL.of upd_same, fun l hl' => fin (es := ds.eraseIdx r1.toNat) (g5.put p0 pst) upd_same (put e5 (r5.erase _)) ?_ ?_ hl'⟩⟩
                · exact tms_all.mpr fun x hx => tms_all.mp tmu x (List.mem_of_mem_eraseIdx hx)
                · have := szs_era hdi
                  omega
              · refine ⟨_, rfl, .inl ⟨rfl, _, SqL.of e5⟩, _, rfl, _, rfl, _, rfl, p, xs, r1, _, rfl, rfl, SqL.of e5, hat, ?_⟩
                refine ⟨p, xs, r1, _, rfl, rfl, e5, r0, by omega, hsl, ?_⟩
                refine ⟨_, rfl, p, _, rfl, .inl ⟨SqL.of upd_same, fun l hl' => fin (es := ds.take r1.toNat ++ di :: ds.drop r1.toNat) (g5.put p0 pst) upd_same (put e5 ((r5.take _).append (.cons ti (r5.drop _)))) ?_ ?_ hl'⟩⟩
                · refine tms_all.mpr fun x hx => ?_
                  rcases List.mem_append.mp hx with z | z
                  · exact tms_all.mp tmu x (List.mem_of_mem_take z)
                  · rcases List.mem_cons.mp z with z | z
                    · rw [z]
                      exact tmiu
                    · exact tms_all.mp tmu x (List.mem_of_mem_drop z)
                · rw [szs_ins]
                  omega
              · refine ⟨_, rfl, ?_⟩
                refine q _ _ (.list ds) g5 (.lst (fun z => np (fb.new p z p0)) e5 (r5.keep (fun _ _ e => e) (fun _ _ _ e => e) fun _ _ z _ zF => z (.inl zF))) tmu ?_
                show 1 + szs ds ≤ 2 * (1 + szs ds) + 10
                omega
              · refine ⟨_, rfl, .inl ⟨rfl, _, SqL.of e5⟩, _, rfl, .inl ⟨rfl, _, SqL.of e5⟩, _, rfl, ?_⟩
                refine ⟨p, xs, r1, r1.toNat, _, rfl, rfl, e5, by omega, by omega, hsq.1, er, ?_⟩
                have hle := len_erase xs r1.toNat
                refine ⟨p, _, _, rfl, rfl, upd_same, by omega, ?_⟩
                refine ⟨_, rfl, p, _, rfl, .inl ⟨SqL.of upd_same, fun l hl' => fin (es := ds.eraseIdx r1.toNat ++ [di]) ((g5.put p0 pst).put p0 pst) upd_same (put upd_same ((put e5 (r5.erase _)).append (.cons (putT e5 ti) .nil))) ?_ ?_ hl'⟩⟩
                · refine tms_all.mpr fun x hx => ?_
                  rcases List.mem_append.mp hx with z | z
                  · exact tms_all.mp tmu x (List.mem_of_mem_eraseIdx z)
                  · rw [List.mem_singleton.mp z]
                    exact tmiu
                · have := szs_era hdi
                  rw [szs_app]
                  show 1 + (szs (ds.eraseIdx r1.toNat) + (sz di + 0)) ≤ _
                  omega
              · refine ⟨_, rfl, _, rfl, _, rfl, p, xs, r1, _, rfl, rfl, SqL.of e5, hat, _, rfl, _, _, rfl, rfl, ?_⟩
                refine ⟨_, st, _, di, deep - 1, B, rfl, g5.sa, fb5, by omega, by omega, ti, tmi, hB, by omega, fun v' H6 d' g6 t6 m6 z6 => ?_⟩
                have e6 := g6.bt _ _ e5 pst
                refine ⟨_, rfl, _, rfl, p, xs, r1, r1.toNat, rfl, rfl, e6, hix, ?_⟩
                refine ⟨_, rfl, p, _, rfl, .inl ⟨SqL.of upd_same, fun l hl' => fin (es := ds.set r1.toNat d') ((g5.trans g6).put p0 pst) upd_same (put e6 ((g6.ths g5.sa fb5.st r5).set t6 _)) ?_ ?_ hl'⟩⟩
                · refine tms_all.mpr fun x hx => ?_
                  rcases List.mem_or_eq_of_mem_set hx with z | z
                  · exact tms_all.mp tmu x z
                  · rw [z]
                    exact m6
                · have := szs_set (e := d') hdi
                  omega
        | _ => cases et
theorem ok_spoilt0 {f : Addr} {fd : FuncData} : FnOk P w K mg base CX0 3 f fd ["_law_state_here", "_law_thing", "_law_deep"] (spSpoilt (0 : Nat)) := by
  refine ⟨fun vs H Q E h => ?_, fun A outer s H args us vs Q E hr he hb hv h => ?_⟩
  · obtain ⟨F, st, v, d, deep, B, rfl, _⟩ := h
    rfl
  · obtain ⟨F, st, v, d, deep, B, rfl, _, _, h0, h1, _⟩ := h
    exact absurd h1 (by omega)
end
end K02

set_option Elab.async false
set_option linter.all false
set_option maxRecDepth 100000
namespace K02
open PySem L2
/-! rows of ints: promises and sales -/
def rowD (r : List Int) : PyData := .tuple (r.map .int)
def rowsD (rs : List (List Int)) : PyData := .tuple (rs.map rowD)
def fl (r : List Int) (i : Nat) : Int := r.getD i 0
def okP (r : List Int) : Prop := r.length = 6 ∧ (0 ≤ fl r 0 ∧ fl r 0 < 8) ∧ (0 ≤ fl r 1 ∧ fl r 1 < 3) ∧ (0 ≤ fl r 2 ∧ fl r 2 ≤ fl r 3 ∧ fl r 3 ≤ 19) ∧ (1 ≤ fl r 4 ∧ fl r 4 ≤ 99) ∧ (0 ≤ fl r 5 ∧ fl r 5 ≤ 1000000)
def salesD (d : PyData) : Bool := tupOfD d 0 12 && (items d).all fun x => wholesD x 5
def rowsOf (d : PyData) : List (List Int) := (items d).map fun x => (items x).map intOf
theorem row_eq : ∀ {ds : List PyData}, (∀ x ∈ ds, wholeD x = true) → ds = (ds.map intOf).map PyData.int
  | [], _ => rfl
  | d :: ds, h => by
    rw [List.map_cons, List.map_cons, ← row_eq fun x hx => h x (List.mem_cons_of_mem _ hx)]
    have := h d List.mem_cons_self
    cases d with
    | int i => rfl
    | _ => cases this
theorem wholes_row {x : PyData} {n : Nat} (h : wholesD x n = true) : x = rowD ((items x).map intOf) ∧ ((items x).map intOf).length = n := by
  obtain ⟨h1, h2⟩ := wholes_of h
  unfold tupOfD at h1
  rw [Bool.and_eq_true, Bool.and_eq_true, decide_eq_true_eq, decide_eq_true_eq] at h1
  obtain ⟨ht, hl1, hl2⟩ := h1
  cases x with
  | tuple ds =>
    have hl1 : (n : Int) ≤ ds.length := hl1
    have hl2 : (ds.length : Int) ≤ n := hl2
    refine ⟨?_, by show (ds.map intOf).length = n; rw [List.length_map]; omega⟩
    exact congrArg PyData.tuple (row_eq h2)
  | _ => cases ht
theorem rows_eq {ds : List PyData} {n : Nat} (h : ∀ x ∈ ds, wholesD x n = true) : ds = (ds.map fun x => (items x).map intOf).map rowD := by
  induction ds with
  | nil => rfl
  | cons d ds ih =>
    rw [List.map_cons, List.map_cons, ← ih fun x hx => h x (List.mem_cons_of_mem _ hx), ← (wholes_row (h d List.mem_cons_self)).1]
theorem tup_items {d : PyData} {f m : Int} (h : tupOfD d f m = true) : ∃ ds, d = .tuple ds ∧ f ≤ ds.length ∧ (ds.length : Int) ≤ m := by
  unfold tupOfD at h
  rw [Bool.and_eq_true, Bool.and_eq_true, decide_eq_true_eq, decide_eq_true_eq] at h
  cases d with
  | tuple ds => exact ⟨ds, rfl, h.2⟩
  | _ => cases h.1
theorem at_fl (r : List Int) (i : Nat) (h : i < r.length) : at_ (rowD r) i = fl r i := by
  show intOf ((r.map PyData.int).getD i .none) = r.getD i 0
  rw [List.getD_eq_getElem?_getD, List.getD_eq_getElem?_getD, List.getElem?_map, List.getElem?_eq_getElem h]
  rfl
theorem proms_rows {d : PyData} (h : promsD d = true) : d = rowsD (rowsOf d) ∧ (rowsOf d).length ≤ 10 ∧ ∀ r ∈ rowsOf d, okP r := by
  unfold promsD at h
  rw [Bool.and_eq_true] at h
  obtain ⟨ds, rfl, _, hl⟩ := tup_items h.1
  have h2 : ∀ x ∈ ds, promD x = true := List.all_eq_true.mp h.2
  have h3 : ∀ x ∈ ds, wholesD x 6 = true := fun x hx => by
    have := h2 x hx
    unfold promD at this
    rw [Bool.and_eq_true] at this
    exact this.1
  refine ⟨congrArg PyData.tuple (rows_eq (n := 6) h3), by show (ds.map _).length ≤ 10; rw [List.length_map]; omega, fun r hr => ?_⟩
  obtain ⟨x, hx, rfl⟩ := List.mem_map.mp hr
  have hx : x ∈ ds := hx
  obtain ⟨e, hl6⟩ := wholes_row (n := 6) (h3 x hx)
  have := h2 x hx
  unfold promD at this
  rw [Bool.and_eq_true] at this
  have p := this.2
  rw [e] at p
  rw [at_fl _ 0 (by omega), at_fl _ 1 (by omega), at_fl _ 2 (by omega), at_fl _ 3 (by omega), at_fl _ 4 (by omega), at_fl _ 5 (by omega)] at p
  unfold promOk at p
  simp only [Bool.and_eq_true, decide_eq_true_eq] at p
  obtain ⟨⟨a1, a2⟩, ⟨b1, b2⟩, ⟨c1, c2, c3⟩, ⟨d1, d2⟩, e1, e2⟩ := p
  exact ⟨hl6, ⟨a1, a2⟩, ⟨b1, b2⟩, ⟨c1, c2, c3⟩, ⟨d1, d2⟩, e1, e2⟩
theorem sales_rows {d : PyData} (h : salesD d = true) : d = rowsD (rowsOf d) ∧ (rowsOf d).length ≤ 12 ∧ ∀ r ∈ rowsOf d, r.length = 5 := by
  unfold salesD at h
  rw [Bool.and_eq_true] at h
  obtain ⟨ds, rfl, _, hl⟩ := tup_items h.1
  have h3 : ∀ x ∈ ds, wholesD x 5 = true := List.all_eq_true.mp h.2
  refine ⟨congrArg PyData.tuple (rows_eq (n := 5) h3), by show (ds.map _).length ≤ 12; rw [List.length_map]; omega, fun r hr => ?_⟩
  obtain ⟨x, hx, rfl⟩ := List.mem_map.mp hr
  exact (wholes_row (n := 5) (h3 x hx)).2
/-! ### rows in the heap -/
structure RowsAt (H : Hp) (a : Addr) (xs : List V) (rs : List (List Int)) : Prop where
  e : H a = some (.tup xs)
  l : xs.length = rs.length
  g : ∀ (i : Nat) (r : List Int), rs[i]? = some r → ∃ t, xs[i]? = some (V.ref t) ∧ H t = some (.tup (r.map V.int))
theorem RowsAt.keep {H H' : Hp} {a : Addr} {xs : List V} {rs : List (List Int)} (h : RowsAt H a xs rs) (k : ∀ b l, H b = some (.tup l) → H' b = some (.tup l)) : RowsAt H' a xs rs :=
  ⟨k _ _ h.e, h.l, fun i r e => by
    obtain ⟨t, e1, e2⟩ := h.g i r e
    exact ⟨t, e1, k _ _ e2⟩⟩
theorem RowsAt.same {H H' : Hp} {a : Addr} {xs : List V} {rs : List (List Int)} (h : RowsAt H a xs rs) (s : Same H H') : RowsAt H' a xs rs := h.keep fun _ _ e => s _ _ e
theorem ths_ints {S : Addr → Prop} {H : Hp} : ∀ {r : List Int} {xs : List V}, IsThs S H xs (r.map .int) → xs = r.map V.int
  | [], _, .nil => rfl
  | i :: r, _, .cons h t => by
    cases h
    rw [ths_ints (r := r) t]
    rfl
theorem th_row {S : Addr → Prop} {H : Hp} {v : V} {r : List Int} (h : IsTh S H v (rowD r)) : ∃ t, v = V.ref t ∧ H t = some (.tup (r.map V.int)) := by
  generalize hd : rowD r = d at h
  cases h with
  | @tup a xs ds e t =>
    injection hd with hd
    subst hd
    rw [ths_ints t] at e
    exact ⟨a, rfl, e⟩
  | _ => cases hd
theorem th_rows {S : Addr → Prop} {H : Hp} {v : V} {rs : List (List Int)} (h : IsTh S H v (rowsD rs)) : ∃ a xs, v = .ref a ∧ RowsAt H a xs rs := by
  generalize hd : rowsD rs = d at h
  cases h with
  | @tup a xs ds e t =>
    injection hd with hd
    subst hd
    refine ⟨a, xs, rfl, e, by rw [t.length, List.length_map], fun i r hr => ?_⟩
    have hi : i < rs.length := (List.getElem?_eq_some_iff.mp hr).1
    have hx : xs[i]? = some (xs[i]'(by rw [t.length, List.length_map]; exact hi)) := List.getElem?_eq_getElem _
    obtain ⟨d, h1, h2⟩ := t.get hx
    rw [List.getElem?_map, hr] at h1
    injection h1 with h1
    subst h1
    obtain ⟨t', e1, e2⟩ := th_row h2
    exact ⟨t', by rw [hx, e1], e2⟩
  | _ => cases hd
theorem RowsAt.th {H : Hp} {a : Addr} : ∀ {rs : List (List Int)} {xs : List V}, RowsAt H a xs rs → IsTh (fun _ => False) H (.ref a) (rowsD rs) := by
  intro rs xs h
  refine .tup h.e ?_
  have gen : ∀ (rs : List (List Int)) (xs : List V), xs.length = rs.length → (∀ (i : Nat) (r : List Int), rs[i]? = some r → ∃ t, xs[i]? = some (V.ref t) ∧ H t = some (.tup (r.map V.int))) → IsThs (fun _ => False) H xs (rs.map rowD) := by
    intro rs
    induction rs with
    | nil =>
      intro xs hl _
      have : xs = [] := List.length_eq_zero_iff.mp hl
      subst this
      exact .nil
    | cons r rs ih =>
      intro xs hl hg
      cases xs with
      | nil => simp at hl
      | cons x xs =>
        obtain ⟨t, e1, e2⟩ := hg 0 r rfl
        have e1 : x = .ref t := by simpa using e1
        subst e1
        exact .cons (.tup e2 (IsThs.ints r)) (ih xs (by simpa using hl) fun i r' e => hg (i + 1) r' (by simpa using e))
  exact gen rs xs h.l h.g
/-! ### who has how many -/
def hput (L : List Int) (i : Int) (v : Int) : List Int := L.set i.toNat (L.getD i.toNat 0 + v)
def hstep (n y : Int) (L : List Int) (s : List Int) : List Int := if fl s 0 = n ∧ fl s 4 ≤ y then hput (hput L (fl s 1) (-(fl s 3))) (fl s 2) (fl s 3) else L
def base0 (p : List Int) : List Int := (List.replicate 8 0).set (fl p 0).toNat (fl p 4)
def heldL (p : List Int) (ss : List (List Int)) (n y : Int) : List Int := if fl p 2 ≤ y ∧ y ≤ fl p 3 then ss.foldl (hstep n y) (base0 p) else List.replicate 8 0
def prom (ps : List (List Int)) (s : List Int) : List Int := ps.getD (fl s 0).toNat []
def betw (ps : List (List Int)) (s : List Int) : Bool := (decide (0 ≤ fl s 0) && decide (fl s 0 < ps.length)) && ((decide (0 ≤ fl s 1) && decide (fl s 1 < 8)) && ((decide (0 ≤ fl s 2) && decide (fl s 2 < 8)) && ((!decide (fl s 1 = fl s 2)) && ((decide (1 ≤ fl s 3) && decide (fl s 3 ≤ 99)) && (decide (fl (prom ps s) 2 ≤ fl s 4) && decide (fl s 4 ≤ fl (prom ps s) 3))))))
def years (a b : Int) : List Int := (List.range (b + 1 - a).toNat).map fun (i : Nat) => a + i
def holdsB (ps ss : List (List Int)) (s : List Int) : Bool := betw ps s && (years (fl s 4) (fl (prom ps s) 3)).all fun y => decide (fl s 3 ≤ (heldL (prom ps s) ss (fl s 0) y).getD (fl s 1).toNat 0)
def un (ps ss : List (List Int)) : Option Nat := (List.range ss.length).find? fun i => !holdsB ps (ss.take i) (ss.getD i [])
theorem hput_len (L : List Int) (i v : Int) : (hput L i v).length = L.length := by unfold hput; rw [List.length_set]
theorem hstep_len (n y : Int) (L s : List Int) : (hstep n y L s).length = L.length := by
  unfold hstep
  split
  · rw [hput_len, hput_len]
  · rfl
theorem heldL_len (p : List Int) (ss : List (List Int)) (n y : Int) : (heldL p ss n y).length = 8 := by
  unfold heldL
  split
  · have : ∀ (ss : List (List Int)) (L : List Int), L.length = 8 → (ss.foldl (hstep n y) L).length = 8 := by
      intro ss
      induction ss with
      | nil => exact fun L h => h
      | cons s ss ih => exact fun L h => ih _ (by rw [hstep_len]; exact h)
    exact this ss _ (by unfold base0; rw [List.length_set, List.length_replicate])
  · rw [List.length_replicate]
end K02

set_option Elab.async false
set_option linter.all false
set_option maxRecDepth 100000
set_option maxHeartbeats 1000000
namespace K02
open PySem L2
theorem get_listP {X : Cx} : PGet X (fun x y H Q => ∃ p xs i v, x = .ref p ∧ y = .int i ∧ SqL X.K H p xs ∧ 0 ≤ i ∧ xs[i.toNat]? = some v ∧ Q v H) := by
  intro pins s σ H x y v u Q I rx ry h
  obtain ⟨p, xs, i, z, rfl, rfl, hq, h0, he, q⟩ := h
  cases rx
  obtain ⟨t, rfl⟩ := ry
  obtain ⟨its, r, pl, hz⟩ := I.list hq
  obtain ⟨w, ew, rw'⟩ := r.get he
  have hn := line63
  have hl := r.length
  have hi := (List.getElem?_eq_some_iff.mp he).1
  exact PySem.wpAny_getItem_list pl.isList h0 (by omega) (by simpa using ew) ⟨z, H, I, rw', q⟩
theorem six_row {p : List Int} (h : p.length = 6) : p = [fl p 0, fl p 1, fl p 2, fl p 3, fl p 4, fl p 5] := by
  obtain ⟨a, b, c, d, e, f, rfl⟩ := len6 h
  rfl
theorem five_row {p : List Int} (h : p.length = 5) : p = [fl p 0, fl p 1, fl p 2, fl p 3, fl p 4] := by
  obtain ⟨a, b, c, d, e, rfl⟩ := len5 h
  rfl
theorem set_map (L : List Int) (i : Nat) (v : Int) : (L.map V.int).set i (.int v) = (L.set i v).map V.int := by rw [List.map_set]
theorem get_map {L : List Int} {i : Nat} (h : i < L.length) : (L.map V.int)[i]? = some (.int (L.getD i 0)) := by
  rw [List.getElem?_map, List.getElem?_eq_getElem h, List.getD_eq_getElem?_getD, List.getElem?_eq_getElem h]
  rfl
theorem ix_in {n : Nat} {i : Int} (h0 : 0 ≤ i) (h1 : i < n) : ixN n i = some i.toNat := by
  unfold ixN
  rw [if_pos h0, if_pos h1]
def okS (s : List Int) : Prop := s.length = 5 ∧ (0 ≤ fl s 1 ∧ fl s 1 < 8) ∧ (0 ≤ fl s 2 ∧ fl s 2 < 8)
def spHeld : Sp := fun vs H Q _ => ∃ ap xp ps as_ xs ss n y, vs = [.ref ap, .ref as_, .int n, .int y] ∧ RowsAt H ap xp ps ∧ RowsAt H as_ xs ss ∧ 0 ≤ n ∧ n < ps.length ∧ okP (ps.getD n.toNat []) ∧ ss.length ≤ 12 ∧ (∀ s ∈ ss, okS s) ∧
  ∀ l H', Same H H' → H' l = some (.lst ((heldL (ps.getD n.toNat []) ss n y).map V.int)) → Q (.ref l) H'
structure MS (mg : Str → Option Value) : Prop where
  sales : ∃ t, mg "MOST_SALES" = some (.int 12 t)
section
variable {P : Program} {w : World} {K : PySem.W.Frag} {mg : Str → Option Value} {base : Heap}
theorem sc22s : FnScope ["thing"] ["thing"] (defScope (top 33)) := ⟨rfl, rfl, rfl, by decide +kernel, rfl, by decide +kernel, by decide +kernel⟩
theorem ok_are_sales {f : Addr} {fd : FuncData} (F : Fun K "are_sales" "are_sales" (top 33) f fd) (T : Mg mg) (N : MS mg) (c1 : Cal P w K mg base 2 "are_wholes" ["thing", "many"] (spT1 wholesD)) (c2 : Cal P w K mg base 1 "is_tuple_of" ["thing", "fewest", "most"] (spT2 tupOfD)) :
    FnOk P w K mg base CX0 3 f fd ["thing"] (spT salesD) := by
  refine F.ok sc22s (fun vs H Q E h => ?_) (fun cdv A outer s H vs Q E hr h => ?_)
  · obtain ⟨S, v, d, rfl, _⟩ := h
    rfl
  · obtain ⟨S, v, d, rfl, th, hz, q⟩ := h
    obtain ⟨t3, e3⟩ := N.sales
    refine ⟨_, pss_one (ps_ret (pe_and (pe_cal c2 hr (by decide) rfl (pa_c (pv 0) (pa_c pe_int (pa_c (pe_glob (v := .int 12) rfl e3 ⟨_, rfl⟩) pa_nil))))
      (pe_one (pe_callB (call_all rfl) rfl T.all boot_all (pa_c (pe_comp ["part"] [none] rfl (pi_tup (pv 0))
        (fun C fp pins s₂ H₂ => ⟨pg_name (i := 0) (nd1 _) rfl (Or.inl rfl), pts_nil, pe_cal c1 hr (by decide) rfl (pa_c (pv 0) (pa_c pe_int pa_nil))⟩) (fun C => trivial) ⟨rfl, rfl, rfl, rfl⟩) pa_nil))))), ?_⟩
    refine ⟨_, rfl, S, v, d, 0, 12, rfl, th, hz, fun H1 s1 => ⟨_, rfl, ?_⟩⟩
    have th1 := th.same s1
    have fin := fun H' (s : Same H H') => q H' s
    unfold salesD at fin
    cases e : tupOfD d 0 12 with
    | false =>
      rw [e] at fin
      exact iteF (fin _ s1)
    | true =>
      rw [e] at fin
      refine iteT ?_
      cases th1 with
      | @tup a xs ds ea r => exact all_things (fun x => wholesD x 5) rfl ea r (len_line r hz) (fun v d H2 Q2 hm s2 t2 q2 => ⟨_, rfl, S, v, d, 5, rfl, t2, in_sz hm hz, q2⟩) fun H2 s2 => fin _ (s1.trans s2)
      | _ => cases e
theorem sc23s : FnScope ["promises", "sales", "number", "year", "holder", "sort", "first", "last", "sacks", "price", "held", "promise", "seller", "buyer", "sold", "since"] ["promises", "sales", "number", "year"] (defScope (top 34)) := ⟨rfl, rfl, rfl, by decide +kernel, rfl, by decide +kernel, by decide +kernel⟩
theorem ok_held {f : Addr} {fd : FuncData} (F : Fun K "held_in" "held_in" (top 34) f fd) (N : Nums mg) : FnOk P w K mg base CX0 1 f fd ["promises", "sales", "number", "year"] spHeld := by
  refine F.ok sc23s (fun vs H Q E h => ?_) (fun cdv A outer s H vs Q E hr h => ?_)
  · obtain ⟨ap, xp, ps, as_, xs, ss, n, y, rfl, _⟩ := h
    rfl
  · obtain ⟨ap, xp, ps, as_, xs, ss, n, y, rfl, rp, rs, n0, n1, okp, hl, oks, q⟩ := h
    obtain ⟨t1, e1⟩ := N.holders
    refine ⟨_, pss_cons (ps_asg (pe_ix ix_tup (pv 0) (pv 2) (fun _ _ => rfl)) (pg_tup rfl (pgs_cons (pg_name (i := 4) sc23s.nd rfl (Or.inl rfl)) (pgs_cons (pg_name (i := 5) sc23s.nd rfl (Or.inl rfl)) (pgs_cons (pg_name (i := 6) sc23s.nd rfl (Or.inl rfl))
        (pgs_cons (pg_name (i := 7) sc23s.nd rfl (Or.inl rfl)) (pgs_cons (pg_name (i := 8) sc23s.nd rfl (Or.inl rfl)) (pgs_cons (pg_name (i := 9) sc23s.nd rfl (Or.inl rfl)) pgs_nil))))))))
      (pss_cons (ps_set (i := 10) sc23s.nd rfl (Or.inl rfl) (pe_op op_rep (pe_lst (pa_c pe_int pa_nil)) (pe_glob (v := .int 8) rfl e1 ⟨_, rfl⟩)))
      (pss_cons (ps_if (pt_not (pt_chain op_le op_le (pv 6) (pv 3) (pv 7))) (pss_one (ps_ret (pv 10))) pss_nil)
      (pss_cons (ps_asg (pv 8) (pg_sub (pv 10) (pv 4) set_list))
      (pss_cons (ps_for PassesOwn.never rfl (pi_tup (pv 1)) (pg_tup rfl (pgs_cons (pg_name (i := 11) sc23s.nd rfl (Or.inl rfl)) (pgs_cons (pg_name (i := 12) sc23s.nd rfl (Or.inl rfl)) (pgs_cons (pg_name (i := 13) sc23s.nd rfl (Or.inl rfl))
          (pgs_cons (pg_name (i := 14) sc23s.nd rfl (Or.inl rfl)) (pgs_cons (pg_name (i := 15) sc23s.nd rfl (Or.inl rfl)) pgs_nil))))))
        (pss_one (ps_if (PW.pt (pw_and (pt_cmpR op_eq (pv 11) (pv 2) (nomark _)) (pw_and1 (pt_cmpR op_le (pv 15) (pv 3) (nomark _)))))
          (pss_cons (ps_augS (pv 10) (pv 12) get_listP (pv 14) ip_sub set_list) (pss_one (ps_augS (pv 10) (pv 13) get_listP (pv 14) ip_add set_list))) pss_nil)))
      (pss_one (ps_ret (pv 10))))))), ?_⟩
    obtain ⟨p, hp⟩ : ∃ p, ps[n.toNat]? = some p := ⟨_, List.getElem?_eq_getElem (by omega)⟩
    have ep : ps.getD n.toNat [] = p := by rw [List.getD_eq_getElem?_getD, hp]; rfl
    rw [ep] at okp q
    obtain ⟨t, ex, et⟩ := rp.g _ _ hp
    have p6 := six_row okp.1
    obtain ⟨l6, ⟨a1, a2⟩, b, ⟨c1, c2, c3⟩, ⟨d1, d2⟩, ee⟩ := id okp
    have hat : atI xp n = some (.ref t) := by
      have := atI_nat ex
      rw [show ((n.toNat : Nat) : Int) = n by omega] at this
      exact this
    rw [p6] at et
    refine rd_seq ?_
    refine ⟨_, rfl, _, rfl, ap, xp, n, .ref t, rfl, rfl, SqT.of rp.e, hat, ?_⟩
    refine ⟨t, _, rfl, SqT.of et, rfl, _, _, rfl, _, _, rfl, _, _, rfl, _, _, rfl, _, _, rfl, _, _, rfl, rfl, ?_⟩
    dsimp only
    refine rd_seq ?_
    refine rd_asg ?_
    refine ⟨(by show 1 ≤ sizeLine; decide), fun l0 hl0 => ⟨l0, 8, _, rfl, rfl, upd_same, by decide, by decide, (by show 1 * 8 ≤ sizeLine; decide), fun l1 hl1 => ?_⟩⟩
    have s1 : Same H (upd (upd H l0 (.lst [V.int 0])) l1 (.lst (List.replicate (8 : Int).toNat [V.int 0]).flatten)) := (Same.upd hl0).updR hl1
    have el1 : upd (upd H l0 (.lst [V.int 0])) l1 (.lst (List.replicate (8 : Int).toNat [V.int 0]).flatten) l1 = some (.lst ((List.replicate 8 (0 : Int)).map V.int)) := upd_same
    have nl1 : H l1 = none := (Same.upd hl0).free hl1
    generalize upd (upd H l0 (.lst [V.int 0])) l1 (.lst (List.replicate (8 : Int).toNat [V.int 0]).flatten) = H1 at s1 el1 ⊢
    refine rd_name ?_
    dsimp only
    refine rd_seq ?_
    refine ev_chain (p := fun i j => decide (i ≤ j)) (q := fun i j => decide (i ≤ j)) (i := fl p 2) (j := y) (k := fl p 3) (ev_v rfl) (ev_v rfl) (ev_v rfl) _ ⟨_, rfl, ?_⟩
    by_cases hin : fl p 2 ≤ y ∧ y ≤ fl p 3
    · rw [decide_eq_true hin.1, decide_eq_true hin.2]
      refine iteF ?_
      refine rd_next ?_
      dsimp only
      refine rd_seq ?_
      refine ⟨_, rfl, _, rfl, _, rfl, l1, _, fl p 0, (fl p 0).toNat, rfl, rfl, el1, ix_in a1 (by show fl p 0 < 8; exact a2), ?_⟩
      rw [set_map]
      dsimp only
      refine rd_seq ?_
      have hs0 : as_ ≠ l1 := ne_of_none rs.e nl1
      refine ⟨_, rfl, as_, rfl, ⟨xs, SqT.of (by rw [upd_ne hs0]; exact s1 _ _ rs.e)⟩, ?_⟩
      have kp0 : ∀ {Hc : Hp} {o : HO}, Same H Hc → Same H (upd Hc l1 o) := fun {Hc o} sm b u e => by
        rw [upd_ne (ne_of_none e nl1)]
        exact sm _ _ e
      refine for_tup (xs := xs) (fun i σ Hc => ∃ x11 x12 x13 x14 x15, σ = [some (.ref ap), some (.ref as_), some (.int n), some (.int y), some (.int (fl p 0)), some (.int (fl p 1)), some (.int (fl p 2)), some (.int (fl p 3)), some (.int (fl p 4)), some (.int (fl p 5)), some (.ref l1), x11, x12, x13, x14, x15] ∧ Same H Hc ∧ Hc l1 = some (.lst (((ss.take i).foldl (hstep n y) (base0 p)).map V.int))) ?_ ?_ ?_ ?_
      · exact ⟨none, none, none, none, none, rfl, kp0 s1, upd_same⟩
      · rintro i σ Hc hi ⟨x11, x12, x13, x14, x15, rfl, sm, el⟩
        exact SqT.of (sm _ _ rs.e)
      · rintro i x σ Hc hx ⟨x11, x12, x13, x14, x15, rfl, sm, el⟩
        have hi : i < ss.length := by
          have := (List.getElem?_eq_some_iff.mp hx).1
          rw [rs.l] at this
          exact this
        obtain ⟨tr, ex2, etr⟩ := rs.g i ss[i] (List.getElem?_eq_getElem hi)
        have : x = .ref tr := by
          rw [hx] at ex2
          exact Option.some.inj ex2
        subst this
        obtain ⟨o1, ⟨o2, o3⟩, o4, o5⟩ := oks ss[i] (List.getElem_mem hi)
        have s5 := five_row o1
        have etk : ss.take (i + 1) = ss.take i ++ [ss[i]] := by rw [List.take_add_one, List.getElem?_eq_getElem hi]; rfl
        have efold : (ss.take (i + 1)).foldl (hstep n y) (base0 p) = hstep n y ((ss.take i).foldl (hstep n y) (base0 p)) ss[i] := by rw [etk, List.foldl_append]; rfl
        rw [efold]
        generalize hL : (ss.take i).foldl (hstep n y) (base0 p) = L at el ⊢
        have lL : L.length = 8 := by
          have := heldL_len p (ss.take i) n y
          unfold heldL at this
          rw [if_pos hin, hL] at this
          exact this
        generalize ss[i] = r at etr s5 o2 o3 o4 o5 ⊢
        rw [s5] at etr
        refine ⟨tr, _, rfl, SqT.of (sm _ _ etr), rfl, _, _, rfl, _, _, rfl, _, _, rfl, _, _, rfl, _, _, rfl, rfl, ?_⟩
        refine ⟨_, rfl, _, rfl, rfl, _, rfl, ?_⟩
        by_cases hn : fl r 0 = n
        · rw [decide_eq_true (show V.int (fl r 0) = V.int n by rw [hn])]
          refine iteT ?_
          refine ⟨_, rfl, _, rfl, _, _, rfl, rfl, _, rfl, ?_⟩
          by_cases hy : fl r 4 ≤ y
          · rw [decide_eq_true hy]
            refine iteT ?_
            have e1 : hstep n y L r = hput (hput L (fl r 1) (-(fl r 3))) (fl r 2) (fl r 3) := if_pos ⟨hn, hy⟩
            rw [e1]
            refine rd_seq ?_
            refine ⟨_, rfl, _, rfl, l1, _, fl r 1, _, rfl, rfl, SqL.of el, o2, get_map (by omega), _, rfl, _, _, rfl, rfl, l1, _, fl r 1, (fl r 1).toNat, rfl, rfl, el, ix_in o2 (by rw [List.length_map]; omega), ?_⟩
            rw [set_map]
            have e2 : L.set (fl r 1).toNat (L.getD (fl r 1).toNat 0 - fl r 3) = hput L (fl r 1) (-(fl r 3)) := by
              unfold hput
              rw [Int.sub_eq_add_neg]
            rw [e2]
            generalize hL1 : hput L (fl r 1) (-(fl r 3)) = L1
            have lL1 : L1.length = 8 := by rw [← hL1, hput_len]; exact lL
            refine ⟨_, rfl, _, rfl, l1, _, fl r 2, _, rfl, rfl, SqL.of upd_same, o4, get_map (by omega), _, rfl, _, _, rfl, rfl, l1, _, fl r 2, (fl r 2).toNat, rfl, rfl, upd_same, ix_in o4 (by rw [List.length_map]; omega), ?_⟩
            rw [set_map]
            exact ⟨_, _, _, _, _, rfl, kp0 (kp0 sm), upd_same⟩
          · rw [decide_eq_false hy]
            refine iteF ?_
            have e1 : hstep n y L r = L := if_neg fun z => hy z.2
            rw [e1]
            exact ⟨_, _, _, _, _, rfl, sm, el⟩
        · rw [decide_eq_false (fun z : V.int (fl r 0) = V.int n => hn (by injection z))]
          refine iteF (iteF ?_)
          have e1 : hstep n y L r = L := if_neg fun z => hn z.1
          rw [e1]
          exact ⟨_, _, _, _, _, rfl, sm, el⟩
      · rintro σ Hc ⟨x11, x12, x13, x14, x15, rfl, sm, el⟩
        rw [rs.l, List.take_length] at el
        refine ⟨_, rfl, q _ _ sm ?_⟩
        unfold heldL
        rw [if_pos hin]
        exact el
    · have hb : (decide (fl p 2 ≤ y) && decide (y ≤ fl p 3)) = false := by
        cases e : (decide (fl p 2 ≤ y) && decide (y ≤ fl p 3)) with
        | false => rfl
        | true =>
          rw [Bool.and_eq_true, decide_eq_true_eq, decide_eq_true_eq] at e
          exact absurd e hin
      rw [hb]
      refine iteT ⟨_, rfl, q _ _ s1 ?_⟩
      unfold heldL
      rw [if_neg hin]
      exact el1
end
end K02

set_option Elab.async false
set_option linter.all false
set_option maxRecDepth 100000
set_option maxHeartbeats 1000000
namespace K02
open PySem L2
theorem comp_rng {te : TE} {lo : Int} {n : Nat} {σ0 : St} {j : Nat} {H0 : Hp} {Fin : List V → Hp → Prop} (Pv : List V → Hp → Prop) (h0 : Pv [] H0) (hz : n < sizeLine)
    (step : ∀ i ys H Q, i < n → ys.length = i → Pv ys H → (∀ y H', Pv (ys ++ [y]) H' → Q y H') → te (σ0.set j (some (.int (lo + i)))) H Q)
    (fin : ∀ ys H, ys.length = n → Pv ys H → Fin ys H) : CompW (Itr lo n) (gName j) tYes te Fin σ0 H0 := by
  refine ⟨fun i m ys σ H => m = n - i ∧ i ≤ n ∧ ys.length = i ∧ (∀ o, σ.set j o = σ0.set j o) ∧ Pv ys H, ⟨_, rfl, Nat.zero_le _, rfl, fun _ => rfl, h0⟩, ?_⟩
  rintro i m ys σ H ⟨rfl, hi, hy, hσ, p⟩
  refine ⟨by omega, ?_⟩
  by_cases hlt : i < n
  · refine .inr ⟨hlt, fun x H' y => ?_⟩
    obtain ⟨e, e2⟩ := y
    subst e
    subst e2
    show te (σ.set j (some (.int (lo + i)))) H' _
    rw [hσ]
    exact step i ys H' _ hlt hy p fun y H2 p2 => ⟨n - (i + 1), by omega, rfl, hlt, by rw [List.length_append, hy]; rfl, fun o => by rw [List.set_set], p2⟩
  · have e : i = n := by omega
    subst e
    exact .inl ⟨Nat.le_refl _, fin ys H hy p⟩
theorem ev_ne {σ : St} {H : Hp} {ta tb : TE} {i j : Int} (a : Ev σ H ta (.int i)) (b : Ev σ H tb (.int j)) : Ev σ H (tOp rNe ta tb) (.bl (!decide (i = j))) := fun Q q => a _ (b _ ⟨rfl, by
  have ed : decide (V.int i = V.int j) = decide (i = j) := decide_eq_decide.mpr ⟨fun z => by injection z, fun z => by rw [z]⟩
  rw [ed]
  exact q⟩)
theorem years_len (a b : Int) : (years a b).length = (b + 1 - a).toNat := by unfold years; rw [List.length_map, List.length_range]
theorem years_get {a b : Int} {i : Nat} (h : i < (b + 1 - a).toNat) : (years a b)[i]? = some (a + i) := by
  unfold years
  rw [List.getElem?_map, List.getElem?_range h]
  rfl
theorem snoc_take {α β : Type} {l : List α} {f : α → β} {ys : List β} {x : α} (ey : ys = (l.take ys.length).map f) (hx : l[ys.length]? = some x) : ys ++ [f x] = (l.take (ys ++ [f x]).length).map f := by
  rw [List.length_append, List.length_singleton, List.take_add_one, hx, List.map_append, ← ey]
  rfl
def spBetw : Sp := fun vs H Q _ => ∃ ap xp ps t s, vs = [.ref ap, .ref t] ∧ RowsAt H ap xp ps ∧ (∀ r ∈ ps, okP r) ∧ H t = some (.tup (s.map V.int)) ∧ s.length = 5 ∧ Q (.bl (betw ps s)) H
def spHolds : Sp := fun vs H Q _ => ∃ ap xp ps as_ xs ss t s, vs = [.ref ap, .ref as_, .ref t] ∧ RowsAt H ap xp ps ∧ (∀ r ∈ ps, okP r) ∧ RowsAt H as_ xs ss ∧ ss.length ≤ 12 ∧ (∀ s ∈ ss, okS s) ∧ H t = some (.tup (s.map V.int)) ∧ s.length = 5 ∧ ∀ H', Same H H' → Q (.bl (holdsB ps ss s)) H'
def unV : Option Nat → V
  | none => .non
  | some i => .int i
theorem prom_ok {ps : List (List Int)} {n : Int} (h : ∀ r ∈ ps, okP r) (h0 : 0 ≤ n) (h1 : n < ps.length) : ∃ p, ps[n.toNat]? = some p ∧ ps.getD n.toNat [] = p ∧ okP p := by
  have hn : n.toNat < ps.length := by omega
  refine ⟨ps[n.toNat], List.getElem?_eq_getElem hn, ?_, h _ (List.getElem_mem hn)⟩
  rw [List.getD_eq_getElem?_getD, List.getElem?_eq_getElem hn]
  rfl
theorem rows_at {H : Hp} {a : Addr} {xs : List V} {rs : List (List Int)} {n : Int} {r : List Int} (h : RowsAt H a xs rs) (h0 : 0 ≤ n) (e : rs[n.toNat]? = some r) : ∃ t, atI xs n = some (.ref t) ∧ H t = some (.tup (r.map V.int)) := by
  obtain ⟨t, e1, e2⟩ := h.g _ _ e
  refine ⟨t, ?_, e2⟩
  have := atI_nat e1
  rw [show ((n.toNat : Nat) : Int) = n by omega] at this
  exact this
section
variable {P : Program} {w : World} {K : PySem.W.Frag} {mg : Str → Option Value} {base : Heap}
theorem sc24s : FnScope ["promises", "sale", "number", "seller", "buyer", "sacks", "year", "holder", "sort", "first", "last", "due", "price"] ["promises", "sale"] (defScope (top 35)) := ⟨rfl, rfl, rfl, by decide +kernel, rfl, by decide +kernel, by decide +kernel⟩
theorem ok_betw {f : Addr} {fd : FuncData} (F : Fun K "is_sale_between" "is_sale_between" (top 35) f fd) (T : Mg mg) (N : Nums mg) : FnOk P w K mg base CX0 1 f fd ["promises", "sale"] spBetw := by
  refine F.ok sc24s (fun vs H Q E h => ?_) (fun cdv A outer s H vs Q E hr h => ?_)
  · obtain ⟨ap, xp, ps, t, r, rfl, _⟩ := h
    rfl
  · obtain ⟨ap, xp, ps, t, r, rfl, rp, okp, et, h5, q⟩ := h
    obtain ⟨t1, e1⟩ := N.holders
    obtain ⟨t4, e4⟩ := N.sacks
    refine ⟨_, pss_cons (ps_asg (pv 1) (pg_tup rfl (pgs_cons (pg_name (i := 2) sc24s.nd rfl (Or.inl rfl)) (pgs_cons (pg_name (i := 3) sc24s.nd rfl (Or.inl rfl)) (pgs_cons (pg_name (i := 4) sc24s.nd rfl (Or.inl rfl)) (pgs_cons (pg_name (i := 5) sc24s.nd rfl (Or.inl rfl)) (pgs_cons (pg_name (i := 6) sc24s.nd rfl (Or.inl rfl)) pgs_nil)))))))
      (pss_cons (ps_if (pt_not (pt_chain op_le op_lt pe_int (pv 2) (pe_callB call_len_seq rfl T.len PySem.boot_len (pa_c (pv 0) pa_nil)))) (pss_one (ps_ret pe_bl)) pss_nil)
      (pss_cons (ps_asg (pe_ix ix_tup (pv 0) (pv 2) (fun _ _ => rfl)) (pg_tup rfl (pgs_cons (pg_name (i := 7) sc24s.nd rfl (Or.inl rfl)) (pgs_cons (pg_name (i := 8) sc24s.nd rfl (Or.inl rfl)) (pgs_cons (pg_name (i := 9) sc24s.nd rfl (Or.inl rfl))
        (pgs_cons (pg_name (i := 10) sc24s.nd rfl (Or.inl rfl)) (pgs_cons (pg_name (i := 11) sc24s.nd rfl (Or.inl rfl)) (pgs_cons (pg_name (i := 12) sc24s.nd rfl (Or.inl rfl)) pgs_nil))))))))
      (pss_one (ps_ret (pe_and (pe_chain op_le op_lt pe_int (pv 3) (pe_glob (v := .int 8) rfl e1 ⟨_, rfl⟩)) (pe_and (pe_chain op_le op_lt pe_int (pv 4) (pe_glob (v := .int 8) rfl e1 ⟨_, rfl⟩)) (pe_and (pe_cmpR op_ne (pv 3) (pv 4) (nomark _))
        (pe_and (pe_chain op_le op_le pe_int (pv 5) (pe_glob (v := .int 99) rfl e4 ⟨_, rfl⟩)) (pe_one (pe_chain op_le op_le (pv 9) (pv 6) (pv 10))))))))))), ?_⟩
    rw [five_row h5] at et
    refine rd_seq ?_
    refine ⟨_, rfl, t, _, rfl, SqT.of et, rfl, _, _, rfl, _, _, rfl, _, _, rfl, _, _, rfl, _, _, rfl, rfl, ?_⟩
    dsimp only
    refine rd_seq ?_
    refine ev_chain (p := fun i j => decide (i ≤ j)) (q := fun i j => decide (i < j)) (i := 0) (j := fl r 0) (k := (xp.length : Int)) ev_c (ev_v rfl) (fun Q h => ⟨_, rfl, ap, xp, rfl, .inr (SqT.of rp.e), h⟩) _ ⟨_, rfl, ?_⟩
    have fin := q
    unfold betw at fin
    rw [rp.l]
    cases e : (decide (0 ≤ fl r 0) && decide (fl r 0 < ps.length)) with
    | false =>
      rw [e] at fin
      exact iteT fin
    | true =>
      rw [e] at fin
      rw [Bool.and_eq_true, decide_eq_true_eq, decide_eq_true_eq] at e
      obtain ⟨p, hp, ep, op⟩ := prom_ok okp e.1 e.2
      obtain ⟨tp, hat, etp⟩ := rows_at rp e.1 hp
      rw [six_row op.1] at etp
      refine iteF ?_
      refine rd_next ?_
      dsimp only
      refine rd_seq ?_
      refine ⟨_, rfl, _, rfl, ap, xp, _, .ref tp, rfl, rfl, SqT.of rp.e, hat, ?_⟩
      refine ⟨tp, _, rfl, SqT.of etp, rfl, _, _, rfl, _, _, rfl, _, _, rfl, _, _, rfl, _, _, rfl, _, _, rfl, rfl, ?_⟩
      have epr : prom ps r = p := ep
      rw [epr] at fin
      exact ev_and (ev_chain ev_c (ev_v rfl) ev_c) (fun _ => ev_and (ev_chain ev_c (ev_v rfl) ev_c) fun _ => ev_and (ev_ne (ev_v rfl) (ev_v rfl)) fun _ => ev_and (ev_chain ev_c (ev_v rfl) ev_c) fun _ => ev_chain (ev_v rfl) (ev_v rfl) (ev_v rfl)) _ fin
theorem sc25s : FnScope ["promises", "ahead", "sale", "number", "seller", "buyer", "sacks", "year", "last"] ["promises", "ahead", "sale"] (defScope (top 36)) := ⟨rfl, rfl, rfl, by decide +kernel, rfl, by decide +kernel, by decide +kernel⟩
theorem nd25 : (["at", "promises", "ahead", "number", "seller", "sacks"] : List Str).Nodup := by decide +kernel
theorem ok_holds {f : Addr} {fd : FuncData} (F : Fun K "sale_holds" "sale_holds" (top 36) f fd) (T : Mg mg) (Tr : mg "range" = none) (c1 : Cal P w K mg base 1 "is_sale_between" ["promises", "sale"] spBetw) (c2 : Cal P w K mg base 1 "held_in" ["promises", "sales", "number", "year"] spHeld) :
    FnOk P w K mg base CX0 2 f fd ["promises", "ahead", "sale"] spHolds := by
  refine F.ok sc25s (fun vs H Q E h => ?_) (fun cdv A outer s H vs Q E hr h => ?_)
  · obtain ⟨ap, xp, ps, as_, xs, ss, t, r, rfl, _⟩ := h
    rfl
  · obtain ⟨ap, xp, ps, as_, xs, ss, t, r, rfl, rp, okp, rs, hl, oks, et, h5, q⟩ := h
    refine ⟨_, pss_cons (ps_if (pt_not (pt_val (pe_cal c1 hr (Nat.le_refl _) rfl (pa_c (pv 0) (pa_c (pv 2) pa_nil))))) (pss_one (ps_ret pe_bl)) pss_nil)
      (pss_cons (ps_asg (pv 2) (pg_tup rfl (pgs_cons (pg_name (i := 3) sc25s.nd rfl (Or.inr rfl)) (pgs_cons (pg_name (i := 4) sc25s.nd rfl (Or.inr rfl)) (pgs_cons (pg_name (i := 5) sc25s.nd rfl (Or.inl rfl)) (pgs_cons (pg_name (i := 6) sc25s.nd rfl (Or.inr rfl)) (pgs_cons (pg_name (i := 7) sc25s.nd rfl (Or.inl rfl)) pgs_nil)))))))
      (pss_cons (ps_set (i := 8) sc25s.nd rfl (Or.inl rfl) (pe_ix ix_tup (pe_ix ix_tup (pv 0) (pv 3) (fun _ _ => rfl)) pe_int (fun _ _ => rfl)))
      (pss_one (ps_ret (pe_callB (call_all rfl) rfl T.all boot_all (pa_c (pe_comp ["at", "promises", "ahead", "number", "seller", "sacks"] [none, some 0, some 1, some 3, some 4, some 6] rfl (pi_range2 rfl Tr (pa_c (pv 7) (pa_c (pe_op op_add (pv 8) pe_int) pa_nil)))
        (fun C fp pins s₂ H₂ => ⟨pg_name (i := 0) nd25 rfl (Or.inl rfl), pts_nil, pe_cmpR op_ge (pe_ix (ix_listK (K := K) rfl) (pe_cal c2 hr (Nat.le_refl _) rfl (pa_c (pv 1) (pa_c (pv 2) (pa_c (pv 3) (pa_c (pv 0) pa_nil))))) (pv 4) (fun _ _ => rfl)) (pv 5) (nomark _)⟩)
        (fun C => ⟨⟨rfl, .inl rfl, rfl, .inl rfl⟩, ⟨rfl, .inl rfl, rfl, .inl rfl⟩, ⟨rfl, .inl rfl, rfl, .inl rfl⟩, ⟨rfl, .inl rfl, rfl, .inl rfl⟩, ⟨rfl, .inl rfl, rfl, .inl rfl⟩, trivial⟩) ⟨rfl, rfl, rfl, rfl⟩) pa_nil)))))), ?_⟩
    have fin := q
    unfold holdsB at fin
    refine rd_seq ?_
    refine ⟨_, rfl, _, rfl, ap, xp, ps, t, r, rfl, rp, okp, et, h5, _, rfl, ?_⟩
    cases e : betw ps r with
    | false =>
      rw [e] at fin
      exact iteT (fin _ (Same.refl _))
    | true =>
      rw [e] at fin
      refine iteF ?_
      refine rd_next ?_
      dsimp only
      refine rd_seq ?_
      unfold betw at e
      simp only [Bool.and_eq_true, decide_eq_true_eq] at e
      obtain ⟨⟨n0, n1⟩, ⟨b0, b1⟩, _, _, ⟨k0, k1⟩, y0, y1⟩ := e
      obtain ⟨p, hp, ep, op⟩ := prom_ok okp n0 n1
      have epr : prom ps r = p := ep
      rw [epr] at fin y0 y1
      obtain ⟨tp, hat, etp⟩ := rows_at rp n0 hp
      rw [five_row h5] at et
      rw [six_row op.1] at etp
      obtain ⟨_, _, _, ⟨g1, g2, g3⟩, _⟩ := id op
      refine ⟨_, rfl, t, _, rfl, SqT.of et, rfl, _, _, rfl, _, _, rfl, _, _, rfl, _, _, rfl, _, _, rfl, rfl, ?_⟩
      dsimp only
      refine rd_seq ?_
      refine rd_asg ?_
      refine ⟨_, rfl, _, rfl, ap, xp, _, .ref tp, rfl, rfl, SqT.of rp.e, hat, tp, _, 3, .int (fl p 3), rfl, rfl, SqT.of etp, rfl, ?_⟩
      refine rd_name ?_
      dsimp only
      refine ⟨_, rfl, _, rfl, _, _, rfl, rfl, fl r 4, fl p 3 + 1, rfl, ⟨by omega, by omega, by omega, by omega⟩, ?_⟩
      refine comp_rng (fun ys Hc => Same H Hc ∧ ys = ((years (fl r 4) (fl p 3)).take ys.length).map fun y => V.bl (decide (fl r 3 ≤ (heldL p ss (fl r 0) y).getD (fl r 1).toNat 0))) ⟨Same.refl _, rfl⟩ (by rw [sizeLine_eq]; omega) ?_ ?_
      · rintro i ys Hc Qc hi hy ⟨sc, ey⟩ qc
        refine ⟨_, rfl, _, rfl, _, rfl, _, rfl, ap, xp, ps, as_, xs, ss, fl r 0, fl r 4 + i, rfl, rp.same sc, rs.same sc, n0, n1, by rw [ep]; exact op, hl, oks, fun l H' s' el => ?_⟩
        rw [ep] at el
        refine ⟨_, rfl, l, _, fl r 1, .int ((heldL p ss (fl r 0) (fl r 4 + i)).getD (fl r 1).toNat 0), rfl, rfl, SqL.of el, ?_, _, rfl, _, _, rfl, rfl, qc _ _ ⟨sc.trans s', ?_⟩⟩
        · unfold atI
          rw [ix_in b0 (by rw [List.length_map, heldL_len]; omega)]
          exact get_map (by rw [heldL_len]; omega)
        · have hx : (years (fl r 4) (fl p 3))[ys.length]? = some (fl r 4 + (i : Int)) := by
            rw [hy]
            exact years_get hi
          exact snoc_take ey hx
      · rintro ys Hc hy ⟨sc, ey⟩ D hD
        rw [List.take_of_length_le (by rw [years_len, hy]; exact Nat.le_refl _)] at ey
        refine ⟨D, (years (fl r 4) (fl p 3)).map fun y => decide (fl r 3 ≤ (heldL p ss (fl r 0) y).getD (fl r 1).toNat 0), rfl, SqL.of (by rw [List.map_map]; rw [ey]; exact upd_same), ?_⟩
        rw [List.all_map]
        exact fin _ (sc.updR hD)
end
end K02

set_option Elab.async false
set_option linter.all false
set_option maxRecDepth 100000
set_option maxHeartbeats 1000000
namespace K02
open PySem L2
theorem cut_take {xs : List V} {i : Nat} (h : i ≤ xs.length) : cutV xs none (some (i : Int)) = xs.take i := by
  unfold cutV
  rw [HT.sIx_none, HT.sIx_nat, List.drop_zero, Nat.min_eq_left h, Nat.sub_zero]
theorem RowsAt.cut {H : Hp} {a p : Addr} {xs : List V} {rs : List (List Int)} (h : RowsAt H a xs rs) (i : Nat) (hp : H p = none) : RowsAt (upd H p (.tup (xs.take i))) p (xs.take i) (rs.take i) := by
  refine ⟨upd_same, by rw [List.length_take, List.length_take, h.l], fun j r e => ?_⟩
  have hj : j < i := by
    rw [List.getElem?_take] at e
    split at e
    · assumption
    · cases e
  rw [List.getElem?_take_of_lt hj] at e
  obtain ⟨t, e1, e2⟩ := h.g j r e
  exact ⟨t, by rw [List.getElem?_take_of_lt hj]; exact e1, Same.upd hp _ _ e2⟩
theorem un_some {ps ss : List (List Int)} {i : Nat} (h : ∀ j, j < i → holdsB ps (ss.take j) (ss.getD j []) = true) (hi : i < ss.length) (hn : holdsB ps (ss.take i) (ss.getD i []) = false) : un ps ss = some i := by
  unfold un
  rw [List.find?_range_eq_some]
  exact ⟨by rw [hn]; rfl, List.mem_range.mpr hi, fun j hj => by rw [h j hj]; rfl⟩
theorem un_none {ps ss : List (List Int)} (h : ∀ j, j < ss.length → holdsB ps (ss.take j) (ss.getD j []) = true) : un ps ss = none := by
  unfold un
  rw [List.find?_range_eq_none]
  exact fun j hj => by rw [h j hj]; rfl
theorem betw_okS {ps ss : List (List Int)} {s : List Int} (h5 : s.length = 5) (h : holdsB ps ss s = true) : okS s := by
  unfold holdsB betw at h
  simp only [Bool.and_eq_true, decide_eq_true_eq] at h
  exact ⟨h5, h.1.2.1, h.1.2.2.1⟩
theorem getD_get {ss : List (List Int)} {i : Nat} (h : i < ss.length) : ss.getD i [] = ss[i] := by
  rw [List.getD_eq_getElem?_getD, List.getElem?_eq_getElem h]
  rfl
section
variable {P : Program} {w : World} {K : PySem.W.Frag} {mg : Str → Option Value} {base : Heap}
theorem sc26s : FnScope ["promises", "sales", "at", "sale"] ["promises", "sales"] (defScope (top 37)) := ⟨rfl, rfl, rfl, by decide +kernel, rfl, by decide +kernel, by decide +kernel⟩
end
end K02

set_option Elab.async false
set_option linter.all false
set_option maxRecDepth 100000
set_option maxHeartbeats 1000000
namespace K02
open PySem L2
abbrev ky (n y : Int) : List Key := [.inl n, .inl y]
/-- the rows of the law: a dict of dicts at fo; dm: which there are; f: who has how many -/
structure Dts (fo : Addr) (H0 H : Hp) (dm : Int → Int → Prop) (f : Int → Int → Int → Int) (b : Int → Int → Nat) (kvs : List (List Key × V)) : Prop where
  sm : Same H0 H
  nf : H0 fo = none
  e : H fo = some (.dT kvs)
  g : ∀ n y, dm n y → ∃ d kv, valV kvs (ky n y) = some (.ref d) ∧ H d = some (.dK kv) ∧ kv.length ≤ b n y ∧ ∀ h, 0 ≤ h → h < 8 → (valV kv (.inl h)).getD (.int 0) = .int (f n y h)
  i : ∀ n y n' y' d, valV kvs (ky n y) = some (.ref d) → valV kvs (ky n' y') = some (.ref d) → n = n' ∧ y = y'
  fr : ∀ n y d, valV kvs (ky n y) = some (.ref d) → H0 d = none ∧ d ≠ fo ∧ ∃ o, H d = some o
theorem Dts.new {fo p : Addr} {o : HO} {H0 H : Hp} {dm : Int → Int → Prop} {f : Int → Int → Int → Int} {b : Int → Int → Nat} {kvs : List (List Key × V)} (g : Dts fo H0 H dm f b kvs) (hp : H p = none) : Dts fo H0 (upd H p o) dm f b kvs :=
  ⟨g.sm.updR hp, g.nf, Same.upd hp _ _ g.e, fun n y h => by
    obtain ⟨d, kv, e1, e2, r⟩ := g.g n y h
    exact ⟨d, kv, e1, Same.upd hp _ _ e2, r⟩, g.i, fun n y d h => by
    obtain ⟨e1, e2, o', e3⟩ := g.fr n y d h
    exact ⟨e1, e2, o', Same.upd hp _ _ e3⟩⟩
theorem Dts.same {fo : Addr} {H0 H H' : Hp} {dm : Int → Int → Prop} {f : Int → Int → Int → Int} {b : Int → Int → Nat} {kvs : List (List Key × V)} (g : Dts fo H0 H dm f b kvs) (s : Same H H') : Dts fo H0 H' dm f b kvs :=
  ⟨g.sm.trans s, g.nf, s _ _ g.e, fun n y h => by
    obtain ⟨d, kv, e1, e2, r⟩ := g.g n y h
    exact ⟨d, kv, e1, s _ _ e2, r⟩, g.i, fun n y d h => by
    obtain ⟨e1, e2, o', e3⟩ := g.fr n y d h
    exact ⟨e1, e2, o', s _ _ e3⟩⟩
theorem ky_inj {n y n' y' : Int} (h : ky n y = ky n' y') : n = n' ∧ y = y' := by
  injection h with h1 h2
  injection h2 with h2 _
  injection h1 with h1
  injection h2 with h2
  exact ⟨h1, h2⟩
theorem Dts.wr {fo d : Addr} {H0 H : Hp} {dm : Int → Int → Prop} {f f' : Int → Int → Int → Int} {b b' : Int → Int → Nat} {kvs : List (List Key × V)} {kv' : List (Key × V)} {N Y : Int} (g : Dts fo H0 H dm f b kvs) (hv : valV kvs (ky N Y) = some (.ref d))
    (h1 : kv'.length ≤ b' N Y ∧ ∀ h, 0 ≤ h → h < 8 → (valV kv' (.inl h)).getD (.int 0) = .int (f' N Y h)) (h2 : ∀ n y, dm n y → ¬ (n = N ∧ y = Y) → b n y ≤ b' n y ∧ ∀ h, 0 ≤ h → h < 8 → f' n y h = f n y h) : Dts fo H0 (upd H d (.dK kv')) dm f' b' kvs := by
  obtain ⟨w1, w2, _⟩ := g.fr _ _ _ hv
  refine ⟨fun c o e => by rw [upd_ne (ne_of_none e w1)]; exact g.sm _ _ e, g.nf, by rw [upd_ne w2.symm]; exact g.e, fun n y hd => ?_, g.i, fun n y d' hd => ?_⟩
  · by_cases hk : n = N ∧ y = Y
    · obtain ⟨rfl, rfl⟩ := hk
      exact ⟨d, kv', hv, upd_same, h1⟩
    · obtain ⟨d', kv, q1, q2, q3, q4⟩ := g.g n y hd
      have nd : d' ≠ d := fun z => hk (g.i _ _ _ _ _ (z ▸ q1) hv)
      obtain ⟨k1, k2⟩ := h2 n y hd hk
      exact ⟨d', kv, q1, by rw [upd_ne nd]; exact q2, Nat.le_trans q3 k1, fun h z1 z2 => by rw [k2 h z1 z2]; exact q4 h z1 z2⟩
  · obtain ⟨w3, w4, o, w5⟩ := g.fr n y d' hd
    by_cases hdd : d' = d
    · exact ⟨w3, w4, .dK kv', by rw [hdd]; exact upd_same⟩
    · exact ⟨w3, w4, o, by rw [upd_ne hdd]; exact w5⟩
theorem Dts.cast {fo : Addr} {H0 H : Hp} {dm : Int → Int → Prop} {f f' : Int → Int → Int → Int} {b b' : Int → Int → Nat} {kvs : List (List Key × V)} (g : Dts fo H0 H dm f b kvs) (h2 : ∀ n y, dm n y → b n y ≤ b' n y ∧ ∀ h, 0 ≤ h → h < 8 → f' n y h = f n y h) : Dts fo H0 H dm f' b' kvs :=
  ⟨g.sm, g.nf, g.e, fun n y hd => by
    obtain ⟨d', kv, q1, q2, q3, q4⟩ := g.g n y hd
    obtain ⟨k1, k2⟩ := h2 n y hd
    exact ⟨d', kv, q1, q2, Nat.le_trans q3 k1, fun h z1 z2 => by rw [k2 h z1 z2]; exact q4 h z1 z2⟩, g.i, g.fr⟩
def dom (ps : List (List Int)) (n y : Int) : Prop := 0 ≤ n ∧ n < ps.length ∧ fl (ps.getD n.toNat []) 2 ≤ y ∧ y ≤ fl (ps.getD n.toNat []) 3
def f0 (ps : List (List Int)) (n y h : Int) : Int := if h = fl (ps.getD n.toNat []) 0 then fl (ps.getD n.toNat []) 4 else 0
def spBegun : Sp := fun vs H Q _ => ∃ ap xp ps, vs = [.ref ap] ∧ RowsAt H ap xp ps ∧ ps.length ≤ 10 ∧ (∀ r ∈ ps, okP r) ∧ ∀ fo H' kvs, Dts fo H H' (dom ps) (f0 ps) (fun _ _ => 1) kvs → Q (.ref fo) H'
section
variable {P : Program} {w : World} {K : PySem.W.Frag} {mg : Str → Option Value} {base : Heap}
theorem sc34s : FnScope ["_law_promises_here", "_law_found", "_law_number", "_law_holder", "_law_sort", "_law_first", "_law_last", "_law_sacks", "_law_price", "_law_year"] ["_law_promises_here"] (defScope (top 43)) := ⟨rfl, rfl, rfl, by decide +kernel, rfl, by decide +kernel, by decide +kernel⟩
theorem ok_begun {f : Addr} {fd : FuncData} (F : Fun K "_law_begun" "_law_begun" (top 43) f fd) (Te : mg "enumerate" = none) (Tr : mg "range" = none) : FnOk P w K mg base CX0 1 f fd ["_law_promises_here"] spBegun := by
  refine F.ok sc34s (fun vs H Q E h => ?_) (fun cdv A outer s H vs Q E hr h => ?_)
  · obtain ⟨ap, xp, ps, rfl, _⟩ := h
    rfl
  · obtain ⟨ap, xp, ps, rfl, rp, lp, okp, q⟩ := h
    refine ⟨_, pss_cons (ps_set (i := 1) sc34s.nd rfl (Or.inl rfl) pe_dnewT)
      (pss_cons (ps_for PassesOwn.never rfl (pi_enum rfl Te (pa_c (pv 0) pa_nil)) (pg_tup rfl (pgs_cons (pg_name (i := 2) sc34s.nd rfl (Or.inl rfl)) (pgs_cons (pg_tup rfl (pgs_cons (pg_name (i := 3) sc34s.nd rfl (Or.inl rfl)) (pgs_cons (pg_name (i := 4) sc34s.nd rfl (Or.inl rfl)) (pgs_cons (pg_name (i := 5) sc34s.nd rfl (Or.inl rfl))
          (pgs_cons (pg_name (i := 6) sc34s.nd rfl (Or.inl rfl)) (pgs_cons (pg_name (i := 7) sc34s.nd rfl (Or.inl rfl)) (pgs_cons (pg_name (i := 8) sc34s.nd rfl (Or.inl rfl)) pgs_nil))))))) pgs_nil)))
        (pss_one (ps_for PassesOwn.never rfl (pi_range2 rfl Tr (pa_c (pv 5) (pa_c (pe_op op_add (pv 6) pe_int) pa_nil))) (pg_name (i := 9) sc34s.nd rfl (Or.inl rfl))
          (pss_one (ps_dput (hu_of hr) (pv 1) (pe_tup (pa_c (pv 2) (pa_c (pv 9) pa_nil))) (pe_disp (pps_cons (pv 3) (pv 7) pps_nil) rfl rfl (by simp) (by decide)) rfl)))))
      (pss_one (ps_ret (pv 1)))), ?_⟩
    refine rd_seq ?_
    refine rd_asg ?_
    refine fun fo hfo => ?_
    refine rd_name ?_
    dsimp only
    refine rd_seq ?_
    have d0 : Dts fo H (upd H fo (.dT [])) (fun _ _ => False) (f0 ps) (fun _ _ => 1) [] := ⟨Same.upd hfo, hfo, upd_same, fun _ _ z => z.elim, fun _ _ _ _ _ z => (by cases z), fun _ _ _ z => (by cases z)⟩
    generalize upd H fo (.dT []) = H1 at d0 ⊢
    refine ⟨_, rfl, ap, xp, rfl, SqT.of (d0.sm _ _ rp.e), ?_⟩
    refine for_enum (xs := xp) (fun i σ Hc => ∃ x2 x3 x4 x5 x6 x7 x8 x9 kvs, σ = [some (.ref ap), some (.ref fo), x2, x3, x4, x5, x6, x7, x8, x9] ∧ Dts fo H Hc (fun n y => dom ps n y ∧ n < i) (f0 ps) (fun _ _ => 1) kvs ∧ kvs.length ≤ 20 * i) ?_ ?_ ?_ ?_
    · exact ⟨none, none, none, none, none, none, none, none, [], rfl, ⟨d0.sm, d0.nf, d0.e, fun n y z => by
        have := z.1.1
        have := z.2
        omega, d0.i, d0.fr⟩, Nat.le_refl _⟩
    · rintro i σ Hc hi ⟨x2, x3, x4, x5, x6, x7, x8, x9, kvs, rfl, dt, lk⟩
      exact SqT.of (dt.sm _ _ rp.e)
    · rintro i x σ Hc T0 hx ⟨x2, x3, x4, x5, x6, x7, x8, x9, kvs, rfl, dt, lk⟩ nT
      have hi : i < ps.length := by
        have := (List.getElem?_eq_some_iff.mp hx).1
        rw [rp.l] at this
        exact this
      obtain ⟨tr, ex2, etr⟩ := rp.g i ps[i] (List.getElem?_eq_getElem hi)
      have : x = .ref tr := by
        rw [hx] at ex2
        exact Option.some.inj ex2
      subst this
      have op := okp ps[i] (List.getElem_mem hi)
      have ep : ps.getD ((i : Int)).toNat [] = ps[i] := by
        rw [Int.toNat_natCast]
        exact getD_get hi
      have dT := dt.new (o := .tup [V.int i, V.ref tr]) nT
      generalize hpi : ps[i] = p at etr op ep
      have et2 := dT.sm _ _ etr
      rw [six_row op.1] at et2
      obtain ⟨_, ⟨a1, a2⟩, _, ⟨c1, c2, c3⟩, ⟨e1, e2⟩, _⟩ := op
      refine ⟨T0, _, rfl, SqT.of upd_same, rfl, _, _, rfl, _, _, rfl, ?_⟩
      refine ⟨tr, _, rfl, SqT.of et2, rfl, _, _, rfl, _, _, rfl, _, _, rfl, _, _, rfl, _, _, rfl, _, _, rfl, rfl, rfl, ?_⟩
      refine ⟨_, rfl, _, rfl, _, _, rfl, rfl, fl p 2, fl p 3 + 1, rfl, ⟨by omega, by omega, by omega, by omega⟩, ?_⟩
      generalize upd Hc T0 (.tup [V.int i, V.ref tr]) = H2 at dT ⊢
      refine for_range (lo := fl p 2) (n := (fl p 3 + 1 - fl p 2).toNat) (fun j σ Hj => ∃ x9 kvs, σ = [some (.ref ap), some (.ref fo), some (.int i), some (.int (fl p 0)), some (.int (fl p 1)), some (.int (fl p 2)), some (.int (fl p 3)), some (.int (fl p 4)), some (.int (fl p 5)), x9] ∧ Dts fo H Hj (fun n y => dom ps n y ∧ (n < i ∨ (n = i ∧ y < fl p 2 + j))) (f0 ps) (fun _ _ => 1) kvs ∧ kvs.length ≤ 20 * i + j) ?_ ?_ ?_
      · exact ⟨x9, kvs, rfl, ⟨dT.sm, dT.nf, dT.e, fun n y z => dT.g n y ⟨z.1, by
          rcases z.2 with z2 | ⟨z2, z3⟩
          · exact z2
          · obtain ⟨_, _, w1, _⟩ := z.1
            rw [z2, ep] at w1
            omega⟩, dT.i, dT.fr⟩, lk⟩
      · rintro j σ Hj hj ⟨x9, kvs, rfl, dj, lj⟩
        refine rd_name ?_
        refine fun p1 hp1 => ?_
        refine ⟨_, rfl, _, rfl, upd_same, [(.inl (fl p 0), .int (fl p 4))], rfl, (by show 1 ≤ 15; decide), ?_⟩
        have hD : ∀ b o, Hj b = some o → upd (upd Hj p1 (.dK [])) p1 (.dK (mergeK [] [(.inl (fl p 0), .int (fl p 4))])) b = some o := fun b o e => by
          rw [upd_ne (ne_of_none e hp1), upd_ne (ne_of_none e hp1)]
          exact e
        have e1' : upd (upd Hj p1 (.dK [])) p1 (.dK (mergeK [] [(.inl (fl p 0), .int (fl p 4))])) p1 = some (.dK [(.inl (fl p 0), .int (fl p 4))]) := upd_same
        generalize upd (upd Hj p1 (.dK [])) p1 (.dK (mergeK [] [(.inl (fl p 0), .int (fl p 4))])) = HD at hD e1' ⊢
        have nfo : p1 ≠ fo := fun z => by
          rw [z, dj.e] at hp1
          cases hp1
        refine ⟨_, rfl, _, rfl, _, rfl, (by show 2 ≤ sizeLine; decide), fun t ht => ⟨fo, _, rfl, DPut.t (k := ky i (fl p 2 + j)) (Same.upd ht _ _ (hD _ _ dj.e)) upd_same (by rw [sizeLine_eq]; omega), ?_⟩⟩
        have kp : ∀ b o, Hj b = some o → b ≠ fo → upd (upd HD t (.tup [V.int i, V.int (fl p 2 + j)])) fo (.dT (putK kvs (ky i (fl p 2 + j)) (.ref p1))) b = some o := fun b o e ne => by
          rw [upd_ne ne]
          exact Same.upd ht _ _ (hD _ _ e)
        have e1'' : upd (upd HD t (.tup [V.int i, V.int (fl p 2 + j)])) fo (.dT (putK kvs (ky i (fl p 2 + j)) (.ref p1))) p1 = some (.dK [(.inl (fl p 0), .int (fl p 4))]) := by
          rw [upd_ne nfo]
          exact Same.upd ht _ _ e1'
        have np1 : H p1 = none := dj.sm.free hp1
        refine ⟨_, _, rfl, ⟨fun b o e => kp b o (dj.sm _ _ e) (ne_of_none e dj.nf), dj.nf, upd_same, fun n y z => ?_, fun n y n' y' d z z' => ?_, fun n y d z => ?_⟩, ?_⟩
        · by_cases hk : ky n y = ky i (fl p 2 + j)
          · obtain ⟨rfl, rfl⟩ := ky_inj hk
            refine ⟨p1, _, by rw [valV_put, if_pos rfl], e1'', Nat.le_refl _, fun h h0 h8 => ?_⟩
            unfold f0
            rw [ep]
            by_cases hh : h = fl p 0
            · rw [if_pos hh, valV_pos (show (Sum.inl (fl p 0) : Key) = .inl h by rw [hh])]
              rfl
            · rw [if_neg hh, valV_neg (fun z => hh (by injection z with z; exact z.symm))]
              rfl
          · have hd : dom ps n y ∧ (n < i ∨ (n = i ∧ y < fl p 2 + j)) := ⟨z.1, by
              rcases z.2 with z2 | ⟨z2, z3⟩
              · exact .inl z2
              · refine .inr ⟨z2, ?_⟩
                have : y ≠ fl p 2 + j := fun w => hk (by rw [z2, w])
                omega⟩
            obtain ⟨d, kv, q1, q2, q3⟩ := dj.g n y hd
            exact ⟨d, kv, by rw [valV_put, if_neg hk]; exact q1, kp _ _ q2 (dj.fr n y d q1).2.1, q3⟩
        · rw [valV_put] at z z'
          have old : ∀ n y, valV kvs (ky n y) = some (.ref p1) → False := fun n y w => by
            obtain ⟨_, _, o, w3⟩ := dj.fr n y p1 w
            rw [hp1] at w3
            cases w3
          by_cases h1 : ky n y = ky i (fl p 2 + j)
          · rw [if_pos h1] at z
            by_cases h2 : ky n' y' = ky i (fl p 2 + j)
            · exact ky_inj (h1.trans h2.symm)
            · rw [if_neg h2] at z'
              injection z with z
              injection z with z
              rw [← z] at z'
              exact (old _ _ z').elim
          · rw [if_neg h1] at z
            by_cases h2 : ky n' y' = ky i (fl p 2 + j)
            · rw [if_pos h2] at z'
              injection z' with z'
              injection z' with z'
              rw [← z'] at z
              exact (old _ _ z).elim
            · rw [if_neg h2] at z'
              exact dj.i _ _ _ _ _ z z'
        · rw [valV_put] at z
          by_cases h1 : ky n y = ky i (fl p 2 + j)
          · rw [if_pos h1] at z
            injection z with z
            injection z with z
            rw [← z]
            exact ⟨np1, nfo, _, e1''⟩
          · rw [if_neg h1] at z
            obtain ⟨w1, w2, o, w3⟩ := dj.fr n y d z
            exact ⟨w1, w2, o, kp _ _ w3 w2⟩
        · have := length_putK kvs (ky i (fl p 2 + j)) (V.ref p1)
          omega
      · rintro σ Hj ⟨x9, kvs, rfl, dj, lj⟩
        refine ⟨_, _, _, _, _, _, _, _, kvs, rfl, ⟨dj.sm, dj.nf, dj.e, fun n y z => dj.g n y ⟨z.1, ?_⟩, dj.i, dj.fr⟩, by omega⟩
        by_cases hn : n < i
        · exact .inl hn
        · have e9 : n = i := by
            have := z.2
            omega
          refine .inr ⟨e9, ?_⟩
          obtain ⟨_, _, _, w1⟩ := z.1
          rw [e9, ep] at w1
          omega
    · rintro σ Hc ⟨x2, x3, x4, x5, x6, x7, x8, x9, kvs, rfl, dt, lk⟩
      refine ⟨_, rfl, q fo Hc kvs ⟨dt.sm, dt.nf, dt.e, fun n y z => dt.g n y ⟨z, ?_⟩, dt.i, dt.fr⟩⟩
      rw [rp.l]
      exact z.2.1
end
end K02

set_option Elab.async false
set_option linter.all false
set_option maxRecDepth 100000
set_option maxHeartbeats 2000000
namespace K02
open PySem L2
def holdsF (ps : List (List Int)) (f : Int → Int → Int → Int) (s : List Int) : Bool := betw ps s && (years (fl s 4) (fl (prom ps s) 3)).all fun y => decide (fl s 3 ≤ f (fl s 0) y (fl s 1))
def spLHolds : Sp := fun vs H Q _ => ∃ ap xp ps fo H0 f b kvs t s, vs = [.ref ap, .ref fo, .ref t] ∧ RowsAt H ap xp ps ∧ (∀ r ∈ ps, okP r) ∧ Dts fo H0 H (dom ps) f b kvs ∧ H t = some (.tup (s.map V.int)) ∧ s.length = 5 ∧ ∀ H', Same H H' → Q (.bl (holdsF ps f s)) H'
theorem min_all {ns : List Int} {M k : Int} (h1 : M ∈ ns) (h2 : ∀ a ∈ ns, M ≤ a) : decide (k ≤ M) = ns.all fun a => decide (k ≤ a) := by
  rw [Bool.eq_iff_iff, decide_eq_true_eq, List.all_eq_true]
  exact ⟨fun h a ha => decide_eq_true (Int.le_trans h (h2 a ha)), fun h => of_decide_eq_true (h M h1)⟩
theorem ev_eq {σ : St} {H : Hp} {ta tb : TE} {i j : Int} (a : Ev σ H ta (.int i)) (b : Ev σ H tb (.int j)) : Ev σ H (tOp rEq ta tb) (.bl (decide (i = j))) := fun Q q => a _ (b _ ⟨rfl, by
  have ed : decide (V.int i = V.int j) = decide (i = j) := decide_eq_decide.mpr ⟨fun z => by injection z, fun z => by rw [z]⟩
  rw [ed]
  exact q⟩)
section
variable {P : Program} {w : World} {K : PySem.W.Frag} {mg : Str → Option Value} {base : Heap}
theorem sc35s : FnScope ["_law_promises_here", "_law_rows", "_law_sale", "_law_number", "_law_seller", "_law_buyer", "_law_sacks", "_law_year", "_law_first", "_law_last"] ["_law_promises_here", "_law_rows", "_law_sale"] (defScope (top 44)) := ⟨rfl, rfl, rfl, by decide +kernel, rfl, by decide +kernel, by decide +kernel⟩
theorem nd35 : (["_law_one", "_law_rows", "_law_number", "_law_seller"] : List Str).Nodup := by decide +kernel
theorem ok_lholds {f : Addr} {fd : FuncData} (F : Fun K "_law_holds" "_law_holds" (top 44) f fd) (T : Mg mg) (Tr : mg "range" = none) (Tm : mg "min" = none) : FnOk P w K mg base CX0 1 f fd ["_law_promises_here", "_law_rows", "_law_sale"] spLHolds := by
  refine F.ok sc35s (fun vs H Q E h => ?_) (fun cdv A outer s H vs Q E hr h => ?_)
  · obtain ⟨ap, xp, ps, fo, H0, g, b, kvs, t, r, rfl, _⟩ := h
    rfl
  · obtain ⟨ap, xp, ps, fo, H0, g, b, kvs, t, r, rfl, rp, okp, dt, et, h5, q⟩ := h
    refine ⟨_, pss_cons (ps_asg (pv 2) (pg_tup rfl (pgs_cons (pg_name (i := 3) sc35s.nd rfl (Or.inr rfl)) (pgs_cons (pg_name (i := 4) sc35s.nd rfl (Or.inr rfl)) (pgs_cons (pg_name (i := 5) sc35s.nd rfl (Or.inl rfl)) (pgs_cons (pg_name (i := 6) sc35s.nd rfl (Or.inl rfl)) (pgs_cons (pg_name (i := 7) sc35s.nd rfl (Or.inl rfl)) pgs_nil)))))))
      (pss_cons (ps_if (PW.pt (pw_or (pt_not (pt_chain op_le op_lt pe_int (pv 3) (pe_callB call_len_seq rfl T.len PySem.boot_len (pa_c (pv 0) pa_nil)))) (pw_or (pt_not (pt_chain op_le op_le pe_int (pv 4) pe_int)) (pw_or (pt_not (pt_chain op_le op_le pe_int (pv 5) pe_int)) (pw_or1 (pt_cmpR op_eq (pv 4) (pv 5) (nomark _))))))) (pss_one (ps_ret pe_bl)) pss_nil)
      (pss_cons (ps_par (i := 8) (j := 9) rfl sc35s.nd rfl rfl (by decide) rfl rfl (pa_c (pe_ix ix_tup (pe_ix ix_tup (pv 0) (pv 3) (fun _ _ => rfl)) pe_int (fun _ _ => rfl)) (pa_c (pe_ix ix_tup (pe_ix ix_tup (pv 0) (pv 3) (fun _ _ => rfl)) pe_int (fun _ _ => rfl)) pa_nil)) rfl)
      (pss_cons (ps_if (PW.pt (pw_or (pt_not (pt_chain op_le op_le pe_int (pv 6) pe_int)) (pw_or1 (pt_not (pt_chain op_le op_le (pv 8) (pv 7) (pv 9)))))) (pss_one (ps_ret pe_bl)) pss_nil)
      (pss_one (ps_ret (pe_cmpR op_ge (pe_callB (call_min_list rfl) rfl Tm boot_min (pa_c (pe_comp ["_law_one", "_law_rows", "_law_number", "_law_seller"] [none, some 1, some 3, some 4] rfl (pi_range2 rfl Tr (pa_c (pv 7) (pa_c (pe_op op_add (pv 9) pe_int) pa_nil)))
        (fun C fp pins s₂ H₂ => ⟨pg_name (i := 0) nd35 rfl (Or.inl rfl), pts_nil, pe_dget2 (hu_of hr) (pe_dget (hu_of hr) (pv 1) (pe_tup (pa_c (pv 2) (pa_c (pv 0) pa_nil))) (fun _ _ => rfl)) (pv 3) pe_int (by constructor <;> rfl)⟩)
        (fun C => ⟨⟨rfl, .inl rfl, rfl, .inl rfl⟩, ⟨rfl, .inl rfl, rfl, .inl rfl⟩, ⟨rfl, .inl rfl, rfl, .inl rfl⟩, trivial⟩) ⟨rfl, rfl, rfl, rfl⟩) pa_nil)) (pv 6) (nomark _))))))), ?_⟩
    have fin := q
    unfold holdsF betw at fin
    rw [five_row h5] at et
    refine rd_seq ?_
    refine ⟨_, rfl, t, _, rfl, SqT.of et, rfl, _, _, rfl, _, _, rfl, _, _, rfl, _, _, rfl, _, _, rfl, rfl, ?_⟩
    dsimp only
    refine rd_seq ?_
    refine ev_chain (p := fun i j => decide (i ≤ j)) (q := fun i j => decide (i < j)) (i := 0) (j := fl r 0) (k := (xp.length : Int)) ev_c (ev_v rfl) (fun Q h => ⟨_, rfl, ap, xp, rfl, .inr (SqT.of rp.e), h⟩) _ ⟨_, rfl, ?_⟩
    rw [rp.l]
    cases e1 : (decide (0 ≤ fl r 0) && decide (fl r 0 < ps.length)) with
    | false =>
      rw [e1] at fin
      exact iteT (iteT (fin H (Same.refl H)))
    | true =>
    rw [e1] at fin
    refine iteF ?_
    refine ev_chain (p := fun i j => decide (i ≤ j)) (q := fun i j => decide (i ≤ j)) (i := 0) (j := fl r 1) (k := 7) ev_c (ev_v rfl) ev_c _ ⟨_, rfl, ?_⟩
    dsimp only
    rw [show decide (fl r 1 ≤ 7) = decide (fl r 1 < 8) from decide_eq_decide.mpr (by omega)]
    cases e2 : (decide (0 ≤ fl r 1) && decide (fl r 1 < 8)) with
    | false =>
      rw [e2] at fin
      exact iteT (iteT (fin H (Same.refl H)))
    | true =>
    rw [e2] at fin
    refine iteF ?_
    refine ev_chain (p := fun i j => decide (i ≤ j)) (q := fun i j => decide (i ≤ j)) (i := 0) (j := fl r 2) (k := 7) ev_c (ev_v rfl) ev_c _ ⟨_, rfl, ?_⟩
    dsimp only
    rw [show decide (fl r 2 ≤ 7) = decide (fl r 2 < 8) from decide_eq_decide.mpr (by omega)]
    cases e3 : (decide (0 ≤ fl r 2) && decide (fl r 2 < 8)) with
    | false =>
      rw [e3] at fin
      exact iteT (iteT (fin H (Same.refl H)))
    | true =>
    rw [e3] at fin
    refine iteF ?_
    refine ev_eq (i := fl r 1) (j := fl r 2) (ev_v rfl) (ev_v rfl) _ ⟨_, rfl, ?_⟩
    cases e4 : decide (fl r 1 = fl r 2) with
    | true =>
      rw [e4] at fin
      exact iteT (fin H (Same.refl H))
    | false =>
    rw [e4] at fin
    refine iteF ?_
    refine rd_next ?_
    dsimp only
    refine rd_seq ?_
    rw [Bool.and_eq_true, decide_eq_true_eq, decide_eq_true_eq] at e1 e2
    obtain ⟨p, hp, ep, op⟩ := prom_ok okp e1.1 e1.2
    have epr : prom ps r = p := ep
    rw [epr] at fin
    obtain ⟨tp, hat, etp⟩ := rows_at rp e1.1 hp
    rw [six_row op.1] at etp
    obtain ⟨_, _, _, ⟨g1, g2, g3⟩, _⟩ := id op
    refine ⟨_, rfl, _, rfl, ap, xp, _, .ref tp, rfl, rfl, SqT.of rp.e, hat, tp, _, 2, .int (fl p 2), rfl, rfl, SqT.of etp, rfl, ?_⟩
    refine ⟨_, rfl, _, rfl, ap, xp, _, .ref tp, rfl, rfl, SqT.of rp.e, hat, tp, _, 3, .int (fl p 3), rfl, rfl, SqT.of etp, rfl, ?_⟩
    refine ⟨_, _, rfl, ?_⟩
    dsimp only
    refine rd_seq ?_
    refine ev_chain (p := fun i j => decide (i ≤ j)) (q := fun i j => decide (i ≤ j)) (i := 1) (j := fl r 3) (k := 99) ev_c (ev_v rfl) ev_c _ ⟨_, rfl, ?_⟩
    dsimp only
    cases e5 : (decide (1 ≤ fl r 3) && decide (fl r 3 ≤ 99)) with
    | false =>
      rw [e5] at fin
      exact iteT (iteT (fin H (Same.refl H)))
    | true =>
    rw [e5] at fin
    refine iteF ?_
    refine ev_chain (p := fun i j => decide (i ≤ j)) (q := fun i j => decide (i ≤ j)) (i := fl p 2) (j := fl r 4) (k := fl p 3) (ev_v rfl) (ev_v rfl) (ev_v rfl) _ ⟨_, rfl, ?_⟩
    dsimp only
    cases e6 : (decide (fl p 2 ≤ fl r 4) && decide (fl r 4 ≤ fl p 3)) with
    | false =>
      rw [e6] at fin
      exact iteT (fin H (Same.refl H))
    | true =>
    rw [e6] at fin
    rw [Bool.and_eq_true, decide_eq_true_eq, decide_eq_true_eq] at e6
    refine iteF ?_
    refine rd_next ?_
    dsimp only
    refine ⟨_, rfl, _, rfl, _, _, rfl, rfl, fl r 4, fl p 3 + 1, rfl, ⟨by omega, by omega, by omega, by omega⟩, ?_⟩
    refine comp_rng (fun ys Hc => Same H Hc ∧ ys = ((years (fl r 4) (fl p 3)).take ys.length).map fun y => V.int (g (fl r 0) y (fl r 1))) ⟨Same.refl _, rfl⟩ (by rw [sizeLine_eq]; omega) ?_ ?_
    · rintro i ys Hc Qc hi hy ⟨sc, ey⟩ qc
      refine ⟨_, rfl, _, rfl, _, rfl, (by show 2 ≤ sizeLine; decide), fun k hk => ?_⟩
      have sk := sc.updR (o := .tup [V.int (fl r 0), V.int (fl r 4 + i)]) hk
      have dk := dt.same sk
      obtain ⟨d, kv, q1, q2, q3, q4⟩ := dk.g (fl r 0) (fl r 4 + i) ⟨e1.1, e1.2, by rw [ep]; omega, by rw [ep]; omega⟩
      refine ⟨fo, .ref d, rfl, by rw [← q1]; exact DGet.t dk.e upd_same, ?_⟩
      refine ⟨d, rfl, .inl ⟨kv, .inl q2⟩, _, rfl, _, DGet.k (k := .inl (fl r 1)) q2, ?_⟩
      rw [q4 _ e2.1 e2.2]
      refine qc _ _ ⟨sk, ?_⟩
      have hx : (years (fl r 4) (fl p 3))[ys.length]? = some (fl r 4 + (i : Int)) := by
        rw [hy]
        exact years_get hi
      exact snoc_take ey hx
    · rintro ys Hc hy ⟨sc, ey⟩ D hD
      rw [List.take_of_length_le (by rw [years_len, hy]; exact Nat.le_refl _)] at ey
      refine ⟨D, (years (fl r 4) (fl p 3)).map fun y => g (fl r 0) y (fl r 1), rfl, SqL.of (by rw [List.map_map]; rw [ey]; exact upd_same), ?_, fun M h1 h2 => ⟨_, rfl, _, _, rfl, rfl, ?_⟩⟩
      · intro z
        have := congrArg List.length z
        rw [List.length_map, years_len, List.length_nil] at this
        omega
      · have em := min_all (k := fl r 3) h1 h2
        rw [List.all_map] at em
        show Q (.bl (decide (fl r 3 ≤ M))) _
        rw [em]
        exact fin _ (sc.updR hD)
end
end K02

set_option Elab.async false
set_option linter.all false
set_option maxRecDepth 100000
set_option maxHeartbeats 2000000
namespace K02
open PySem L2
def dl (s : List Int) (h : Int) : Int := (if h = fl s 2 then fl s 3 else 0) - (if h = fl s 1 then fl s 3 else 0)
def fS (f : Int → Int → Int → Int) (s : List Int) (n y h : Int) : Int := if n = fl s 0 ∧ fl s 4 ≤ y then f n y h + dl s h else f n y h
theorem upd_upd {H : Hp} {d : Addr} {a b : HO} : upd (upd H d a) d b = upd H d b := by
  funext c
  by_cases h : c = d
  · subst h
    rw [upd_same, upd_same]
  · rw [upd_ne h, upd_ne h, upd_ne h]
theorem hput_get {L : List Int} {i v h : Int} (hl : L.length = 8) (i0 : 0 ≤ i) (i1 : i < 8) (h0 : 0 ≤ h) (h1 : h < 8) : (hput L i v).getD h.toNat 0 = L.getD h.toNat 0 + (if h = i then v else 0) := by
  unfold hput
  rw [List.getD_eq_getElem?_getD, List.getElem?_set]
  by_cases hh : h = i
  · subst hh
    rw [if_pos rfl, if_pos rfl, if_pos (by omega)]
    rfl
  · rw [if_neg (by omega), if_neg hh, ← List.getD_eq_getElem?_getD]
    omega
theorem hstep_get {L s : List Int} {n y h : Int} (hl : L.length = 8) (ok : okS s) (h0 : 0 ≤ h) (h1 : h < 8) : (hstep n y L s).getD h.toNat 0 = if n = fl s 0 ∧ fl s 4 ≤ y then L.getD h.toNat 0 + dl s h else L.getD h.toNat 0 := by
  obtain ⟨_, ⟨a1, a2⟩, b1, b2⟩ := ok
  unfold hstep dl
  by_cases hc : fl s 0 = n ∧ fl s 4 ≤ y
  · rw [if_pos hc, if_pos ⟨hc.1.symm, hc.2⟩, hput_get (by rw [hput_len]; exact hl) b1 b2 h0 h1, hput_get hl a1 a2 h0 h1]
    split <;> split <;> omega
  · rw [if_neg hc, if_neg fun z => hc ⟨z.1.symm, z.2⟩]
theorem held_snoc {p s : List Int} {ss : List (List Int)} {n y h : Int} (hin : fl p 2 ≤ y ∧ y ≤ fl p 3) (ok : okS s) (h0 : 0 ≤ h) (h1 : h < 8) :
    (heldL p (ss ++ [s]) n y).getD h.toNat 0 = if n = fl s 0 ∧ fl s 4 ≤ y then (heldL p ss n y).getD h.toNat 0 + dl s h else (heldL p ss n y).getD h.toNat 0 := by
  have hl := heldL_len p ss n y
  have e : heldL p (ss ++ [s]) n y = hstep n y (heldL p ss n y) s := by
    unfold heldL
    rw [if_pos hin, if_pos hin, List.foldl_append]
    rfl
  rw [e, hstep_get hl ok h0 h1]
def spSell : Sp := fun vs H Q _ => ∃ ap xp ps fo H0 f b kvs t s, vs = [.ref ap, .ref fo, .ref t] ∧ RowsAt H ap xp ps ∧ (∀ r ∈ ps, okP r) ∧ Dts fo H0 H (dom ps) f (fun _ _ => b) kvs ∧ b ≤ 1000 ∧ H t = some (.tup (s.map V.int)) ∧ s.length = 5 ∧ holdsF ps f s = true ∧
  ∀ H', Dts fo H0 H' (dom ps) (fS f s) (fun _ _ => b + 2) kvs → Q .non H'
section
variable {P : Program} {w : World} {K : PySem.W.Frag} {mg : Str → Option Value} {base : Heap}
theorem sc36s : FnScope ["_law_promises_here", "_law_rows", "_law_sale", "_law_number", "_law_seller", "_law_buyer", "_law_sacks", "_law_year", "_law_one", "_law_row"] ["_law_promises_here", "_law_rows", "_law_sale"] (defScope (top 45)) := ⟨rfl, rfl, rfl, by decide +kernel, rfl, by decide +kernel, by decide +kernel⟩
theorem ok_sell {f : Addr} {fd : FuncData} (F : Fun K "_law_sell" "_law_sell" (top 45) f fd) (Tr : mg "range" = none) : FnOk P w K mg base CX0 1 f fd ["_law_promises_here", "_law_rows", "_law_sale"] spSell := by
  refine F.ok sc36s (fun vs H Q E h => ?_) (fun cdv A outer s H vs Q E hr h => ?_)
  · obtain ⟨ap, xp, ps, fo, H0, g, b, kvs, t, r, rfl, _⟩ := h
    rfl
  · obtain ⟨ap, xp, ps, fo, H0, g, b, kvs, t, r, rfl, rp, okp, dt, hb, et, h5, hh, q⟩ := h
    refine ⟨_, pss_cons (ps_asg (pv 2) (pg_tup rfl (pgs_cons (pg_name (i := 3) sc36s.nd rfl (Or.inl rfl)) (pgs_cons (pg_name (i := 4) sc36s.nd rfl (Or.inl rfl)) (pgs_cons (pg_name (i := 5) sc36s.nd rfl (Or.inl rfl)) (pgs_cons (pg_name (i := 6) sc36s.nd rfl (Or.inl rfl)) (pgs_cons (pg_name (i := 7) sc36s.nd rfl (Or.inl rfl)) pgs_nil)))))))
      (pss_one (ps_for PassesOwn.never rfl (pi_range2 rfl Tr (pa_c (pv 7) (pa_c (pe_op op_add (pe_ix ix_tup (pe_ix ix_tup (pv 0) (pv 3) (fun _ _ => rfl)) pe_int (fun _ _ => rfl)) pe_int) pa_nil))) (pg_name (i := 8) sc36s.nd rfl (Or.inl rfl))
        (pss_cons (ps_set (i := 9) sc36s.nd rfl (Or.inl rfl) (pe_dget (hu_of hr) (pv 1) (pe_tup (pa_c (pv 3) (pa_c (pv 8) pa_nil))) (fun _ _ => rfl)))
        (pss_cons (ps_dput (hu_of hr) (pv 9) (pv 4) (pe_op op_sub (pe_dget (hu_of hr) (pv 9) (pv 4) (fun _ _ => rfl)) (pv 6)) rfl)
        (pss_one (ps_dput (hu_of hr) (pv 9) (pv 5) (pe_op op_add (pe_dget2 (hu_of hr) (pv 9) (pv 5) pe_int (by constructor <;> rfl)) (pv 6)) rfl)))))), ?_⟩
    rw [five_row h5] at et
    unfold holdsF betw at hh
    simp only [Bool.and_eq_true, decide_eq_true_eq, Bool.not_eq_true', decide_eq_false_iff_not] at hh
    obtain ⟨⟨⟨n0, n1⟩, ⟨a1, a2⟩, ⟨b1, b2⟩, nab, ⟨k1, k2⟩, y0, y1⟩, hy⟩ := hh
    obtain ⟨p, hp, ep, op⟩ := prom_ok okp n0 n1
    have epr : prom ps r = p := ep
    rw [epr] at y0 y1 hy
    obtain ⟨tp, hat, etp⟩ := rows_at rp n0 hp
    rw [six_row op.1] at etp
    obtain ⟨_, _, _, ⟨g1, g2, g3⟩, _⟩ := id op
    refine rd_seq ?_
    refine ⟨_, rfl, t, _, rfl, SqT.of et, rfl, _, _, rfl, _, _, rfl, _, _, rfl, _, _, rfl, _, _, rfl, rfl, ?_⟩
    dsimp only
    refine ⟨_, rfl, _, rfl, _, rfl, ap, xp, _, .ref tp, rfl, rfl, SqT.of rp.e, hat, tp, _, 3, .int (fl p 3), rfl, rfl, SqT.of etp, rfl, _, _, rfl, rfl, fl r 4, fl p 3 + 1, rfl, ⟨by omega, by omega, by omega, by omega⟩, ?_⟩
    refine for_range (lo := fl r 4) (n := (fl p 3 + 1 - fl r 4).toNat) (fun j σ Hj => ∃ x8 x9, σ = [some (.ref ap), some (.ref fo), some (.ref t), some (.int (fl r 0)), some (.int (fl r 1)), some (.int (fl r 2)), some (.int (fl r 3)), some (.int (fl r 4)), x8, x9] ∧
      Dts fo H0 Hj (dom ps) (fun n y h => if n = fl r 0 ∧ fl r 4 ≤ y ∧ y < fl r 4 + j then g n y h + dl r h else g n y h) (fun n y => if n = fl r 0 ∧ fl r 4 ≤ y ∧ y < fl r 4 + j then b + 2 else b) kvs) ?_ ?_ ?_
    · refine ⟨none, none, rfl, dt.cast fun n y hd => ?_⟩
      rw [if_neg (by omega)]
      exact ⟨Nat.le_refl _, fun h _ _ => by rw [if_neg (by omega)]⟩
    · rintro j σ Hj hj ⟨x8, x9, rfl, dj⟩
      refine rd_name ?_
      refine rd_seq ?_
      refine rd_asg ?_
      refine ⟨_, rfl, _, rfl, _, rfl, (by show 2 ≤ sizeLine; decide), fun k hk => ?_⟩
      have dk := dj.new (o := .tup [V.int (fl r 0), V.int (fl r 4 + j)]) hk
      have ek : upd Hj k (.tup [V.int (fl r 0), V.int (fl r 4 + j)]) k = some (.tup ((ky (fl r 0) (fl r 4 + j)).map kV)) := upd_same
      generalize upd Hj k (.tup [V.int (fl r 0), V.int (fl r 4 + j)]) = H1 at dk ek ⊢
      have hdom : dom ps (fl r 0) (fl r 4 + j) := ⟨n0, n1, by rw [ep]; omega, by rw [ep]; omega⟩
      obtain ⟨d, kv, q1, q2, q3, q4⟩ := dk.g _ _ hdom
      rw [if_neg (by omega)] at q3
      refine ⟨fo, .ref d, rfl, by rw [← q1]; exact DGet.t dk.e ek, ?_⟩
      refine rd_name ?_
      dsimp only
      have fsel := q4 (fl r 1) a1 a2
      rw [if_neg (by omega)] at fsel
      have hge : fl r 3 ≤ g (fl r 0) (fl r 4 + j) (fl r 1) := by
        have := List.all_eq_true.mp hy (fl r 4 + j) (List.mem_of_getElem? (years_get hj))
        exact of_decide_eq_true this
      have vsel : valV kv (.inl (fl r 1)) = some (.int (g (fl r 0) (fl r 4 + j) (fl r 1))) := by
        cases ev : valV kv (.inl (fl r 1)) with
        | none =>
          rw [ev] at fsel
          injection fsel with fsel
          omega
        | some v =>
          rw [ev] at fsel
          exact congrArg some fsel
      have fbuy := q4 (fl r 2) b1 b2
      rw [if_neg (by omega)] at fbuy
      refine rd_seq ?_
      refine ⟨_, rfl, _, rfl, d, _, rfl, by rw [← vsel]; exact DGet.k (k := .inl (fl r 1)) q2, _, rfl, _, _, rfl, rfl, _, rfl, _, rfl, d, _, rfl, DPut.k (k := .inl (fl r 1)) q2 (by rw [sizeLine_eq]; omega), ?_⟩
      dsimp only
      have lp1 := length_putK kv (.inl (fl r 1)) (V.int (g (fl r 0) (fl r 4 + j) (fl r 1) - fl r 3))
      have vb : (valV (putK kv (.inl (fl r 1)) (V.int (g (fl r 0) (fl r 4 + j) (fl r 1) - fl r 3))) (.inl (fl r 2))).getD (.int 0) = .int (g (fl r 0) (fl r 4 + j) (fl r 2)) := by
        rw [valV_put, if_neg (fun z => nab (by injection z with z; exact z.symm))]
        exact fbuy
      refine ⟨_, rfl, d, rfl, .inl ⟨_, .inl upd_same⟩, _, rfl, _, DGet.k (k := .inl (fl r 2)) upd_same, _, rfl, _, _, vb, rfl, _, rfl, _, rfl, d, _, rfl, DPut.k (k := .inl (fl r 2)) upd_same (by rw [sizeLine_eq]; omega), ?_⟩
      have lp2 := length_putK (putK kv (.inl (fl r 1)) (V.int (g (fl r 0) (fl r 4 + j) (fl r 1) - fl r 3))) (.inl (fl r 2)) (V.int (g (fl r 0) (fl r 4 + j) (fl r 2) + fl r 3))
      refine ⟨_, _, rfl, ?_⟩
      rw [upd_upd]
      refine dk.wr q1 ⟨?_, fun h h0 h8 => ?_⟩ fun n y hd hne => ⟨?_, fun h h0 h8 => ?_⟩
      · rw [if_pos ⟨rfl, by omega, by omega⟩]
        exact Nat.le_trans (length_putK _ _ _) (Nat.succ_le_succ (Nat.le_trans (length_putK _ _ _) (Nat.succ_le_succ q3)))
      · rw [if_pos ⟨rfl, by omega, by omega⟩, valV_put]
        unfold dl
        by_cases hb2 : h = fl r 2
        · rw [if_pos (by rw [hb2]), if_pos hb2, if_neg (fun z => nab (z.symm.trans hb2))]
          show V.int _ = V.int _
          rw [hb2]
          congr 1
          omega
        · rw [if_neg (fun z => hb2 (by injection z)), if_neg hb2, valV_put]
          by_cases hs2 : h = fl r 1
          · rw [if_pos (by rw [hs2]), if_pos hs2]
            show V.int _ = V.int _
            rw [hs2]
            congr 1
            omega
          · rw [if_neg (fun z => hs2 (by injection z)), if_neg hs2]
            have := q4 h h0 h8
            rw [if_neg (by omega)] at this
            rw [this]
            congr 1
            omega
      · split <;> split <;> omega
      · by_cases hc : n = fl r 0 ∧ fl r 4 ≤ y ∧ y < fl r 4 + j
        · rw [if_pos hc, if_pos ⟨hc.1, hc.2.1, by omega⟩]
        · rw [if_neg hc, if_neg fun z => hc ⟨z.1, z.2.1, by
            have : y ≠ fl r 4 + j := fun w => hne ⟨z.1, w⟩
            omega⟩]
    · rintro σ Hj ⟨x8, x9, rfl, dj⟩
      refine q Hj (dj.cast fun n y hd => ⟨by split <;> omega, fun h h0 h8 => ?_⟩)
      unfold fS
      by_cases hc : n = fl r 0 ∧ fl r 4 ≤ y
      · have : y ≤ fl p 3 := by
          have := hd.2.2.2
          rw [hc.1, ep] at this
          exact this
        rw [if_pos hc, if_pos ⟨hc.1, hc.2, by omega⟩]
      · rw [if_neg hc, if_neg fun z => hc ⟨z.1, z.2.1⟩]
def spSold : Sp := fun vs H Q _ => ∃ ap xp ps as_ xs ss, vs = [.ref ap, .ref as_] ∧ RowsAt H ap xp ps ∧ ps.length ≤ 10 ∧ (∀ r ∈ ps, okP r) ∧ RowsAt H as_ xs ss ∧ ss.length ≤ 100 ∧ (∀ s ∈ ss, s.length = 5) ∧ ∀ t fo H', Same H H' → H' t = some (.tup [.ref fo, unV (un ps ss)]) → Q (.ref t) H'
theorem base_get {ps : List (List Int)} {n y h : Int} (ok : okP (ps.getD n.toNat [])) (hin : fl (ps.getD n.toNat []) 2 ≤ y ∧ y ≤ fl (ps.getD n.toNat []) 3) (h0 : 0 ≤ h) (h8 : h < 8) : (heldL (ps.getD n.toNat []) [] n y).getD h.toNat 0 = f0 ps n y h := by
  unfold heldL f0
  rw [if_pos hin]
  generalize ps.getD n.toNat [] = p at ok
  obtain ⟨_, ⟨a1, a2⟩, _⟩ := ok
  show (base0 p).getD h.toNat 0 = _
  unfold base0
  rw [List.getD_eq_getElem?_getD, List.getElem?_set]
  by_cases hh : h = fl p 0
  · rw [if_pos (by rw [hh]), if_pos (by rw [List.length_replicate]; omega), if_pos hh]
    rfl
  · rw [if_neg (by omega), if_neg hh, List.getElem?_replicate, if_pos (by omega)]
    rfl
theorem sc37s : FnScope ["_law_promises_here", "_law_sales_here", "_law_rows", "_law_at", "_law_sale"] ["_law_promises_here", "_law_sales_here"] (defScope (top 46)) := ⟨rfl, rfl, rfl, by decide +kernel, rfl, by decide +kernel, by decide +kernel⟩
theorem ok_sold {f : Addr} {fd : FuncData} (F : Fun K "_law_sold" "_law_sold" (top 46) f fd) (Te : mg "enumerate" = none) (c1 : Cal P w K mg base 1 "_law_begun" ["_law_promises_here"] spBegun) (c2 : Cal P w K mg base 1 "_law_holds" ["_law_promises_here", "_law_rows", "_law_sale"] spLHolds) (c3 : Cal P w K mg base 1 "_law_sell" ["_law_promises_here", "_law_rows", "_law_sale"] spSell) :
    FnOk P w K mg base CX0 2 f fd ["_law_promises_here", "_law_sales_here"] spSold := by
  refine F.ok sc37s (fun vs H Q E h => ?_) (fun cdv A outer s H vs Q E hr h => ?_)
  · obtain ⟨ap, xp, ps, as_, xs, ss, rfl, _⟩ := h
    rfl
  · obtain ⟨ap, xp, ps, as_, xs, ss, rfl, rp, lp, okp, rs, ls, oks, q⟩ := h
    refine ⟨_, pss_cons (ps_set (i := 2) sc37s.nd rfl (Or.inl rfl) (pe_cal c1 hr (Nat.le_refl _) rfl (pa_c (pv 0) pa_nil)))
      (pss_cons (ps_for PassesOwn.never rfl (pi_enum rfl Te (pa_c (pv 1) pa_nil)) (pg_tup rfl (pgs_cons (pg_name (i := 3) sc37s.nd rfl (Or.inl rfl)) (pgs_cons (pg_name (i := 4) sc37s.nd rfl (Or.inl rfl)) pgs_nil)))
        (pss_cons (ps_if (pt_not (pt_val (pe_cal c2 hr (Nat.le_refl _) rfl (pa_c (pv 0) (pa_c (pv 2) (pa_c (pv 4) pa_nil)))))) (pss_one (ps_ret (pe_tup (pa_c (pv 2) (pa_c (pv 3) pa_nil))))) pss_nil)
        (pss_one (ps_expr (pe_cal c3 hr (Nat.le_refl _) rfl (pa_c (pv 0) (pa_c (pv 2) (pa_c (pv 4) pa_nil))))))))
      (pss_one (ps_ret (pe_tup (pa_c (pv 2) (pa_c pe_non pa_nil)))))), ?_⟩
    refine rd_seq ?_
    refine rd_asg ?_
    refine ⟨_, rfl, ap, xp, ps, rfl, rp, lp, okp, fun fo H1 kvs d1 => ?_⟩
    refine rd_name ?_
    dsimp only
    refine rd_seq ?_
    refine ⟨_, rfl, as_, xs, rfl, SqT.of (d1.sm _ _ rs.e), ?_⟩
    have okd : ∀ n y, dom ps n y → okP (ps.getD n.toNat []) := fun n y hd => by
      obtain ⟨p, _, e2, e3⟩ := prom_ok okp hd.1 hd.2.1
      rw [e2]
      exact e3
    refine for_enum (xs := xs) (fun i σ Hc => ∃ x3 x4, σ = [some (.ref ap), some (.ref as_), some (.ref fo), x3, x4] ∧ Dts fo H Hc (dom ps) (fun n y h => (heldL (ps.getD n.toNat []) (ss.take i) n y).getD h.toNat 0) (fun _ _ => 1 + 2 * i) kvs ∧ ∀ j, j < i → holdsB ps (ss.take j) (ss.getD j []) = true) ?_ ?_ ?_ ?_
    · exact ⟨none, none, rfl, d1.cast fun n y hd => ⟨Nat.le_refl _, fun h h0 h8 => base_get (okd n y hd) hd.2.2 h0 h8⟩, fun j hj => absurd hj (Nat.not_lt_zero _)⟩
    · rintro i σ Hc hi ⟨x3, x4, rfl, dt, hh⟩
      exact SqT.of (dt.sm _ _ rs.e)
    · rintro i x σ Hc T0 hx ⟨x3, x4, rfl, dt, hh⟩ nT
      have hi : i < ss.length := by
        have := (List.getElem?_eq_some_iff.mp hx).1
        rw [rs.l] at this
        exact this
      obtain ⟨tr, ex2, etr⟩ := rs.g i ss[i] (List.getElem?_eq_getElem hi)
      have : x = .ref tr := by
        rw [hx] at ex2
        exact Option.some.inj ex2
      subst this
      have h5 := oks ss[i] (List.getElem_mem hi)
      have dT := dt.new (o := .tup [V.int i, V.ref tr]) nT
      have eT : upd Hc T0 (.tup [V.int i, V.ref tr]) T0 = some (.tup [V.int i, V.ref tr]) := upd_same
      generalize upd Hc T0 (.tup [V.int i, V.ref tr]) = H2 at dT eT ⊢
      refine ⟨T0, _, rfl, SqT.of eT, rfl, _, _, rfl, _, _, rfl, rfl, ?_⟩
      refine rd_seq ?_
      refine ⟨_, rfl, _, rfl, _, rfl, ap, xp, ps, fo, H, _, _, kvs, tr, ss[i], rfl, rp.same dT.sm, okp, dT, dT.sm _ _ etr, h5, fun H3 s3 => ⟨_, rfl, ?_⟩⟩
      have d3 := dT.same s3
      have ehb : holdsF ps (fun n y h => (heldL (ps.getD n.toNat []) (ss.take i) n y).getD h.toNat 0) ss[i] = holdsB ps (ss.take i) ss[i] := rfl
      cases eh : holdsB ps (ss.take i) ss[i] with
      | false =>
        rw [ehb, eh]
        refine iteT ⟨_, rfl, _, rfl, (by show 2 ≤ sizeLine; decide), fun t ht => q t fo _ (d3.sm.updR ht) ?_⟩
        rw [un_some hh hi (by rw [getD_get hi]; exact eh)]
        exact upd_same
      | true =>
        rw [ehb, eh]
        refine iteF ?_
        refine rd_next ?_
        refine ⟨_, rfl, _, rfl, _, rfl, ap, xp, ps, fo, H, _, 1 + 2 * i, kvs, tr, ss[i], rfl, rp.same d3.sm, okp, d3, by omega, d3.sm _ _ etr, h5, ehb.trans eh, fun H4 d4 => ?_⟩
        have etk : ss.take (i + 1) = ss.take i ++ [ss[i]] := by rw [List.take_add_one, List.getElem?_eq_getElem hi]; rfl
        refine ⟨_, _, rfl, d4.cast fun n y hd => ⟨by omega, fun h h0 h8 => ?_⟩, fun j hj => ?_⟩
        · rw [etk, held_snoc hd.2.2 (betw_okS h5 eh) h0 h8]
          rfl
        · rcases Nat.lt_succ_iff_lt_or_eq.mp hj with z | z
          · exact hh j z
          · rw [z, getD_get hi]
            exact eh
    · rintro σ Hc ⟨x3, x4, rfl, dt, hh⟩
      refine ⟨_, rfl, (by show 2 ≤ sizeLine; decide), fun t ht => q t fo _ (dt.sm.updR ht) ?_⟩
      rw [un_none fun j hj => hh j (by rw [rs.l]; exact hj)]
      exact upd_same
end
end K02

set_option Elab.async false
set_option linter.all false
set_option maxRecDepth 100000
set_option maxHeartbeats 4000000
namespace K02
open PySem L2
/-- new promises, out of the draws at st -/
def MadeP (st : Addr) (H : Hp) (n : Int) (v : V) (H' : Hp) : Prop := ∃ ps : List (List Int), But st H H' ∧ StAt H' st ∧ IsTh (fun _ => False) H' v (rowsD ps) ∧ (ps.length : Int) ≤ n ∧ ∀ r ∈ ps, okP r
section
variable {P : Program} {w : World} {K : PySem.W.Frag} {mg : Str → Option Value} {base : Heap}
def spProms2 : Sp := fun vs H Q _ => ∃ st n y, vs = [.ref st, .int n, .int y] ∧ StAt H st ∧ 1 ≤ n ∧ n ≤ 10 ∧ 0 ≤ y ∧ y ≤ 1000 ∧ ∀ v H', MadeP st H n v H' → Q v H'
theorem ok_promises2 {f : Addr} {fd : FuncData} (F : Fun K "_law_promises" "_law_promises" (top 42) f fd) (T : Mg mg) (Tr : mg "range" = none) (Tm : mg "min" = none) (c1 : Cal P w K mg base 1 "_law_take" ["_law_state_here", "_law_many"] spTake) : FnOk P w K mg base CX0 2 f fd ["_law_state_here", "_law_most", "_law_years"] spProms2 := by
  refine F.ok sc22 (fun vs H Q E h => ?_) (fun cdv A outer s H vs Q E hr h => ?_)
  · obtain ⟨st, n, y, rfl, _⟩ := h
    rfl
  · obtain ⟨st, n, y, rfl, hst, n1, n2, y1, y2, q⟩ := h
    refine ⟨_, pss_cons (ps_par (i := 3) (j := 4) rfl sc22.nd rfl rfl (by decide) rfl rfl (pa_c (pe_lst pa_nil) (pa_c (pe_ix ix_list (pe_lst (pa_ints (by repeat constructor))) (pe_cal c1 hr (by decide) rfl (pa_c (pv 0) (pa_c pe_int pa_nil))) (fun _ _ => rfl)) pa_nil)) rfl)
      (pss_cons (ps_for PassesOwn.never rfl (pi_range1 rfl Tr (pa_c (pe_cal c1 hr (by decide) rfl (pa_c (pv 0) (pa_c (pe_op op_add (pv 1) pe_int) pa_nil))) pa_nil)) (pg_name (i := 5) sc22.nd rfl (Or.inl rfl))
        (pss_cons (ps_set (i := 6) sc22.nd rfl (Or.inl rfl) (pe_cal c1 hr (by decide) rfl (pa_c (pv 0) (pa_c (pe_callB (call_min2 rfl) rfl Tm boot_min (pa_c pe_int (pa_c (pe_op op_add (pv 2) pe_int) pa_nil))) pa_nil))))
        (pss_cons (ps_set (i := 7) sc22.nd rfl (Or.inl rfl) (pe_callB (call_min2 rfl) rfl Tm boot_min (pa_c pe_int (pa_c (pe_op op_add (pv 6) (pe_cal c1 hr (by decide) rfl (pa_c (pv 0) (pa_c (pe_ix ix_list (pe_lst (pa_ints (by repeat constructor))) (pe_cal c1 hr (by decide) rfl (pa_c (pv 0) (pa_c pe_int pa_nil))) (fun _ _ => rfl)) pa_nil)))) pa_nil))))
        (pss_cons (ps_set (i := 8) sc22.nd rfl (Or.inl rfl) (pe_ix ix_list (pe_lstA (aa_c pe_int (aa_c pe_int (aa_c (pe_cal c1 hr (by decide) rfl (pa_c (pv 0) (pa_c pe_int pa_nil))) (aa_c (pe_op op_pow pe_int pe_int) aa_nil))))) (pe_cal c1 hr (by decide) rfl (pa_c (pv 0) (pa_c pe_int pa_nil))) (fun _ _ => rfl)))
        (pss_cons (ps_set (i := 9) sc22.nd rfl (Or.inl rfl) (pe_ix ix_list (pe_lstA (aa_c pe_int (aa_c pe_int (aa_c pe_int (aa_c (pe_cal c1 hr (by decide) rfl (pa_c (pv 0) (pa_c pe_int pa_nil))) aa_nil))))) (pe_cal c1 hr (by decide) rfl (pa_c (pv 0) (pa_c pe_int pa_nil))) (fun _ _ => rfl)))
        (pss_one (ps_expr (pe_bm PySem.F.plainAttrs_list PySem.F.slot_list_append PySem.F.type_list_append mt_append (pv 3) (pa_c (pe_be (be_tup (ab_c ⟨pv 9⟩ (ab_c ⟨pe_cal c1 hr (by decide) rfl (pa_c (pv 0) (pa_c pe_int pa_nil))⟩ (ab_c ⟨pv 6⟩ (ab_c ⟨pv 7⟩ (ab_c ⟨pe_op op_add pe_int (pe_cal c1 hr (by decide) rfl (pa_c (pv 0) (pa_c (pv 4) pa_nil)))⟩ (ab_c ⟨pv 8⟩ aa_nil)))))))) pa_nil)))))))))
      (pss_one (ps_ret (pe_callTy call_tuple_of rfl T.tuple boot_tuple (pa_c (pv 3) pa_nil))))), ?_⟩
    obtain ⟨a, b, es, h1, h2, h3⟩ := id hst
    refine rd_seq ?_
    refine ⟨(by show 0 ≤ sizeLine; decide), fun p3 hp3 => ?_⟩
    have np3 : p3 ≠ st := fun z => by
      rw [z, es] at hp3
      cases hp3
    have g0 : Mk3 st p3 [] [] H (upd H p3 (.lst [])) := ⟨fun b' o' e' _ => Same.upd hp3 _ _ e', ⟨a, b, Same.upd hp3 _ _ es, h1, h2, h3⟩, upd_same, .nil⟩
    refine ⟨(by show 3 ≤ sizeLine; decide), fun p hp => ?_⟩
    have g1 := g0.new (o := .lst (([3, 12, 99] : List Int).map V.int)) hp
    have np : p ≠ st := fun z => by
      obtain ⟨x, y, e7, _⟩ := g0.sa
      rw [z, e7] at hp
      cases hp
    refine ⟨_, rfl, st, 3, rfl, g1.sa, by decide, by decide, fun r a1 b1 r0 r1 k1 k2 k3 => ?_⟩
    obtain ⟨wd, hw, w1, w2⟩ : ∃ wd : Int, atI (([3, 12, 99] : List Int).map V.int) r = some (.int wd) ∧ 1 ≤ wd ∧ wd ≤ 99 := by
      have : r = 0 ∨ r = 1 ∨ r = 2 := by omega
      rcases this with rfl | rfl | rfl
      · exact ⟨3, rfl, by decide, by decide⟩
      · exact ⟨12, rfl, by decide, by decide⟩
      · exact ⟨99, rfl, by decide, by decide⟩
    refine ⟨p, _, r, .int wd, rfl, rfl, SqL.of (by rw [upd_ne np]; exact upd_same), hw, _, _, rfl, ?_⟩
    have g2 := g1.take np3 k1 k2 k3
    dsimp only
    refine rd_seq ?_
    refine ⟨_, rfl, _, rfl, _, _, rfl, rfl, st, n + 1, rfl, g2.sa, by omega, by omega, fun r2 a2 b2 x0 x1 z1 z2 z3 => ⟨r2, rfl, by omega, by omega, ?_⟩⟩
    have g3 := g2.take np3 z1 z2 z3
    refine for_range (lo := 0) (n := r2.toNat) (fun i σ H' => ∃ xs ds x5 x6 x7 x8 x9, σ = [some (.ref st), some (.int n), some (.int y), some (.ref p3), some (.int wd), x5, x6, x7, x8, x9] ∧ Mk3 st p3 xs ds H H' ∧ (∃ rs : List (List Int), ds = rs.map rowD ∧ rs.length = i ∧ ∀ r ∈ rs, okP r) ∧ xs.length = i) ?_ ?_ ?_
    · exact ⟨[], [], none, none, none, none, none, rfl, g3, ⟨[], rfl, rfl, fun _ h => nomatch h⟩, rfl⟩
    · rintro i σ H' hi ⟨xs, ds, x5, x6, x7, x8, x9, rfl, g, ⟨rs, ers, lrs, okr⟩, hl⟩
      have nst : ∀ {Hc : Hp} {c : Addr}, Mk3 st p3 xs ds H Hc → Hc c = none → c ≠ st := fun {Hc c} gc hc z => by
        obtain ⟨x, y, e7, _⟩ := gc.sa
        rw [z, e7] at hc
        cases hc
      refine rd_name ?_
      refine rd_seq ?_
      refine rd_asg ?_
      refine ⟨_, rfl, _, rfl, _, _, rfl, rfl, _, _, rfl, st, _, rfl, g.sa, by split <;> omega, by split <;> omega, fun f1 a3 b3 o0 o1 o2 o3 o4 => ?_⟩
      have g4 := g.take np3 o2 o3 o4
      have f2 : f1 < 20 := by split at o1 <;> omega
      refine rd_name ?_
      dsimp only
      refine rd_seq ?_
      refine rd_asg ?_
      refine ⟨_, rfl, _, rfl, (by show 3 ≤ sizeLine; decide), fun p5 hp5 => ?_⟩
      have n5 := nst g4 hp5
      have g5 := g4.new (o := .lst (([1, 4, 20] : List Int).map V.int)) hp5
      refine ⟨_, rfl, st, 3, rfl, g5.sa, by decide, by decide, fun r4 a4 b4 q0 q1 q2 q3 q4 => ?_⟩
      obtain ⟨w5, hw5, w6, w7⟩ : ∃ w5 : Int, atI (([1, 4, 20] : List Int).map V.int) r4 = some (.int w5) ∧ 1 ≤ w5 ∧ w5 ≤ 20 := by
        have : r4 = 0 ∨ r4 = 1 ∨ r4 = 2 := by omega
        rcases this with rfl | rfl | rfl
        · exact ⟨1, rfl, by decide, by decide⟩
        · exact ⟨4, rfl, by decide, by decide⟩
        · exact ⟨20, rfl, by decide, by decide⟩
      have g6 := g5.take np3 q2 q3 q4
      refine ⟨p5, _, r4, .int w5, rfl, rfl, SqL.of (by rw [upd_ne n5]; exact upd_same), hw5, st, w5, rfl, g6.sa, w6, by omega, fun r5 a5 b5 s0 s1 s2 s3 s4 => ⟨_, _, rfl, rfl, _, _, rfl, ?_⟩⟩
      have g7 := g6.take np3 s2 s3 s4
      refine rd_name ?_
      dsimp only
      refine rd_seq ?_
      refine rd_asg ?_
      refine ⟨_, rfl, st, 1000, rfl, g7.sa, by decide, by decide, fun r6 a6 b6 t0 t1 t2 t3 t4 => ⟨_, _, rfl, rfl, ⟨by decide, by decide, by decide⟩, (by show 4 ≤ sizeLine; decide), fun p6 hp6 => ?_⟩⟩
      have g8 := g7.take np3 t2 t3 t4
      have n6 := nst g8 hp6
      have g9 := g8.new (o := .lst [V.int 0, V.int 1, V.int r6, V.int (10 ^ (6 : Int).toNat)]) hp6
      refine ⟨_, rfl, st, 4, rfl, g9.sa, by decide, by decide, fun r7 a7 b7 u0 u1 u2 u3 u4 => ?_⟩
      obtain ⟨pr, hpr, pr1, pr2⟩ : ∃ pr : Int, atI [V.int 0, V.int 1, V.int r6, V.int (10 ^ (6 : Int).toNat)] r7 = some (.int pr) ∧ 0 ≤ pr ∧ pr ≤ 1000000 := by
        have : r7 = 0 ∨ r7 = 1 ∨ r7 = 2 ∨ r7 = 3 := by omega
        rcases this with rfl | rfl | rfl | rfl
        · exact ⟨0, rfl, by decide, by decide⟩
        · exact ⟨1, rfl, by decide, by decide⟩
        · exact ⟨r6, rfl, t0, by omega⟩
        · exact ⟨_, rfl, by decide, by decide⟩
      have ga := g9.take np3 u2 u3 u4
      refine ⟨p6, _, r7, .int pr, rfl, rfl, SqL.of (by rw [upd_ne n6]; exact upd_same), hpr, ?_⟩
      refine rd_name ?_
      dsimp only
      refine rd_seq ?_
      refine rd_asg ?_
      refine ⟨_, rfl, st, 8, rfl, ga.sa, by decide, by decide, fun r8 a8 b8 v0 v1 v2 v3 v4 => ⟨(by show 4 ≤ sizeLine; decide), fun p7 hp7 => ?_⟩⟩
      have gb := ga.take np3 v2 v3 v4
      have n7 := nst gb hp7
      have gc := gb.new (o := .lst [V.int 0, V.int 1, V.int 2, V.int r8]) hp7
      refine ⟨_, rfl, st, 4, rfl, gc.sa, by decide, by decide, fun r9 a9 b9 y0 y3 y4 y5 y6 => ?_⟩
      obtain ⟨ho, hho, ho1, ho2⟩ : ∃ ho : Int, atI [V.int 0, V.int 1, V.int 2, V.int r8] r9 = some (.int ho) ∧ 0 ≤ ho ∧ ho < 8 := by
        have : r9 = 0 ∨ r9 = 1 ∨ r9 = 2 ∨ r9 = 3 := by omega
        rcases this with rfl | rfl | rfl | rfl
        · exact ⟨0, rfl, by decide, by decide⟩
        · exact ⟨1, rfl, by decide, by decide⟩
        · exact ⟨2, rfl, by decide, by decide⟩
        · exact ⟨r8, rfl, v0, v1⟩
      have gd := gc.take np3 y4 y5 y6
      refine ⟨p7, _, r9, .int ho, rfl, rfl, SqL.of (by rw [upd_ne n7]; exact upd_same), hho, ?_⟩
      refine rd_name ?_
      dsimp only
      refine ⟨_, rfl, .inl ⟨rfl, _, SqL.of gd.e3⟩, ?_⟩
      refine ⟨_, rfl, _, rfl, st, 3, rfl, gd.sa, by decide, by decide, fun ra aa ba c0 c1 c2 c3 c4 => ?_⟩
      have ge := gd.take np3 c2 c3 c4
      refine ⟨_, rfl, _, rfl, _, rfl, _, rfl, st, wd, rfl, ge.sa, w1, by omega, fun rb ab bb d0 d1 d2 d3 d4 => ⟨_, _, rfl, rfl, _, rfl, (by show 6 ≤ sizeLine; decide), fun l hl' => ?_⟩⟩
      have gf := ge.take np3 d2 d3 d4
      have gg := gf.new (o := .tup [V.int ho, V.int ra, V.int f1, V.int (if f1 + r5 < 19 then f1 + r5 else 19), V.int (1 + rb), V.int pr]) hl'
      have nl3 : l ≠ p3 := fun z => by
        rw [z, gf.e3] at hl'
        cases hl'
      refine ⟨p3, xs, .ref l, rfl, rfl, gg.e3, by rw [hl, sizeLine_eq]; omega, ?_⟩
      refine ⟨xs ++ [.ref l], ds ++ [.tuple [.int ho, .int ra, .int f1, .int (if f1 + r5 < 19 then f1 + r5 else 19), .int (1 + rb), .int pr]], _, _, _, _, _, rfl, ⟨fun b' o' e' ne => ?_, ?_, upd_same, ?_⟩, ?_, by rw [List.length_append, hl]; rfl⟩
      · have : b' ≠ p3 := ne_of_none e' hp3
        rw [upd_ne this]
        exact gg.bt b' o' e' ne
      · obtain ⟨x, y', e7, k⟩ := gg.sa
        exact ⟨x, y', by rw [upd_ne np3.symm]; exact e7, k⟩
      · refine IsThs.append (gg.ts.keep (fun c l' e' => ?_) (fun _ _ z _ => z.elim) fun _ _ z _ => z.elim) (.cons (.tup (by rw [upd_ne nl3]; exact upd_same) (.cons (.int _) (.cons (.int _) (.cons (.int _) (.cons (.int _) (.cons (.int _) (.cons (.int _) .nil))))))) .nil)
        have : c ≠ p3 := fun z => by
          rw [z, gg.e3] at e'
          cases e'
        rw [upd_ne this]
        exact e'
      · refine ⟨rs ++ [[ho, ra, f1, (if f1 + r5 < 19 then f1 + r5 else 19), 1 + rb, pr]], by rw [ers, List.map_append]; rfl, by rw [List.length_append, lrs]; rfl, fun r hr => ?_⟩
        rcases List.mem_append.mp hr with z | z
        · exact okr r z
        · rw [List.mem_singleton.mp z]
          have lb : f1 ≤ (if f1 + r5 < 19 then f1 + r5 else 19) ∧ (if f1 + r5 < 19 then f1 + r5 else 19) ≤ 19 := by split <;> omega
          exact ⟨rfl, ⟨ho1, ho2⟩, ⟨c0, c1⟩, ⟨o0, lb.1, lb.2⟩, ⟨(by show 1 ≤ 1 + rb; omega), (by show 1 + rb ≤ 99; omega)⟩, pr1, pr2⟩
    · rintro σ H' ⟨xs, ds, x5, x6, x7, x8, x9, rfl, g, ⟨rs, ers, lrs, okr⟩, hl⟩
      refine ⟨_, rfl, p3, xs, rfl, .inl ⟨SqL.of g.e3, fun l hl' => ?_⟩⟩
      have g' := g.new (o := .tup xs) hl'
      rw [ers] at g'
      exact q _ _ ⟨rs, g'.bt, g'.sa, .tup upd_same (g'.ts.keep (fun _ _ e => e) (fun _ _ z _ => z.elim) fun _ _ z _ => z.elim), by omega, okr⟩
end
end K02

set_option Elab.async false
set_option linter.all false
set_option maxRecDepth 100000
set_option maxHeartbeats 4000000
namespace K02
open PySem L2
/-- t + u, u not empty: a tuple of both, somewhere -/
theorem op_catU {X : Cx} : OpR X (binaryOp .Add) (fun x y H Q => ∃ a b xs ys, x = .ref a ∧ y = .ref b ∧ H a = some (.tup xs) ∧ H b = some (.tup ys) ∧ ys ≠ [] ∧ xs.length + ys.length ≤ sizeLine ∧ ∀ c H', Same H H' → H' c = some (.tup (xs ++ ys)) → Q (.ref c) H') := by
  intro pins s σ H x y v u Q I rx ry h
  obtain ⟨a, b, xs, ys, rfl, rfl, ha, hb, hy, hz, q⟩ := h
  refine op_catT2 pins s σ H _ _ v u Q I rx ry ⟨a, b, xs, ys, rfl, rfl, SqT.of ha, SqT.of hb, hy, hz, fun e => q b H (Same.refl H) (by rw [e]; exact hb), fun _ p hp => q p _ (Same.upd hp) upd_same⟩
theorem Dr.rows {st a : Addr} {H H' : Hp} {xs : List V} {rs : List (List Int)} (g : Dr st H H') (h0 : StAt H st) (r : RowsAt H a xs rs) : RowsAt H' a xs rs := by
  obtain ⟨x, y, e, _⟩ := h0
  exact r.keep fun b l e' => g.bt _ _ e' fun z => by
    rw [z, e] at e'
    cases e'
theorem Dr.tup {st a : Addr} {H H' : Hp} {xs : List V} (g : Dr st H H') (h0 : StAt H st) (r : H a = some (.tup xs)) : H' a = some (.tup xs) := by
  obtain ⟨x, y, e, _⟩ := h0
  exact g.bt _ _ r fun z => by
    rw [z, e] at r
    cases r
theorem boot_max' : bootBuiltins "max" = some (.builtin "max") := by decide +kernel
theorem rows_snoc {H : Hp} {a b t : Addr} {xs : List V} {rs : List (List Int)} {r : List Int} (h : RowsAt H a xs rs) (et : H t = some (.tup (r.map V.int))) (eb : H b = some (.tup (xs ++ [V.ref t]))) : RowsAt H b (xs ++ [V.ref t]) (rs ++ [r]) := by
  refine ⟨eb, by rw [List.length_append, List.length_append, h.l]; rfl, fun i r' e => ?_⟩
  by_cases hi : i < rs.length
  · rw [List.getElem?_append_left hi] at e
    rw [List.getElem?_append_left (by rw [h.l]; exact hi)]
    exact h.g i r' e
  · rw [List.getElem?_append_right (by omega)] at e
    rw [List.getElem?_append_right (by rw [h.l]; omega), h.l]
    cases hj : i - rs.length with
    | zero =>
      rw [hj] at e
      injection e with e
      subst e
      exact ⟨t, rfl, et⟩
    | succ k =>
      rw [hj] at e
      simp at e
def smR (s : List Int) : Prop := s.length = 5 ∧ ∀ i ∈ s, -10 ≤ i ∧ i ≤ 2000000
def spAny : Sp := fun vs H Q _ => ∃ st ap xp ps, vs = [.ref st, .ref ap] ∧ StAt H st ∧ RowsAt H ap xp ps ∧ ps.length ≤ 10 ∧ (∀ r ∈ ps, okP r) ∧ ∀ t s H', Dr st H H' → H' t = some (.tup (s.map V.int)) → smR s → Q (.ref t) H'
section
variable {P : Program} {w : World} {K : PySem.W.Frag} {mg : Str → Option Value} {base : Heap}
theorem sc38s : FnScope ["_law_state_here", "_law_promises_here", "_law_number", "_law_holder", "_law_sort", "_law_first", "_law_last", "_law_sacks", "_law_price", "_law_seller", "_law_buyer", "_law_year"] ["_law_state_here", "_law_promises_here"] (defScope (top 47)) := ⟨rfl, rfl, rfl, by decide +kernel, rfl, by decide +kernel, by decide +kernel⟩
theorem ok_any {f : Addr} {fd : FuncData} (F : Fun K "_law_any_sale" "_law_any_sale" (top 47) f fd) (T : Mg mg) (Tm : mg "max" = none) (c1 : Cal P w K mg base 1 "_law_take" ["_law_state_here", "_law_many"] spTake) : FnOk P w K mg base CX0 2 f fd ["_law_state_here", "_law_promises_here"] spAny := by
  refine F.ok sc38s (fun vs H Q E h => ?_) (fun cdv A outer s H vs Q E hr h => ?_)
  · obtain ⟨st, ap, xp, ps, rfl, _⟩ := h
    rfl
  · obtain ⟨st, ap, xp, ps, rfl, hst, rp, lp, okp, q⟩ := h
    refine ⟨_, pss_cons (ps_set (i := 2) sc38s.nd rfl (Or.inl rfl) (pe_cal c1 hr (Nat.le_refl _) rfl (pa_c (pv 0) (pa_c (pe_callB (call_max2 rfl) rfl Tm boot_max' (pa_c pe_int (pa_c (pe_callB call_len_seq rfl T.len PySem.boot_len (pa_c (pv 1) pa_nil)) pa_nil))) pa_nil))))
      (pss_cons (ps_asg (pe_ix ix_tup (pe_op op_catU (pv 1) (pe_tup (pa_c (pe_tup (pa_ints (by repeat constructor))) pa_nil))) (pv 2) (fun _ _ => rfl)) (pg_tup rfl (pgs_cons (pg_name (i := 3) sc38s.nd rfl (Or.inl rfl)) (pgs_cons (pg_name (i := 4) sc38s.nd rfl (Or.inl rfl)) (pgs_cons (pg_name (i := 5) sc38s.nd rfl (Or.inl rfl))
        (pgs_cons (pg_name (i := 6) sc38s.nd rfl (Or.inl rfl)) (pgs_cons (pg_name (i := 7) sc38s.nd rfl (Or.inl rfl)) (pgs_cons (pg_name (i := 8) sc38s.nd rfl (Or.inl rfl)) pgs_nil))))))))
      (pss_cons (ps_set (i := 9) sc38s.nd rfl (Or.inl rfl) (pe_ix ix_list (pe_lst (pa_c (pv 3) (pa_c (pv 3) (pa_c (pe_cal c1 hr (Nat.le_refl _) rfl (pa_c (pv 0) (pa_c pe_int pa_nil))) pa_nil)))) (pe_cal c1 hr (Nat.le_refl _) rfl (pa_c (pv 0) (pa_c pe_int pa_nil))) (fun _ _ => rfl)))
      (pss_cons (ps_set (i := 10) sc38s.nd rfl (Or.inl rfl) (pe_op op_mod (pe_op op_add (pe_op op_add (pv 9) pe_int) (pe_cal c1 hr (Nat.le_refl _) rfl (pa_c (pv 0) (pa_c pe_int pa_nil)))) pe_int))
      (pss_cons (ps_set (i := 11) sc38s.nd rfl (Or.inl rfl) (pe_op op_add (pv 5) (pe_cal c1 hr (Nat.le_refl _) rfl (pa_c (pv 0) (pa_c (pe_op op_add (pe_op op_sub (pv 6) (pv 5)) pe_int) pa_nil)))))
      (pss_one (ps_ret (pe_be (be_tup (ab_c ⟨pv 2⟩ (ab_c ⟨pv 9⟩ (ab_c ⟨pv 10⟩ (ab_c ⟨pe_op op_add pe_int (pe_cal c1 hr (Nat.le_refl _) rfl (pa_c (pv 0) (pa_c (pv 7) pa_nil)))⟩ (ab_c ⟨pv 11⟩ aa_nil))))))))))))), ?_⟩
    have g0 : Dr st H H := ⟨But.refl, hst⟩
    have hxl : xp.length ≤ 10 := by rw [rp.l]; exact lp
    refine rd_seq ?_
    refine rd_asg ?_
    refine ⟨_, rfl, _, rfl, ap, xp, rfl, .inr (SqT.of rp.e), _, _, rfl, st, _, rfl, hst, ?_, ?_, fun r1 a1 b1 r0 rn k1 k2 k3 => ?_⟩
    · split <;> omega
    · split <;> omega
    have g1 := g0.take k1 k2 k3
    have rp1 := g1.rows hst rp
    have rn2 : r1.toNat < xp.length + 1 := by split at rn <;> omega
    generalize upd H st (.lst [.int a1, .int b1]) = H1 at g1 rp1 ⊢
    refine rd_name ?_
    dsimp only
    refine rd_seq ?_
    refine ⟨_, rfl, (by show 6 ≤ sizeLine; decide), fun t0 ht0 => ⟨(by show 1 ≤ sizeLine; decide), fun t1 ht1 => ?_⟩⟩
    have g2 := (g1.new (o := .tup (([0, 0, 0, 3, 9, 0] : List Int).map V.int)) ht0).new (o := .tup [V.ref t0]) ht1
    have m2 : Same H1 (upd (upd H1 t0 (.tup (([0, 0, 0, 3, 9, 0] : List Int).map V.int))) t1 (.tup [V.ref t0])) := (Same.upd ht0).updR ht1
    have et0 := Same.upd (o := .tup [V.ref t0]) ht1 t0 (.tup (([0, 0, 0, 3, 9, 0] : List Int).map V.int)) upd_same
    have et1 : upd (upd H1 t0 (.tup (([0, 0, 0, 3, 9, 0] : List Int).map V.int))) t1 (.tup [V.ref t0]) t1 = some (.tup [V.ref t0]) := upd_same
    generalize upd (upd H1 t0 (.tup (([0, 0, 0, 3, 9, 0] : List Int).map V.int))) t1 (.tup [V.ref t0]) = H2 at g2 m2 et0 et1 ⊢
    refine ⟨ap, t1, xp, _, rfl, rfl, m2 _ _ rp1.e, et1, by simp, by rw [sizeLine_eq]; show xp.length + 1 ≤ _; omega, fun c H3 s3 ec => ?_⟩
    have g3 := g2.same s3
    have rp3 := rows_snoc ((rp1.same m2).same s3) (s3 _ _ et0) ec
    have hok3 : ∀ r ∈ ps ++ [[0, 0, 0, 3, 9, 0]], okP r := fun r hr => by
      rcases List.mem_append.mp hr with z | z
      · exact okp r z
      · rw [List.mem_singleton.mp z]
        exact ⟨rfl, by decide, by decide, by decide, by decide, by decide⟩
    obtain ⟨p, hp, _, op⟩ := prom_ok (n := r1) hok3 r0 (by rw [List.length_append, ← rp.l]; show r1 < ((xp.length + 1 : Nat) : Int); omega)
    obtain ⟨tp, hat, etp⟩ := rows_at rp3 r0 hp
    rw [six_row op.1] at etp
    obtain ⟨_, ⟨p1, p2⟩, _, ⟨p3, p4, p5⟩, ⟨p6, p7⟩, _⟩ := id op
    refine ⟨_, rfl, c, _, r1, .ref tp, rfl, rfl, SqT.of ec, hat, ?_⟩
    refine ⟨tp, _, rfl, SqT.of etp, rfl, _, _, rfl, _, _, rfl, _, _, rfl, _, _, rfl, _, _, rfl, _, _, rfl, rfl, ?_⟩
    dsimp only
    refine rd_seq ?_
    refine rd_asg ?_
    refine ⟨_, rfl, _, rfl, _, rfl, st, 8, rfl, g3.sa, by decide, by decide, fun r2 a2 b2 i0 i1 k4 k5 k6 => ⟨(by show 3 ≤ sizeLine; decide), fun l1 hl1 => ?_⟩⟩
    have g4 := (g3.take k4 k5 k6).new (o := .lst [V.int (fl p 0), V.int (fl p 0), V.int r2]) hl1
    have n4 := (g3.take k4 k5 k6).ne hl1
    refine ⟨_, rfl, st, 3, rfl, g4.sa, by decide, by decide, fun r3 a3 b3 i2 i3 k7 k8 k9 => ?_⟩
    obtain ⟨sl, hsl, sl1, sl2⟩ : ∃ sl : Int, atI [V.int (fl p 0), V.int (fl p 0), V.int r2] r3 = some (.int sl) ∧ 0 ≤ sl ∧ sl < 8 := by
      have : r3 = 0 ∨ r3 = 1 ∨ r3 = 2 := by omega
      rcases this with rfl | rfl | rfl
      · exact ⟨_, rfl, p1, p2⟩
      · exact ⟨_, rfl, p1, p2⟩
      · exact ⟨_, rfl, i0, i1⟩
    have g5 := g4.take k7 k8 k9
    refine ⟨l1, _, r3, .int sl, rfl, rfl, SqL.of (by rw [upd_ne n4]; exact upd_same), hsl, ?_⟩
    refine rd_name ?_
    dsimp only
    refine rd_seq ?_
    refine rd_asg ?_
    refine ⟨_, rfl, _, _, rfl, rfl, _, rfl, st, 7, rfl, g5.sa, by decide, by decide, fun r4 a4 b4 i4 i5 m1 m2' m3 => ⟨_, _, rfl, rfl, _, _, rfl, rfl, (by show (0 : Int) < 8; decide), ?_⟩⟩
    have g6 := g5.take m1 m2' m3
    refine rd_name ?_
    dsimp only
    refine rd_seq ?_
    refine rd_asg ?_
    refine ⟨_, rfl, _, rfl, _, rfl, _, rfl, _, _, rfl, rfl, _, _, rfl, rfl, st, _, rfl, g6.sa, by omega, by omega, fun r5 a5 b5 i6 i7 m4 m5 m6 => ⟨_, _, rfl, rfl, ?_⟩⟩
    have g7 := g6.take m4 m5 m6
    refine rd_name ?_
    dsimp only
    refine ⟨_, rfl, _, rfl, _, rfl, _, rfl, _, rfl, st, _, rfl, g7.sa, p6, by omega, fun r6 a6 b6 i8 i9 m7 m8 m9 => ⟨_, _, rfl, rfl, _, rfl, (by show 5 ≤ sizeLine; decide), fun t ht => ?_⟩⟩
    have g8 := g7.take m7 m8 m9
    refine q t [r1, sl, (sl + 1 + r4) % 8, 1 + r6, fl p 2 + r5] _ (g8.new ht) upd_same ⟨rfl, fun i hi => ?_⟩
    simp only [List.mem_cons, List.not_mem_nil, or_false] at hi
    have e8 : 0 ≤ (sl + 1 + r4) % 8 ∧ (sl + 1 + r4) % 8 < 8 := ⟨Int.emod_nonneg _ (by decide), Int.emod_lt_of_pos _ (by decide)⟩
    omega
end
end K02

set_option Elab.async false
set_option linter.all false
set_option maxRecDepth 100000
set_option maxHeartbeats 4000000
namespace K02
open PySem L2
def spSales : Sp := fun vs H Q _ => ∃ st ap xp ps n, vs = [.ref st, .ref ap, .int n] ∧ StAt H st ∧ RowsAt H ap xp ps ∧ ps.length ≤ 10 ∧ (∀ r ∈ ps, okP r) ∧ 0 ≤ n ∧ n ≤ 12 ∧ ∀ a xs ss H', Dr st H H' → RowsAt H' a xs ss → (ss.length : Int) ≤ n → (∀ s ∈ ss, smR s) → Q (.ref a) H'
section
variable {P : Program} {w : World} {K : PySem.W.Frag} {mg : Str → Option Value} {base : Heap}
theorem sc39s : FnScope ["_law_state_here", "_law_promises_here", "_law_most", "_law_found", "_law_turn", "_law_more"] ["_law_state_here", "_law_promises_here", "_law_most"] (defScope (top 48)) := ⟨rfl, rfl, rfl, by decide +kernel, rfl, by decide +kernel, by decide +kernel⟩
theorem ok_sales {f : Addr} {fd : FuncData} (F : Fun K "_law_sales" "_law_sales" (top 48) f fd) (T : Mg mg) (Tr : mg "range" = none) (c1 : Cal P w K mg base 1 "_law_take" ["_law_state_here", "_law_many"] spTake) (c2 : Cal P w K mg base 2 "_law_any_sale" ["_law_state_here", "_law_promises_here"] spAny) (c3 : Cal P w K mg base 2 "_law_sold" ["_law_promises_here", "_law_sales_here"] spSold) :
    FnOk P w K mg base CX0 3 f fd ["_law_state_here", "_law_promises_here", "_law_most"] spSales := by
  refine F.ok sc39s (fun vs H Q E h => ?_) (fun cdv A outer s H vs Q E hr h => ?_)
  · obtain ⟨st, ap, xp, ps, n, rfl, _⟩ := h
    rfl
  · obtain ⟨st, ap, xp, ps, n, rfl, hst, rp, lp, okp, n0, n1, q⟩ := h
    refine ⟨_, pss_cons (ps_set (i := 3) sc39s.nd rfl (Or.inl rfl) (pe_tupA aa_nil))
      (pss_cons (ps_for PassesOwn.never rfl (pi_range1 rfl Tr (pa_c (pe_op op_mul (pe_cal c1 hr (by decide) rfl (pa_c (pv 0) (pa_c (pe_op op_add (pv 2) pe_int) pa_nil))) (pe_callTy call_int1 rfl T.int boot_int (pa_c (pe_cmpR op_gt (pe_callB call_len_seq rfl T.len PySem.boot_len (pa_c (pv 1) pa_nil)) pe_int (nomark _)) pa_nil))) pa_nil)) (pg_name (i := 4) sc39s.nd rfl (Or.inl rfl))
        (pss_cons (ps_set (i := 5) sc39s.nd rfl (Or.inl rfl) (pe_op op_catU (pv 3) (pe_tup (pa_c (pe_cal c2 hr (by decide) rfl (pa_c (pv 0) (pa_c (pv 1) pa_nil))) pa_nil))))
        (pss_one (ps_if (pt_cmpR op_isN (pe_ix ix_tup (pe_cal c3 hr (by decide) rfl (pa_c (pv 1) (pa_c (pv 5) pa_nil))) pe_int (fun _ _ => rfl)) pe_non (nomark _)) (pss_one (ps_set (i := 3) sc39s.nd rfl (Or.inl rfl) (pv 5))) pss_nil))))
      (pss_one (ps_ret (pv 3)))), ?_⟩
    have g0 : Dr st H H := ⟨But.refl, hst⟩
    refine rd_seq ?_
    refine rd_asg ?_
    refine ⟨(by show 0 ≤ sizeLine; decide), fun e0 he0 => ?_⟩
    have g1 := g0.new (o := .tup []) he0
    have r1 : RowsAt (upd H e0 (.tup [])) e0 [] [] := ⟨upd_same, rfl, fun i r e => by simp at e⟩
    have rp1 := rp.same (Same.upd (o := .tup []) he0)
    generalize upd H e0 (.tup []) = H1 at g1 r1 rp1 ⊢
    refine rd_name ?_
    dsimp only
    refine rd_seq ?_
    refine ⟨_, rfl, _, rfl, _, _, rfl, rfl, st, n + 1, rfl, g1.sa, by omega, by omega, fun r a1 b1 k0 kn k1 k2 k3 => ?_⟩
    have g2 := g1.take k1 k2 k3
    have rp2 := (Dr.take ⟨But.refl, g1.sa⟩ k1 k2 k3 : Dr st H1 _).rows g1.sa rp1
    have r2 := (Dr.take ⟨But.refl, g1.sa⟩ k1 k2 k3 : Dr st H1 _).rows g1.sa r1
    generalize upd H1 st (.lst [.int a1, .int b1]) = H2 at g2 rp2 r2 ⊢
    refine ⟨_, rfl, ap, xp, rfl, .inr (SqT.of rp2.e), _, _, rfl, rfl, .inr ⟨_, rfl, _, _, rfl, rfl, .inl ⟨by omega, by omega⟩, _, rfl, ?_, ?_, ?_⟩⟩
    · split <;> omega
    · split <;> omega
    refine for_range (lo := 0) (fun i σ Hc => ∃ a xs ss x4 x5, σ = [some (.ref st), some (.ref ap), some (.int n), some (.ref a), x4, x5] ∧ Dr st H Hc ∧ RowsAt Hc ap xp ps ∧ RowsAt Hc a xs ss ∧ ss.length ≤ i ∧ ∀ s ∈ ss, smR s) ?_ ?_ ?_
    · exact ⟨e0, [], [], none, none, rfl, g2, rp2, r2, Nat.le_refl _, fun _ h => nomatch h⟩
    · rintro i σ Hc hi ⟨a, xs, ss, x4, x5, rfl, g, rpc, rsc, ls, oks⟩
      have hi : i < 12 := by split at hi <;> omega
      refine rd_name ?_
      refine rd_seq ?_
      refine rd_asg ?_
      refine ⟨_, rfl, _, rfl, _, rfl, st, ap, xp, ps, rfl, g.sa, rpc, lp, okp, fun t s' H3 d3 et sm => ⟨(by show 1 ≤ sizeLine; decide), fun t1 ht1 => ?_⟩⟩
      have rpd := d3.rows g.sa rpc
      have rsd := d3.rows g.sa rsc
      have m4 := Same.upd (o := .tup [V.ref t]) ht1
      refine ⟨a, t1, xs, _, rfl, rfl, m4 _ _ rsd.e, upd_same, by simp, by rw [rsc.l, sizeLine_eq]; show _ + 1 ≤ _; omega, fun c H5 s5 ec => ?_⟩
      have rs5 := rows_snoc ((rsd.same m4).same s5) (s5 _ _ (m4 _ _ et)) ec
      have rp5 := (rpd.same m4).same s5
      have g5 := ((g.trans d3).same m4).same s5
      have ok5 : ∀ s ∈ ss ++ [s'], smR s := fun s hs => by
        rcases List.mem_append.mp hs with z | z
        · exact oks s z
        · rw [List.mem_singleton.mp z]
          exact sm
      have l5 : (ss ++ [s']).length ≤ i + 1 := by rw [List.length_append]; show ss.length + 1 ≤ _; omega
      refine rd_name ?_
      dsimp only
      refine ⟨_, rfl, _, rfl, ap, xp, ps, c, _, ss ++ [s'], rfl, rp5, lp, okp, rs5, by omega, fun s hs => (ok5 s hs).1, fun tt fo H6 s6 ett => ?_⟩
      refine ⟨tt, _, 1, unV (un ps (ss ++ [s'])), rfl, rfl, SqT.of ett, rfl, rfl, _, rfl, ite2 (fun _ => ?_) fun _ => ?_⟩
      · exact ⟨_, rfl, c, _, ss ++ [s'], _, _, rfl, g5.same s6, rp5.same s6, rs5.same s6, l5, ok5⟩
      · exact ⟨a, xs, ss, _, _, rfl, g5.same s6, rp5.same s6, ((rsd.same m4).same s5).same s6, by omega, oks⟩
    · rintro σ Hc ⟨a, xs, ss, x4, x5, rfl, g, rpc, rsc, ls, oks⟩
      refine ⟨_, rfl, q a xs ss Hc g rsc ?_ oks⟩
      split at ls <;> omega
end
end K02

set_option Elab.async false
set_option linter.all false
set_option maxRecDepth 100000
set_option maxHeartbeats 4000000
namespace K02
open PySem L2
def lsaleD (d : PyData) : Bool := isTupD d && (decide ((items d).length = 5) && (items d).all wholeD)
def lsalesD (d : PyData) : Bool := isTupD d && (decide ((items d).length ≤ 12) && (items d).all lsaleD)
theorem sale_eq (d : PyData) : wholesD d 5 = lsaleD d := by
  unfold wholesD tupOfD lsaleD
  rw [Bool.and_assoc]
  congr 2
  rw [Bool.eq_iff_iff, Bool.and_eq_true, decide_eq_true_eq, decide_eq_true_eq, decide_eq_true_eq]
  omega
theorem sales_eq (d : PyData) : salesD d = lsalesD d := by
  unfold salesD tupOfD lsalesD
  rw [Bool.and_assoc]
  congr 1
  have e : (items d).all (fun x => wholesD x 5) = (items d).all lsaleD := congrArg (items d).all (funext sale_eq)
  rw [e]
  congr 1
  rw [Bool.eq_iff_iff, Bool.and_eq_true, decide_eq_true_eq, decide_eq_true_eq, decide_eq_true_eq]
  omega
section
variable {P : Program} {w : World} {K : PySem.W.Frag} {mg : Str → Option Value} {base : Heap}
theorem sc47s : FnScope ["_law_thing"] ["_law_thing"] (defScope (top 55)) := ⟨rfl, rfl, rfl, by decide +kernel, rfl, by decide +kernel, by decide +kernel⟩
theorem ok_lis_sale {f : Addr} {fd : FuncData} (F : Fun K "_law_is_sale" "_law_is_sale" (top 55) f fd) (T : Mg mg) (c1 : Cal P w K mg base 1 "_law_whole" ["_law_thing"] (spT wholeD)) : FnOk P w K mg base CX0 2 f fd ["_law_thing"] (spT lsaleD) := by
  refine F.ok sc47s (fun vs H Q E h => ?_) (fun cdv A outer s H vs Q E hr h => ?_)
  · obtain ⟨S, v, d, rfl, _⟩ := h
    rfl
  · obtain ⟨S, v, d, rfl, th, hz, q⟩ := h
    refine ⟨_, pss_one (ps_ret (pe_and (pe_callB call_isinst rfl T.isinstance boot_isinstance (pa_c (pv 0) (pa_c (pe_bltn rfl T.tuple boot_tuple (v := .ty "tuple") rfl) pa_nil)))
      (pe_and (pe_cmpR op_eq (pe_callB call_len_seq rfl T.len PySem.boot_len (pa_c (pv 0) pa_nil)) pe_int (nomark _))
      (pe_one (pe_callB (call_all rfl) rfl T.all boot_all (pa_c (pe_comp ["_law_one"] [none] rfl (pi_tup (pv 0))
        (fun C fp pins s₂ H₂ => ⟨pg_name (i := 0) (nd1 _) rfl (Or.inl rfl), pts_nil, pe_cal c1 hr (by decide) rfl (pa_c (pv 0) pa_nil)⟩) (fun C => trivial) ⟨rfl, rfl, rfl, rfl⟩) pa_nil)))))), ?_⟩
    have fin := fun H' (s : Same H H') => q H' s
    unfold lsaleD at fin
    refine ⟨_, rfl, v, _, "tuple", isTupD d, rfl, th.ty, kit_tup d, _, rfl, ?_⟩
    cases e : isTupD d with
    | false =>
      rw [e] at fin
      exact iteF (fin H (Same.refl H))
    | true =>
      rw [e] at fin
      refine iteT ?_
      cases th with
      | @tup a xs ds ea r =>
        have hl := r.length
        refine ⟨_, rfl, a, xs, rfl, .inr (SqT.of ea), rfl, _, rfl, ?_⟩
        have fin : ∀ H', Same H H' → Q (.bl (true && (decide (ds.length = 5) && ds.all wholeD))) H' := fin
        by_cases e3 : ds.length = 5
        · rw [decide_eq_true e3] at fin
          rw [decide_eq_true (show V.int (xs.length : Int) = V.int 5 by rw [hl, e3] <;> rfl)]
          refine iteT ?_
          exact all_things wholeD rfl ea r (len_line r hz) (fun v d H2 Q2 hm s2 t2 q2 => ⟨_, rfl, S, v, d, rfl, t2, in_sz hm hz, q2⟩) fin
        · rw [decide_eq_false e3] at fin
          rw [decide_eq_false (fun z : V.int (xs.length : Int) = V.int 5 => e3 (by injection z with z; omega))]
          exact iteF (fin H (Same.refl H))
      | _ => cases e
/-! ### _law_are_sales -/
theorem sc48s : FnScope ["_law_thing"] ["_law_thing"] (defScope (top 56)) := ⟨rfl, rfl, rfl, by decide +kernel, rfl, by decide +kernel, by decide +kernel⟩
theorem ok_lare_sales {f : Addr} {fd : FuncData} (F : Fun K "_law_are_sales" "_law_are_sales" (top 56) f fd) (T : Mg mg) (c1 : Cal P w K mg base 2 "_law_is_sale" ["_law_thing"] (spT lsaleD)) :
    FnOk P w K mg base CX0 3 f fd ["_law_thing"] (spT lsalesD) := by
  refine F.ok sc48s (fun vs H Q E h => ?_) (fun cdv A outer s H vs Q E hr h => ?_)
  · obtain ⟨S, v, d, rfl, _⟩ := h
    rfl
  · obtain ⟨S, v, d, rfl, th, hz, q⟩ := h
    refine ⟨_, pss_cons (ps_if (PW.pt (pw_or (pt_not (pt_val (pe_callB call_isinst rfl T.isinstance boot_isinstance (pa_c (pv 0) (pa_c (pe_bltn rfl T.tuple boot_tuple (v := .ty "tuple") rfl) pa_nil)))))
        (pw_or1 (pt_cmpR op_gt (pe_callB call_len_seq rfl T.len PySem.boot_len (pa_c (pv 0) pa_nil)) pe_int (nomark _))))) (pss_one (ps_ret pe_bl)) pss_nil)
      (pss_one (ps_ret (pe_callB (call_all rfl) rfl T.all boot_all (pa_c (pe_comp ["_law_one"] [none] rfl (pi_tup (pv 0))
        (fun C fp pins s₂ H₂ => ⟨pg_name (i := 0) (nd1 _) rfl (Or.inl rfl), pts_nil, pe_cal c1 hr (by decide) rfl (pa_c (pv 0) pa_nil)⟩) (fun C => trivial) ⟨rfl, rfl, rfl, rfl⟩) pa_nil)))), ?_⟩
    have fin := fun H' (s : Same H H') => q H' s
    unfold lsalesD at fin
    refine ⟨_, rfl, v, _, "tuple", isTupD d, rfl, th.ty, kit_tup d, _, rfl, ?_⟩
    cases e : isTupD d with
    | false =>
      rw [e] at fin
      exact iteT (iteT (fin H (Same.refl H)))
    | true =>
      rw [e] at fin
      refine iteF ?_
      cases th with
      | @tup a xs ds ea r =>
        have hl := r.length
        refine ⟨_, rfl, a, xs, rfl, .inr (SqT.of ea), _, _, rfl, rfl, _, rfl, ?_⟩
        have fin : ∀ H', Same H H' → Q (.bl (true && (decide (ds.length ≤ 12) && ds.all lsaleD))) H' := fin
        by_cases e3 : ds.length ≤ 12
        · rw [decide_eq_true e3] at fin
          rw [decide_eq_false (by omega)]
          refine iteF ?_
          exact all_things lsaleD rfl ea r (len_line r hz) (fun v d H2 Q2 hm s2 t2 q2 => ⟨_, rfl, S, v, d, rfl, t2, in_sz hm hz, q2⟩) fin
        · rw [decide_eq_false e3] at fin
          rw [decide_eq_true (by omega)]
          exact iteT (fin H (Same.refl H))
      | _ => cases e

end
end K02

set_option Elab.async false
set_option linter.all false
set_option maxRecDepth 100000
set_option maxHeartbeats 400000
namespace K02
open PySem L2
def CalX (P : Program) (w : World) (K : PySem.W.Frag) (mg : Str → Option Value) (base : Heap) (k : Nat) (x : Str) (ps : List Str) (sp : Sp) : Prop :=
  ∃ f fd, FnOk P w K mg base (CX1 P w) k f fd ps sp ∧ mg x = some (.ref f) ∧ PySem.W.keepIn K (.ref f) = true ∧ Binds K fd ps []
theorem pe_calX {X : Cx} {k j : Nat} {x : Str} {ps : List Str} {sp : Sp} {E : XK} {p pos : Pos} {e : Expr} {es : List Expr} {t : TA} (c : CalX X.prog X.w X.K X.mg X.base j x ps sp) (hr : Room k X.A) (hjk : j ≤ k) (hg : Gl X x) (W : Wish X fun a C H => E (.ref a) (some C) H) (hx : X.ex = []) (ha : PA X (e :: es) t)
    (hdb : (x == ("__debug__" : Str)) = false := by decide) (he : starEach (e :: es) X.env = (false, eval e X.env) :: starEach es X.env := by rfl) (hpl : (backTo pos (starEach es X.env)).any (·.1) = false := by rfl) :
    PE X (.Call (.Name x p) (e :: es) [] pos) (tCall sp [] E t) := by
  obtain ⟨f, fd, F, m, k', b⟩ := c
  exact pe_call F (hr.mono hjk) hg m k' b .nil (pass1 W hx) ha hdb he hpl
abbrev VE : List Value := [.type "ValueError", .type "Exception", .type "BaseException", .type "object"]
def words : List Str := ["clips", "promises", "sales", "book", "number", "year", "weights", "paper", "growth", "promise", "sort", "clip", "sale", "deed", "text", "line"]
def wordD (j : Nat) : PyData := .tuple [.str (words.getD j "")]
abbrev New (H : Hp) (a : Addr) : Prop := H a = none ∧ a ≠ sysModules
theorem th_word {S : Addr → Prop} {H : Hp} {p : Addr} {j : Nat} {x : Str} (e : H p = some (.tup [.str x])) (hx : words.getD j "" = x) : IsTh S H (.ref p) (wordD j) := by
  unfold wordD
  rw [hx]
  exact .tup e (.cons (.str x) .nil)
/-! ### _law_kind -/
theorem gen_ts {t : TS} {D : Ends} {σ : L2.St} {H : Hp} (C : Hp → Prop) (c : C H) (h : ∀ H', C H' → t D σ H') : t D σ H := h H c
theorem rd_cons {te : TE} {tr : TA} {σ : L2.St} {H : Hp} {Q : List V → Hp → Prop} (h : te σ H fun x H1 => tr σ H1 fun xs H2 => Q (x :: xs) H2) : tCons te tr σ H Q := h
theorem pe_never {X : Cx} {e : Expr} : PE X e (fun _ _ _ => False) := fun _ _ _ _ _ _ h => h.elim
theorem ok_b {X : Cx} {body : List Stmt} {t : TS} {R : TS → Prop} (h : BSs X body t) (q : R t) : ∃ t, PSs X body t ∧ R t := ⟨t, h.run, q⟩
structure BT (X : Cx) (e : Expr) (t : TT) : Prop where
  run : PT X e t
section
variable {X : Cx} {a b c l : Expr} {ta tb tl : TE} {t u : TT} {pos p q : Pos}
theorem be_count {k : Bool} {j} {y : Str} {q' : Pos} (hl : BE X (.Name y q') tl) (hline : (p.endLine == pos.line) = true := by rfl) : BE X (.Call (.Attribute (.Name y q') "count" p) [.Constant (.bool k) j q] [] pos) (tBM X.K "list" rCountB tl (tCons (tC (.bl k)) tNil)) := ⟨pe_bm PySem.F.plainAttrs_list PySem.F.slot_list_count PySem.F.type_list_count mt_countB hl.run (pa_c pe_bl pa_nil) (hline := hline)⟩
theorem be_index {k : Bool} {j} {y : Str} {q' : Pos} (hl : BE X (.Name y q') tl) (hline : (p.endLine == pos.line) = true := by rfl) : BE X (.Call (.Attribute (.Name y q') "index" p) [.Constant (.bool k) j q] [] pos) (tBM X.K "list" rIndexB tl (tCons (tC (.bl k)) tNil)) := ⟨pe_bm PySem.F.plainAttrs_list PySem.F.slot_list_index PySem.F.type_list_index mt_indexB hl.run (pa_c pe_bl pa_nil) (hline := hline)⟩
theorem be_ifE (hc : BT X c t) (ha : BE X a ta) (hb : BE X b tb) : BE X (.IfExp c a b pos) (tIf t ta tb) := ⟨pe_ifExp hc.run ha.run hb.run⟩
theorem bt_sub (h : BE X (.Subscript a b p) ta) : BT X (.Subscript a b p) (tB ta) := ⟨pt_val h.run⟩
theorem bt_call {es ks} (h : BE X (.Call a es ks p) ta) : BT X (.Call a es ks p) (tB ta) := ⟨pt_val h.run⟩
theorem bt_not (h : BT X a t) : BT X (.UnaryOp .Not a pos) (tNot t) := ⟨pt_not h.run⟩
theorem bt_or2 (ha : BT X a t) (hb : BT X b u) : BT X (.BoolOp .Or [a, b] pos) (tOr t u) := ⟨PW.pt (pw_or ha.run (pw_or1 hb.run))⟩
theorem bt_ne {i : Int} {j} (ha : BE X a ta) : BT X (.Compare a [.NotEq] [.Constant (.int i) j q] pos) (tTest (tOp rNe ta (tC (.int i)))) := ⟨pt_cmpR op_ne ha.run pe_int (nomark _)⟩
theorem bs_if {x y : List Stmt} {v z : TS} (hc : BT X c t) (hx : BSs X x v) (hy : BSs X y z) : BS X (.If c x y pos) (tIfS t v z) := ⟨ps_if hc.run hx.run hy.run⟩
theorem bss_nil : BSs X [] tNext := ⟨pss_nil⟩
end
/-- the classes by their names -/
structure Clss (mg : Str → Option Value) (Cs : Nat → Addr) : Prop where
  n0 : mg "NoClips" = some (.ref (Cs 0))
  n1 : mg "NoPromises" = some (.ref (Cs 1))
  n2 : mg "NoSales" = some (.ref (Cs 2))
  n3 : mg "NoBook" = some (.ref (Cs 3))
  n4 : mg "NoNumber" = some (.ref (Cs 4))
  n5 : mg "NoYear" = some (.ref (Cs 5))
  n6 : mg "NoWeights" = some (.ref (Cs 6))
  n7 : mg "NoPaper" = some (.ref (Cs 7))
  n8 : mg "NoGrowth" = some (.ref (Cs 8))
  n9 : mg "NoPromise" = some (.ref (Cs 9))
  n10 : mg "NoSort" = some (.ref (Cs 10))
  n11 : mg "NoClip" = some (.ref (Cs 11))
  n12 : mg "NoSale" = some (.ref (Cs 12))
  n13 : mg "NoDeed" = some (.ref (Cs 13))
  n14 : mg "NoText" = some (.ref (Cs 14))
  n15 : mg "NoLine" = some (.ref (Cs 15))
  n16 : mg "TooMany" = some (.ref (Cs 16))
  wool : mg "WoolError" = some (.ref (Cs 17))
/-- the class of the j-th word -/
structure Kind (K : PySem.W.Frag) (Cs : Nat → Addr) (j : Nat) : Prop where
  lt : j < 16
  ex : ExcC K (Cs j)
  ca : CatchC K (Cs j) (Cs 17)
  on : ∀ i, i < 17 → PySem.W.kitOne K (.ref (Cs j)) (.ref (Cs i)) = some (decide (i = j))
  ve : PySem.W.kitOne K (.ref (Cs j)) (.type "ValueError") = some true
def spKind (K : PySem.W.Frag) (Cs : Nat → Addr) : Sp := fun vs H Q _ => ∃ a j, vs = [.ref a] ∧ H a = some (.ext (excAt a (Cs j))) ∧ Kind K Cs j ∧ ∀ p H', Same H H' → H' p = some (.tup [.str (words.getD j "")]) → Q (.ref p) H'
def marks (j : Nat) : List Bool := (List.range 17).map fun i => decide (i = j)
theorem marks_count : ∀ j, j < 17 → (marks j).count true = 1 := by decide +kernel
theorem marks_at {j : Nat} (h : j < 17) : (marks j)[j]? = some true := by
  unfold marks
  rw [List.getElem?_map, List.getElem?_range h]
  simp
theorem marks_no {j i : Nat} (h : i < j) : (marks j)[i]? ≠ some true := by
  unfold marks
  rw [List.getElem?_map]
  by_cases hi : i < 17
  · rw [List.getElem?_range hi]
    simp
    omega
  · rw [List.getElem?_eq_none (by simp; omega)]
    simp
theorem boot_ve : bootBuiltins "ValueError" = some (.type "ValueError") := by decide +kernel
theorem words_at {j : Nat} (h : j < 16) : atI (words.map V.str) (j : Int) = some (.str (words.getD j "")) := by
  have hl : words.length = 16 := rfl
  have : words[j]? = some (words.getD j "") := by
    rw [List.getD_eq_getElem?_getD, List.getElem?_eq_getElem (by omega)]
    rfl
  refine atI_nat ?_
  rw [List.getElem?_map, this]
  rfl
section
variable {P : Program} {w : World} {K : PySem.W.Frag} {mg : Str → Option Value} {base : Heap}
/-- isinstance(e, D) -/
theorem be_isx {X : Cx} {x : Str} {D : Addr} {p q r pos : Pos} {y : Str} {i : Nat} (hN : X.N[i]? = some y) (hv : Vis X.env.scope y) (hI : Gl X "isinstance") (mI : X.mg "isinstance" = none) (hg : Gl X x) (hm : X.mg x = some (.ref D)) (hd : (y == ("__debug__" : Str)) = false := by decide) (hcd : (y == ("__classdict__" : Str)) = false := by decide) (hd2 : (x == ("__debug__" : Str)) = false := by decide) :
    BE X (.Call (.Name "isinstance" p) [.Name y q, .Name x r] [] pos) (tCB (fun xs H Q => ∃ a C c b, xs = [.ref a, c] ∧ H a = some (.ext (excAt a C)) ∧ ExcC X.K C ∧ ((∃ D, c = .ref D ∧ PySem.W.kitOne X.K (.ref C) (.ref D) = some b) ∨ ∃ n, c = .ty n ∧ PySem.W.kitOne X.K (.ref C) (.type n) = some b) ∧ Q (.bl b) H) (tCons (tVar i) (tCons (tC (.ref D)) tNil))) :=
  ⟨pe_callB call_isinstX hI mI boot_isinstance (pa_c (pe_var hN hv hd hcd) (pa_c (pe_glob (v := .ref D) hg hm rfl hd2) pa_nil))⟩
theorem rd_isx {K : PySem.W.Frag} {σ : L2.St} {H : Hp} {a : Addr} {Cs : Nat → Addr} {i j : Nat} {Q : VK} (Z : Kind K Cs j) (hi : i < 17) (e : H a = some (.ext (excAt a (Cs j)))) (hσ : σ[0]? = some (some (.ref a))) (h : Q (.bl (decide (i = j))) H) :
    tCB (fun xs H Q => ∃ a C c b, xs = [.ref a, c] ∧ H a = some (.ext (excAt a C)) ∧ ExcC K C ∧ ((∃ D, c = .ref D ∧ PySem.W.kitOne K (.ref C) (.ref D) = some b) ∨ ∃ n, c = .ty n ∧ PySem.W.kitOne K (.ref C) (.type n) = some b) ∧ Q (.bl b) H) (tCons (tVar 0) (tCons (tC (.ref (Cs i))) tNil)) σ H Q :=
  ⟨_, hσ, a, Cs j, .ref (Cs i), _, rfl, e, Z.ex, .inl ⟨_, rfl, Z.on i hi⟩, h⟩
theorem sc43 : FnScope ["_law_e", "_law_names", "_law_kinds"] ["_law_e"] (defScope (top 49)) := ⟨rfl, rfl, rfl, by decide +kernel, rfl, by decide +kernel, by decide +kernel⟩
theorem ok_kind {f : Addr} {Cs : Nat → Addr} {fd : FuncData} (F : Fun K "_law_kind" "_law_kind" (top 49) f fd) (T : Mg mg) (Tv : mg "ValueError" = none) (L : Clss mg Cs) : FnOkU P w K mg base CX0 1 f fd ["_law_e"] (spKind K Cs) := by
  refine F.okU sc43 (fun vs H Q E h => ?_) (fun cdv A outer s H vs Q E hr h => ?_)
  · obtain ⟨a, j, rfl, _⟩ := h
    rfl
  · obtain ⟨a, j, rfl, ea, Z, q⟩ := h
    refine ok_b (bss_cons (bs_set (i := 1) sc43.nd rfl (Or.inl rfl) (be_lst (ab_c be_str (ab_c be_str (ab_c be_str (ab_c be_str (ab_c be_str (ab_c be_str (ab_c be_str (ab_c be_str (ab_c be_str (ab_c be_str (ab_c be_str aa_nil)))))))))))))
      (bss_cons (bs_set (i := 1) sc43.nd rfl (Or.inl rfl) (be_op op_cat ⟨pv 1⟩ (be_lst (ab_c be_str (ab_c be_str (ab_c be_str (ab_c be_str (ab_c be_str aa_nil))))))))
      (bss_cons (bs_set (i := 2) sc43.nd rfl (Or.inl rfl) (be_lst (ab_c (be_isx (i := 0) rfl (Or.inl rfl) rfl T.isinstance rfl L.n0) (ab_c (be_isx (i := 0) rfl (Or.inl rfl) rfl T.isinstance rfl L.n1) (ab_c (be_isx (i := 0) rfl (Or.inl rfl) rfl T.isinstance rfl L.n2) (ab_c (be_isx (i := 0) rfl (Or.inl rfl) rfl T.isinstance rfl L.n3) aa_nil))))))
      (bss_cons (bs_set (i := 2) sc43.nd rfl (Or.inl rfl) (be_op op_cat ⟨pv 2⟩ (be_lst (ab_c (be_isx (i := 0) rfl (Or.inl rfl) rfl T.isinstance rfl L.n4) (ab_c (be_isx (i := 0) rfl (Or.inl rfl) rfl T.isinstance rfl L.n5) (ab_c (be_isx (i := 0) rfl (Or.inl rfl) rfl T.isinstance rfl L.n6) aa_nil))))))
      (bss_cons (bs_set (i := 2) sc43.nd rfl (Or.inl rfl) (be_op op_cat ⟨pv 2⟩ (be_lst (ab_c (be_isx (i := 0) rfl (Or.inl rfl) rfl T.isinstance rfl L.n7) (ab_c (be_isx (i := 0) rfl (Or.inl rfl) rfl T.isinstance rfl L.n8) (ab_c (be_isx (i := 0) rfl (Or.inl rfl) rfl T.isinstance rfl L.n9) aa_nil))))))
      (bss_cons (bs_set (i := 2) sc43.nd rfl (Or.inl rfl) (be_op op_cat ⟨pv 2⟩ (be_lst (ab_c (be_isx (i := 0) rfl (Or.inl rfl) rfl T.isinstance rfl L.n10) (ab_c (be_isx (i := 0) rfl (Or.inl rfl) rfl T.isinstance rfl L.n11) (ab_c (be_isx (i := 0) rfl (Or.inl rfl) rfl T.isinstance rfl L.n12) (ab_c (be_isx (i := 0) rfl (Or.inl rfl) rfl T.isinstance rfl L.n13) aa_nil)))))))
      (bss_cons (bs_set (i := 2) sc43.nd rfl (Or.inl rfl) (be_op op_cat ⟨pv 2⟩ (be_lst (ab_c (be_isx (i := 0) rfl (Or.inl rfl) rfl T.isinstance rfl L.n14) (ab_c (be_isx (i := 0) rfl (Or.inl rfl) rfl T.isinstance rfl L.n15) (ab_c (be_isx (i := 0) rfl (Or.inl rfl) rfl T.isinstance rfl L.n16) aa_nil))))))
      (bss_cons (bs_if (bt_or2 (bt_ne (be_count ⟨pv 2⟩)) (bt_not (bt_call ⟨pe_callB call_isinstX rfl T.isinstance boot_isinstance (pa_c (pv 0) (pa_c (pe_bltn rfl Tv boot_ve (v := .ty "ValueError") rfl) pa_nil))⟩))) (bss_one (bs_ret (be_tup (ab_c be_str aa_nil)))) bss_nil)
      (bss_one (bs_ret (be_ifE (bt_sub (be_ix ix_list ⟨pv 2⟩ be_int (fun _ _ => rfl))) ⟨pe_never⟩ (be_tup (ab_c (be_ix ix_list ⟨pv 1⟩ (be_index ⟨pv 2⟩) (fun _ _ => rfl)) aa_nil))))))))))))) ?_
    refine rd_seq ?_
    refine ⟨by decide, fun p1 hp1 => ?_⟩
    refine rd_name ?_
    dsimp only
    refine gen_ts (fun H1 => Same H H1 ∧ H1 p1 = some (.lst [.str "clips", .str "promises", .str "sales", .str "book", .str "number", .str "year", .str "weights", .str "paper", .str "growth", .str "promise", .str "sort"])) ⟨Same.upd hp1, upd_same⟩ fun H1 ⟨s1, e1⟩ => ?_
    refine rd_seq ?_
    refine ⟨_, rfl, by decide, fun p2 hp2 => ⟨p1, p2, _, _, rfl, rfl, Same.upd hp2 _ _ e1, upd_same, by decide, fun l2 hl2 => ?_⟩⟩
    refine rd_name ?_
    dsimp only
    refine gen_ts (fun H2 => Same H H2 ∧ H2 l2 = some (.lst (words.map V.str))) ⟨(s1.updR hp2).updR hl2, upd_same⟩ fun H2 ⟨s2, e2⟩ => ?_
    have ea2 := s2 _ _ ea
    refine rd_seq ?_
    refine rd_asg ?_
    refine rd_lst ?_
    refine rd_cons ?_
    refine rd_isx (i := 0) Z (by decide) ea2 rfl ?_
    refine rd_cons ?_
    refine rd_isx (i := 1) Z (by decide) ea2 rfl ?_
    refine rd_cons ?_
    refine rd_isx (i := 2) Z (by decide) ea2 rfl ?_
    refine rd_cons ?_
    refine rd_isx (i := 3) Z (by decide) ea2 rfl ?_
    refine ⟨(by show 4 ≤ sizeLine; decide), fun p3 hp3 => ?_⟩
    refine rd_name ?_
    dsimp only
    refine gen_ts (fun H3 => Same H H3 ∧ H3 l2 = some (.lst (words.map V.str)) ∧ H3 p3 = some (.lst ([decide (0 = j), decide (1 = j), decide (2 = j), decide (3 = j)].map V.bl))) ⟨s2.updR hp3, Same.upd hp3 _ _ e2, upd_same⟩ fun H3 ⟨s3, e3, f3⟩ => ?_
    have ea3 := s3 _ _ ea
    refine rd_seq ?_
    refine rd_asg ?_
    refine ⟨_, rfl, ?_⟩
    refine rd_lst ?_
    refine rd_cons ?_
    refine rd_isx (i := 4) Z (by decide) ea3 rfl ?_
    refine rd_cons ?_
    refine rd_isx (i := 5) Z (by decide) ea3 rfl ?_
    refine rd_cons ?_
    refine rd_isx (i := 6) Z (by decide) ea3 rfl ?_
    refine ⟨(by show 3 ≤ sizeLine; decide), fun p4 hp4 => ⟨p3, p4, _, _, rfl, rfl, Same.upd hp4 _ _ f3, upd_same, (by show 7 ≤ sizeLine; decide), fun l4 hl4 => ?_⟩⟩
    refine rd_name ?_
    dsimp only
    refine gen_ts (fun H4 => Same H H4 ∧ H4 l2 = some (.lst (words.map V.str)) ∧ H4 l4 = some (.lst ([decide (0 = j), decide (1 = j), decide (2 = j), decide (3 = j), decide (4 = j), decide (5 = j), decide (6 = j)].map V.bl))) ⟨(s3.updR hp4).updR hl4, Same.upd hl4 _ _ (Same.upd hp4 _ _ e3), upd_same⟩ fun H4 ⟨s4, e4, f4⟩ => ?_
    have ea4 := s4 _ _ ea
    refine rd_seq ?_
    refine rd_asg ?_
    refine ⟨_, rfl, ?_⟩
    refine rd_lst ?_
    refine rd_cons ?_
    refine rd_isx (i := 7) Z (by decide) ea4 rfl ?_
    refine rd_cons ?_
    refine rd_isx (i := 8) Z (by decide) ea4 rfl ?_
    refine rd_cons ?_
    refine rd_isx (i := 9) Z (by decide) ea4 rfl ?_
    refine ⟨(by show 3 ≤ sizeLine; decide), fun p5 hp5 => ⟨l4, p5, _, _, rfl, rfl, Same.upd hp5 _ _ f4, upd_same, (by show 10 ≤ sizeLine; decide), fun l5 hl5 => ?_⟩⟩
    refine rd_name ?_
    dsimp only
    refine gen_ts (fun H5 => Same H H5 ∧ H5 l2 = some (.lst (words.map V.str)) ∧ H5 l5 = some (.lst ([decide (0 = j), decide (1 = j), decide (2 = j), decide (3 = j), decide (4 = j), decide (5 = j), decide (6 = j), decide (7 = j), decide (8 = j), decide (9 = j)].map V.bl))) ⟨(s4.updR hp5).updR hl5, Same.upd hl5 _ _ (Same.upd hp5 _ _ e4), upd_same⟩ fun H5 ⟨s5, e5, f5⟩ => ?_
    have ea5 := s5 _ _ ea
    refine rd_seq ?_
    refine rd_asg ?_
    refine ⟨_, rfl, ?_⟩
    refine rd_lst ?_
    refine rd_cons ?_
    refine rd_isx (i := 10) Z (by decide) ea5 rfl ?_
    refine rd_cons ?_
    refine rd_isx (i := 11) Z (by decide) ea5 rfl ?_
    refine rd_cons ?_
    refine rd_isx (i := 12) Z (by decide) ea5 rfl ?_
    refine rd_cons ?_
    refine rd_isx (i := 13) Z (by decide) ea5 rfl ?_
    refine ⟨(by show 4 ≤ sizeLine; decide), fun p6 hp6 => ⟨l5, p6, _, _, rfl, rfl, Same.upd hp6 _ _ f5, upd_same, (by show 14 ≤ sizeLine; decide), fun l6 hl6 => ?_⟩⟩
    refine rd_name ?_
    dsimp only
    refine gen_ts (fun H6 => Same H H6 ∧ H6 l2 = some (.lst (words.map V.str)) ∧ H6 l6 = some (.lst ([decide (0 = j), decide (1 = j), decide (2 = j), decide (3 = j), decide (4 = j), decide (5 = j), decide (6 = j), decide (7 = j), decide (8 = j), decide (9 = j), decide (10 = j), decide (11 = j), decide (12 = j), decide (13 = j)].map V.bl))) ⟨(s5.updR hp6).updR hl6, Same.upd hl6 _ _ (Same.upd hp6 _ _ e5), upd_same⟩ fun H6 ⟨s6, e6, f6⟩ => ?_
    have ea6 := s6 _ _ ea
    refine rd_seq ?_
    refine rd_asg ?_
    refine ⟨_, rfl, ?_⟩
    refine rd_lst ?_
    refine rd_cons ?_
    refine rd_isx (i := 14) Z (by decide) ea6 rfl ?_
    refine rd_cons ?_
    refine rd_isx (i := 15) Z (by decide) ea6 rfl ?_
    refine rd_cons ?_
    refine rd_isx (i := 16) Z (by decide) ea6 rfl ?_
    refine ⟨(by show 3 ≤ sizeLine; decide), fun p7 hp7 => ⟨l6, p7, _, _, rfl, rfl, Same.upd hp7 _ _ f6, upd_same, (by show 17 ≤ sizeLine; decide), fun l7 hl7 => ?_⟩⟩
    refine rd_name ?_
    dsimp only
    refine gen_ts (fun H7 => Same H H7 ∧ H7 l2 = some (.lst (words.map V.str)) ∧ H7 l7 = some (.lst ([decide (0 = j), decide (1 = j), decide (2 = j), decide (3 = j), decide (4 = j), decide (5 = j), decide (6 = j), decide (7 = j), decide (8 = j), decide (9 = j), decide (10 = j), decide (11 = j), decide (12 = j), decide (13 = j), decide (14 = j), decide (15 = j), decide (16 = j)].map V.bl))) ⟨(s6.updR hp7).updR hl7, Same.upd hl7 _ _ (Same.upd hp7 _ _ e6), upd_same⟩ fun H7 ⟨s7, e7, f7⟩ => ?_
    have ea7 := s7 _ _ ea
    have f7 : H7 l7 = some (.lst ((marks j).map V.bl)) := f7
    have lt := Z.lt
    refine rd_seq ?_
    refine ⟨_, rfl, .inl ⟨rfl, _, SqL.of f7⟩, l7, marks j, true, rfl, rfl, f7, rfl, _, rfl, ?_⟩
    rw [marks_count j (by omega)]
    refine iteF ?_
    refine ⟨_, rfl, a, Cs j, .ty "ValueError", true, rfl, ea7, Z.ex, .inr ⟨_, rfl, Z.ve⟩, _, rfl, ?_⟩
    refine iteF ?_
    refine rd_next ?_
    dsimp only
    refine ⟨_, rfl, l7, _, 16, .bl (decide (16 = j)), rfl, rfl, SqL.of f7, rfl, _, rfl, ?_⟩
    rw [decide_eq_false (by omega : ¬ 16 = j)]
    refine iteF ?_
    refine ⟨_, rfl, _, rfl, .inl ⟨rfl, _, SqL.of f7⟩, l7, marks j, true, j, rfl, rfl, f7, marks_at (by omega), fun i hi => marks_no hi, l2, _, j, _, rfl, rfl, SqL.of e7, words_at lt, (by show 1 ≤ sizeLine; decide), fun p8 hp8 => ?_⟩
    exact q p8 _ (s7.updR hp8) upd_same
end
/-! ### _law_said -/
def toE (EX : Addr → Addr → Hp → Prop) : XK := fun e C H => match e, C with
  | .ref a, some C' => EX a C' H
  | _, _ => False
/-- what a lambda says: its value (Qw), or its exception (Ew) -/
def LamSays (P : Program) (w : World) (K : PySem.W.Frag) (mg : Str → Option Value) (base : Heap) (kk : Nat) (H : Hp) (fl : Addr) (Qw : VK) (Ew : Addr → Addr → Hp → Prop) : Prop :=
  ∃ (fd : FuncData) (body : Expr) (N : List Str) (vs : List V) (cs : List (Addr × Obj)), LamObj H fl fd ∧ LamAt fd body N ∧ (∀ b o, cs.lookup b = some o → H b = some (held o)) ∧ (∀ x c, fd.closure.lookup x = some c → ∃ o v, cs.lookup c = some o ∧ o.data = .cell v) ∧
    (∀ (i : Nat) (x : Str) (v : V), N[i]? = some x → vs[i]? = some v → ∃ c u o, fd.closure.lookup x = some c ∧ RelV v u ∧ cs.lookup c = some o ∧ o.data = .cell (some u)) ∧ vs.length = N.length ∧
    ∀ (A : Around) (outer : List Env) (Q' : VK) (E' : XK), Room kk A → (∀ v H1, Qw v H1 → Q' v H1) → (∀ a C H1, Ew a C H1 → E' (.ref a) (some C) H1) →
      ∃ te, (∀ s, PE (cxL P w K mg base N fd fl A outer s (er H cs) (fun e C H1 => NoC cs H1 → E' e C (fz H1 cs))) body te) ∧ te (vs.map some) (er H cs) fun v H1 => NoC cs H1 → Q' v (fz H1 cs)
theorem rd_lam {X : Cx} {i kk : Nat} {E : XK} {σ : L2.St} {H : Hp} {Q : VK} {fl : Addr} {Qw : VK} {Ew : Addr → Addr → Hp → Prop} (eσ : σ[i]? = some (some (.ref fl))) (L : LamSays X.prog X.w X.K X.mg X.base kk H fl Qw Ew) (hr : Room kk X.A) (q1 : ∀ v H1, Qw v H1 → Q v H1) (q2 : ∀ a C H1, Ew a C H1 → E (.ref a) (some C) H1) : tLam X i E σ H Q := by
  obtain ⟨fd, body, N, vs, cs, L, Z, fr, cell, val, hl, run⟩ := L
  obtain ⟨te, hte, q⟩ := run X.A X.stack Q E hr q1 q2
  exact ⟨fl, fd, body, N, vs, cs, te, eσ, L, Z, fr, cell, val, hl, hte, q⟩
/-- the def of a word, called while an exception is handled -/
def CalU (P : Program) (w : World) (K : PySem.W.Frag) (mg : Str → Option Value) (base : Heap) (k : Nat) (x : Str) (ps : List Str) (sp : Sp) : Prop :=
  ∃ f fd, FnOkU P w K mg base CX0 k f fd ps sp ∧ mg x = some (.ref f) ∧ PySem.W.keepIn K (.ref f) = true ∧ Binds K fd ps []
theorem pe_calU {X : Cx} {k j : Nat} {x : Str} {ps : List Str} {sp : Sp} {p pos : Pos} {e : Expr} {es : List Expr} {t : TA} (c : CalU X.prog X.w X.K X.mg X.base j x ps sp) (hr : RoomU k X.A) (hjk : j ≤ k) (hg : Gl X x) (ha : PA X (e :: es) t)
    (hdb : (x == ("__debug__" : Str)) = false := by decide) (he : starEach (e :: es) X.env = (false, eval e X.env) :: starEach es X.env := by rfl) (hpl : (backTo pos (starEach es X.env)).any (·.1) = false := by rfl) :
    PE X (.Call (.Name x p) (e :: es) [] pos) (tCall sp [] E0 t) := by
  obtain ⟨f, fd, F, m, k', b⟩ := c
  exact pe_callU F (hr.mono hjk) hg m k' b ha hdb he hpl
def spSaid (P : Program) (w : World) (K : PySem.W.Frag) (mg : Str → Option Value) (base : Heap) (Cs : Nat → Addr) (kk : Nat) : Sp := fun vs H Q _ => ∃ (fl : Addr) (Qw : VK) (Ew : Addr → Addr → Hp → Prop), vs = [.ref fl] ∧ LamSays P w K mg base kk H fl Qw Ew ∧
  (∀ v H1, Qw v H1 → ∀ p, H1 p = none → p ≠ sysModules → Q (.ref p) (upd H1 p (.lst [v]))) ∧
  (∀ a C H1, Ew a C H1 → ∃ j, C = Cs j ∧ Kind K Cs j ∧ (H1 a = none → ∀ p H2, Same H1 H2 → H2 p = some (.tup [.str (words.getD j "")]) → Q (.ref p) H2))
section
variable {P : Program} {w : World} {K : PySem.W.Frag} {mg : Str → Option Value} {base : Heap}
theorem sc44 : FnScope ["_law_call", "_law_found", "_law_e"] ["_law_call"] (defScope (top 50)) := ⟨rfl, rfl, rfl, by decide +kernel, rfl, by decide +kernel, by decide +kernel⟩
theorem ok_said {f : Addr} {Cs : Nat → Addr} {fd : FuncData} {kk : Nat} (F : Fun K "_law_said" "_law_said" (top 50) f fd) (L : Clss mg Cs) (c1 : CalU P w K mg base 1 "_law_kind" ["_law_e"] (spKind K Cs)) : FnOk P w K mg base CX0 (kk + 2) f fd ["_law_call"] (spSaid P w K mg base Cs kk) := by
  refine F.ok sc44 (fun vs H Q E h => ?_) (fun cdv A outer s H vs Q E hr h => ?_)
  · obtain ⟨fl, Qw, Ew, rfl, _⟩ := h
    rfl
  · obtain ⟨fl, Qw, Ew, rfl, S, q1, q2⟩ := h
    refine ⟨_, pss_cons (ps_try (i := 2) (tb := fun EX => tAsg (tLam (cxOf CX0 P w K mg base ["_law_call", "_law_found", "_law_e"] "_law_said" (defScope (top 50)) f cdv A outer s H E).nox 0 (toE EX)) (gName 1)) L.wool rfl sc44.nd rfl rfl rfl rfl
        (fun pins xe EX W => pss_one (ps_set (i := 1) sc44.nd rfl (Or.inl rfl) (pe_lam (E := toE EX) (k := kk) (hr.mono (by omega)) rfl (Or.inl rfl) W rfl)))
        (fun v => pss_one (ps_ret (pe_calU c1 (hr.toU.mark v) (by omega) rfl (pa_c (pv 2) pa_nil)))))
      (pss_one (ps_ret (pe_lstS (pa_c (pv 1) pa_nil)))), ?_⟩
    refine rd_seq ?_
    refine rd_asg ?_
    refine rd_lam (kk := kk) rfl S (hr.mono (by omega)) (fun v H1 hq => ?_) (fun a C H1 hE => ?_)
    · refine rd_name ?_
      refine ⟨_, rfl, (by show 1 ≤ sizeLine; decide), fun p hp np => q1 v H1 hq p hp np⟩
    · obtain ⟨j, rfl, Z, q3⟩ := q2 a C H1 hE
      refine ⟨Z.ca, fun σ' hσ fa => ⟨.ref a, ?_, a, j, rfl, upd_same, Z, fun p H2 s2 e2 => q3 fa p H2 ((Same.upd fa).trans s2) e2⟩⟩
      rw [List.getElem?_set_self]
      have hσ : σ'.length = 3 := hσ
      omega
end
open PySem.W in
/-- all that is asked of the class of a word -/
def kdIn (K : Frag) (L : List Addr) (j : Nat) : Bool :=
  decide (j < 16) && ((clsIn K (L.getD j 0)).isSome && (findIn K (.ref (L.getD j 0)) "__getattribute__" == some (some (.builtin "BaseException.__getattribute__")) && (findIn K (.ref (L.getD j 0)) "__getattr__" == some none && (findIn K (.ref (L.getD j 0)) "__class__" == some (some (.builtin "object.__class__")) &&
  (specialIn K (.builtin "object.__class__") "__get__" == some (some (.builtin "getset_descriptor.__get__")) && (takesIn K (.builtin "object.__class__") == some true && (mroIn K (L.getD j 0) (.type "object") == some true && (mroIn K (L.getD j 0) (.type "BaseException") == some true &&
  (typeIn K (.ref (L.getD 17 0)) == some (.type "type") && ((clsIn K (L.getD 17 0)).isSome && (subIn K (.ref (L.getD 17 0)) (.type "BaseException") == some true && (subIn K (.ref (L.getD j 0)) (.ref (L.getD 17 0)) == some true &&
  ((List.range 17).all (fun i => kitOne K (.ref (L.getD j 0)) (.ref (L.getD i 0)) == some (decide (i = j))) && kitOne K (.ref (L.getD j 0)) (.type "ValueError") == some true)))))))))))))
theorem kd_of {K : PySem.W.Frag} {L : List Addr} {j : Nat} (h : kdIn K L j = true) : Kind K (fun i => L.getD i 0) j := by
  unfold kdIn at h
  simp only [Bool.and_eq_true, beq_iff_eq, decide_eq_true_eq] at h
  obtain ⟨h0, h1, h2, h3, h4, h5, h6, h7, h8, h9, h10, h11, h12, h13, h14⟩ := h
  refine ⟨h0, ⟨h1, h2, h3, h4, h5, h6, h7, h8⟩, ⟨h9, h10, h11, h12⟩, fun i hi => ?_, h14⟩
  have := List.all_eq_true.mp h13 i (List.mem_range.mpr hi)
  simpa using this
theorem tab_mk {K : PySem.W.Frag} {x : Str} {f c T : Addr} {a1 a2 : Value} {b1 b2 : Option Addr} {s1 s2 : Array (Option Value)} {fd : FuncData} {vs : Array Value} (h1 : PySem.W.nsIn K mainGlobals x = some (some (.ref f))) (h2 : K.lookup f = some ⟨a1, b1, .func fd, s1⟩) (h3 : fd.code = .ref c) (h4 : K.lookup c = some ⟨a2, b2, .fields vs, s2⟩) (h5 : vs[11]? = some (.ref T)) :
    PySem.W.tabIn K x = some (c, T) := by
  unfold PySem.W.tabIn
  rw [h1]
  show (match K.lookup f with | some ⟨_, _, .func fd, _⟩ => _ | _ => none) = _
  rw [h2]
  show (match fd.code with | .ref c => _ | _ => none) = _
  rw [h3]
  show (match K.lookup c with | some ⟨_, _, .fields vs, _⟩ => _ | _ => none) = _
  rw [h4]
  show (match vs[11]? with | some (.ref P) => some (c, P) | _ => none) = _
  rw [h5]
/-! ### what a lambda says, as _law_said wants it -/
/-- a def's end: a word (raised), or a thing -/
def OutX (Cs : Nat → Addr) (o : Option Nat) (res : PyData) (H : Hp) (Q : VK) (E : XK) : Prop := (∀ j, o = some j → ∀ a H', Same H H' → H' a = none → E (.ref a) (some (Cs j)) H') ∧ (o = none → ∀ v' H', Same H H' → IsTh (fun _ => False) H' v' res → Q v' H')
def outD (o : Option Nat) (res : PyData) : PyData := match o with
  | some j => wordD j
  | none => .list [res]
section
variable {P : Program} {w : World} {K : PySem.W.Frag} {mg : Str → Option Value} {base : Heap}
theorem said_gen {Cs : Nat → Addr} {kk : Nat} {fl : Addr} {fd : FuncData} {body : Expr} {N : List Str} {vs : List V} {cs : List (Addr × Obj)} {H2 : Hp} {o : Option Nat} {res : PyData} {Q : VK} (kd : ∀ j, o = some j → Kind K Cs j) (L : LamObj H2 fl fd) (Z : LamAt fd body N) (C : CellsOf fd.closure N vs H2 cs) (hN : vs.length = N.length)
    (run : ∀ A outer E Q, Room kk A → OutX Cs o res H2 Q E → ∃ te, (∀ s, PE (cxL P w K mg base N fd fl A outer s H2 E) body te) ∧ te (vs.map some) H2 Q)
    (q : ∀ v' H3, Same (fz H2 cs) H3 → IsTh (New (fz H2 cs)) H3 v' (outD o res) → Q v' H3) : spSaid P w K mg base Cs kk [.ref fl] (fz H2 cs) Q E0 := by
  have no : NoC cs H2 := C.no
  have hfz : ∀ b o, H2 b = some o → fz H2 cs b = some o := fun b o e => by
    cases z : cs.lookup b with
    | some u => rw [no b u z] at e; cases e
    | none => rw [fz_ne z]; exact e
  refine ⟨fl, fun v' H3 => o = none ∧ Same (fz H2 cs) H3 ∧ IsTh (fun _ => False) H3 v' res, fun a C' H3 => ∃ j, o = some j ∧ C' = Cs j ∧ Same (fz H2 cs) H3, rfl,
    ⟨fd, body, N, vs, cs, ?_, Z, fun b o e => fz_at e, C.cell, C.val, hN, fun A' outer' Q' E' hr' h1 h2 => ?_⟩, ?_, ?_⟩
  · obtain ⟨⟨o, e1, e2⟩, c, oc, vs, t, a1, a2, a3⟩ := L
    exact ⟨⟨o, hfz _ _ e1, e2⟩, c, oc, vs, t, a1, hfz _ _ a2, a3⟩
  · rw [er_fz no]
    refine run A' outer' _ _ hr' ⟨fun j hj a H' s' na no' => ?_, fun kn v' H' s' tv no' => ?_⟩
    · exact h2 a (Cs j) (fz H' cs) ⟨j, hj, rfl, s'.fz⟩
    · exact h1 v' (fz H' cs) ⟨kn, s'.fz, tv.fz no'⟩
  · rintro v' H3 ⟨kn, s3, tv⟩ p hp np
    refine q _ _ (s3.updR hp) ?_
    unfold outD
    rw [kn]
    exact .lst ⟨s3.free hp, np⟩ upd_same (.cons ((tv.same (Same.upd hp)).kp (fun _ _ _ _ e => e) fun _ _ _ _ z _ => z.elim) .nil)
  · rintro a C' H3 ⟨j, hj, rfl, s3⟩
    refine ⟨j, rfl, kd j hj, fun fa p H4 s4 e4 => q _ _ (s3.trans s4) ?_⟩
    unfold outD
    rw [hj]
    exact th_word e4 rfl
end
end K02

set_option Elab.async false
set_option linter.all false
set_option maxRecDepth 100000
set_option maxHeartbeats 1000000
namespace K02
open PySem L2
/-! ### first_unheld, which may raise -/
def kind2 (d e : PyData) : Option Nat := if promsD d = false then some 1 else if salesD e = false then some 2 else none
def unD : Option Nat → PyData
  | some i => .int i
  | none => .none
theorem th_un {S : Addr → Prop} {H : Hp} : ∀ (o : Option Nat), IsTh S H (unV o) (unD o)
  | some i => .int _
  | none => .non
def spFirstX (Cs : Nat → Addr) : Sp := fun vs H Q E => ∃ S v d S' u e, vs = [v, u] ∧ IsTh S H v d ∧ IsTh S' H u e ∧ sz d ≤ 4000 ∧ sz e ≤ 4000 ∧ OutX Cs (kind2 d e) (unD (un (rowsOf d) (rowsOf e))) H Q E
section
variable {P : Program} {w : World} {K : PySem.W.Frag} {mg : Str → Option Value} {base : Heap}
theorem ok_firstX {f : Addr} {Cs : Nat → Addr} {fd : FuncData} (F : Fun K "first_unheld" "first_unheld" (top 37) f fd) (O1 : PyProof.Rows.OwnCls "NoPromises" (Cs 1) VE "ValueError.__new__" mg base) (O2 : PyProof.Rows.OwnCls "NoSales" (Cs 2) VE "ValueError.__new__" mg base) (Te : mg "enumerate" = none) (c1 : Cal P w K mg base 4 "are_promises" ["thing"] (spT promsD)) (c2 : Cal P w K mg base 3 "are_sales" ["thing"] (spT salesD)) (c3 : Cal P w K mg base 2 "sale_holds" ["promises", "ahead", "sale"] spHolds) :
    FnOk P w K mg base (CX1 P w) 5 f fd ["promises", "sales"] (spFirstX Cs) := by
  refine F.okX sc26s (fun vs H Q E h => ?_) (fun cdv A outer s H vs Q E hr h => ?_)
  · obtain ⟨S, v, d, S', u, e, rfl, _⟩ := h
    rfl
  · obtain ⟨S, v, d, S', u, e, rfl, thp, ths, zp, zs, q1, q2⟩ := h
    refine ⟨_, pss_cons (ps_if (pt_not (pt_val (pe_cal c1 hr (by decide) rfl (pa_c (pv 0) pa_nil)))) (pss_one (ps_raise O1 PySem.F.excBase_ValueError rfl rfl rfl (pa_c pe_str pa_nil) wish_of)) pss_nil)
      (pss_cons (ps_if (pt_not (pt_val (pe_cal c2 hr (by decide) rfl (pa_c (pv 1) pa_nil)))) (pss_one (ps_raise O2 PySem.F.excBase_ValueError rfl rfl rfl (pa_c pe_str pa_nil) wish_of)) pss_nil)
      (PSs.nox (pss_cons (ps_for PassesOwn.never rfl (pi_enum rfl Te (pa_c (pv 1) pa_nil)) (pg_tup rfl (pgs_cons (pg_name (i := 2) sc26s.nd rfl (Or.inl rfl)) (pgs_cons (pg_name (i := 3) sc26s.nd rfl (Or.inl rfl)) pgs_nil)))
        (pss_one (ps_if (pt_not (pt_val (pe_cal c3 hr (by decide) rfl (pa_c (pv 0) (pa_c (pe_slice sl_tupW (pv 1) po_none (po_some (pv 2))) (pa_c (pv 3) pa_nil)))))) (pss_one (ps_ret (pv 2))) pss_nil)))
      (pss_one (ps_ret pe_non))))), ?_⟩
    refine rd_seq ?_
    refine ⟨_, rfl, S, v, d, rfl, thp, zp, fun H1 s1 => ⟨_, rfl, ?_⟩⟩
    cases hp : promsD d with
    | false => exact iteT ⟨by decide, fun a ha => q1 1 (by unfold kind2; rw [if_pos hp]) a _ s1 ha⟩
    | true =>
    refine iteF ?_
    refine rd_next ?_
    dsimp only
    refine rd_seq ?_
    refine ⟨_, rfl, S', u, e, rfl, ths.same s1, zs, fun H2 s2 => ⟨_, rfl, ?_⟩⟩
    cases hs : salesD e with
    | false => exact iteT ⟨by decide, fun a ha => q1 2 (by unfold kind2; rw [if_neg (by rw [hp]; decide), if_pos hs]) a _ (s1.trans s2) ha⟩
    | true =>
    have q : ∀ H', Same H H' → Q (unV (un (rowsOf d) (rowsOf e))) H' := fun H' s' => q2 (by unfold kind2; rw [if_neg (by rw [hp]; decide), if_neg (by rw [hs]; decide)]) _ H' s' (th_un _)
    clear q1 q2
    refine iteF ?_
    refine rd_next ?_
    dsimp only
    have s12 := s1.trans s2
    obtain ⟨ep, lp, okp⟩ := proms_rows hp
    obtain ⟨es, ls, oks⟩ := sales_rows hs
    have th1 := thp.same s12
    have th2 := ths.same s12
    rw [ep] at th1
    rw [es] at th2
    generalize rowsOf d = ps at q lp okp th1
    generalize rowsOf e = ss at q ls oks th2
    obtain ⟨ap, xp, rfl, rp⟩ := th_rows th1
    obtain ⟨as_, xs, rfl, rs⟩ := th_rows th2
    refine rd_seq ?_
    refine ⟨_, rfl, as_, xs, rfl, SqT.of rs.e, ?_⟩
    refine for_enum (xs := xs) (fun i σ Hc => ∃ x2 x3, σ = [some (.ref ap), some (.ref as_), x2, x3] ∧ Same H2 Hc ∧ ∀ j, j < i → holdsB ps (ss.take j) (ss.getD j []) = true) ?_ ?_ ?_ ?_
    · exact ⟨none, none, rfl, Same.refl _, fun j hj => absurd hj (Nat.not_lt_zero _)⟩
    · rintro i σ Hc hi ⟨x2, x3, rfl, sm, hh⟩
      exact SqT.of (sm _ _ rs.e)
    · rintro i x σ Hc T0 hx ⟨x2, x3, rfl, sm, hh⟩ nT
      have hi : i < ss.length := by
        have := (List.getElem?_eq_some_iff.mp hx).1
        rw [rs.l] at this
        exact this
      have hix : i < xs.length := by rw [rs.l]; exact hi
      obtain ⟨tr, ex2, etr⟩ := rs.g i ss[i] (List.getElem?_eq_getElem hi)
      have : x = .ref tr := by
        rw [hx] at ex2
        exact Option.some.inj ex2
      subst this
      have h5 := oks ss[i] (List.getElem_mem hi)
      have sT := sm.updR (o := .tup [V.int i, V.ref tr]) nT
      refine ⟨T0, _, rfl, SqT.of upd_same, rfl, _, _, rfl, _, _, rfl, rfl, ?_⟩
      refine ⟨_, rfl, _, rfl, _, rfl, i, rfl, as_, xs, rfl, SqT.of (sT _ _ rs.e), fun hw => ?_, fun _ p hp' => ?_⟩
      · have := hw.2
        rw [HT.sIx_nat] at this
        exact absurd this (by omega)
      rw [cut_take (Nat.le_of_lt hix)]
      have sp := sT.updR (o := .tup (xs.take i)) hp'
      refine ⟨_, rfl, ap, xp, ps, p, xs.take i, ss.take i, tr, ss[i], rfl, rp.same sp, okp, (rs.same sT).cut i hp', ?_, ?_, sp _ _ etr, h5, fun H' s' => ⟨_, rfl, ?_⟩⟩
      · rw [List.length_take]
        omega
      · intro s hs'
        obtain ⟨j, hj, e'⟩ := List.getElem_of_mem hs'
        rw [List.length_take] at hj
        have hji : j < i := by omega
        have hjs : j < ss.length := by omega
        have e2 : ss[j] = s := by rw [← e', List.getElem_take]
        rw [← e2]
        have := hh j hji
        rw [getD_get hjs] at this
        exact betw_okS (oks _ (List.getElem_mem hjs)) this
      · cases eh : holdsB ps (ss.take i) ss[i] with
        | false =>
          refine iteT ⟨_, rfl, ?_⟩
          have := q H' (s12.trans (sp.trans s'))
          rw [un_some hh hi (by rw [getD_get hi]; exact eh)] at this
          exact this
        | true =>
          refine iteF ⟨_, _, rfl, sp.trans s', fun j hj => ?_⟩
          rcases Nat.lt_succ_iff_lt_or_eq.mp hj with z | z
          · exact hh j z
          · rw [z, getD_get hi]
            exact eh
    · rintro σ Hc ⟨x2, x3, rfl, sm, hh⟩
      have := q Hc (s12.trans sm)
      rw [un_none fun j hj => hh j (by rw [rs.l]; exact hj)] at this
      exact this
end
end K02

set_option Elab.async false
set_option linter.all false
set_option maxRecDepth 100000
set_option maxHeartbeats 1000000
namespace K02
open PySem L2
/-! ### _law_right -/
theorem un_lt {ps ss : List (List Int)} {i : Nat} (h : un ps ss = some i) : i < ss.length := by
  unfold un at h
  exact List.mem_range.mp (List.mem_of_find?_eq_some h)
theorem due_ok (d e : PyData) : tame (outD (kind2 d e) (unD (un (rowsOf d) (rowsOf e)))) = true ∧ sz (outD (kind2 d e) (unD (un (rowsOf d) (rowsOf e)))) ≤ 1000 := by
  unfold outD
  cases k : kind2 d e with
  | some j =>
    have : j = 1 ∨ j = 2 := by
      unfold kind2 at k
      split at k
      · cases k; omega
      · split at k
        · cases k; omega
        · cases k
    rcases this with rfl | rfl
    · exact ⟨(by show tame (wordD 1) = true; decide +kernel), (by show sz (wordD 1) ≤ 1000; decide +kernel)⟩
    · exact ⟨(by show tame (wordD 2) = true; decide +kernel), (by show sz (wordD 2) ≤ 1000; decide +kernel)⟩
  | none =>
    have hs : salesD e = true := by
      unfold kind2 at k
      split at k
      · cases k
      · split at k
        · cases k
        · rename_i h; simpa using h
    obtain ⟨_, ls, _⟩ := sales_rows hs
    cases u : un (rowsOf d) (rowsOf e) with
    | none => exact ⟨rfl, by decide⟩
    | some i =>
      have := un_lt u
      refine ⟨?_, (by show 1 + (1 + 0) ≤ 1000; decide)⟩
      show (decide ((i : Int).natAbs < 2 ^ 128) && true) = true
      rw [decide_eq_true (by omega)]
      rfl
def spRight (T : Addr) (qn : Str) : Sp := fun vs H Q _ => ∃ S v d u e, vs = [v, u] ∧ ¬ S sysModules ∧ IsTh S H v d ∧ IsTh S H u e ∧ tame (.tuple [d, e]) = true ∧ sz (.tuple [d, e]) ≤ 1000 ∧ TabOk H T qn ∧
  ∀ H', (∀ b o, b ≠ T → H b = some o → H' b = some o) → TabOk H' T qn → Q (.bl true) H'
section
variable {P : Program} {w : World} {K : PySem.W.Frag} {mg : Str → Option Value} {base : Heap}
theorem sc60 : FnScope ["_law_promises_here", "_law_sales_here", "_law_kept", "_law_due", "_law_found"] ["_law_promises_here", "_law_sales_here"] (defScope (top 60)) := ⟨rfl, rfl, rfl, by decide +kernel, rfl, by decide +kernel, by decide +kernel⟩
def qnT : Str := (PyProof.Rows.envOfC "_law_right" (defScope (top 60)) 0 0 .none).qual ++ "<lambda>"
theorem ok_right {f T cc : Addr} {Cs : Nat → Addr} {fd : FuncData} (F : Fun K "_law_right" "_law_right" (top 60) f fd) (hc : fd.code = .ref cc) (hC : PySem.W.CodeHd base cc T) (hB : base.BuiltinsAt mg T) (Tr : mg "repr" = none) (kd : ∀ j, j = 1 ∨ j = 2 → Kind K Cs j)
    (c1 : Cal P w K mg base 9 "_law_said" ["_law_call"] (spSaid P w K mg base Cs 7)) (c2 : CalX P w K mg base 5 "first_unheld" ["promises", "sales"] (spFirstX Cs)) (c3 : Cal P w K mg base 4 "_law_are_promises" ["_law_thing"] (spT lpromsD)) (c4 : Cal P w K mg base 3 "_law_are_sales" ["_law_thing"] (spT lsalesD))
    (c5 : Cal P w K mg base 2 "_law_sold" ["_law_promises_here", "_law_sales_here"] spSold) (c6 : Cal P w K mg base 61 "_law_same" ["_law_found", "_law_due"] spSame) :
    FnOk P w K mg base CX0 62 f fd ["_law_promises_here", "_law_sales_here"] (spRight T qnT) := by
  refine F.okC hc sc60 (fun vs H Q E h => ?_) (fun A outer s H vs Q E hr h => ?_)
  · obtain ⟨S, v, d, u, e, rfl, _⟩ := h
    rfl
  · obtain ⟨S, v, d, u, e, rfl, hS, thp, ths, tm, hz, tab, q⟩ := h
    obtain ⟨f1, fd1, F1, m1, k1, b1⟩ := id c1
    have room9 : Room 9 (A.deeper (PyProof.Rows.envOfC "_law_right" (defScope (top 60)) s.heap.objs.size f (.ref cc))) := hr.mono (by decide)
    refine ⟨_, pss_cons (ps_par (i := 2) (j := 3) rfl sc60.nd rfl rfl (by decide) rfl rfl (pa_c (pe_callB (call_repr (S := S) hr.gd hS) rfl Tr boot_repr' (pa_c (pe_tup (pa_c (pv 0) (pa_c (pv 1) pa_nil))) pa_nil)) (pa_c (pe_tup (pa_c pe_str pa_nil)) pa_nil)) rfl)
      (pss_cons (ps_if (pt_val (pe_cal c3 hr (by decide) rfl (pa_c (pv 0) pa_nil))) (pss_one (ps_set (i := 3) sc60.nd rfl (Or.inl rfl) (pe_ifExp (pt_val (pe_cal c4 hr (by decide) rfl (pa_c (pv 1) pa_nil))) (pe_lstS (pa_c (pe_ix ix_tup (pe_cal c5 hr (by decide) rfl (pa_c (pv 0) (pa_c (pv 1) pa_nil))) pe_int (fun _ _ => rfl)) pa_nil)) (pe_tup (pa_c pe_str pa_nil))))) pss_nil)
      (pss_cons (ps_set (i := 4) sc60.nd rfl (Or.inl rfl) (pe_saidD (N := ["_law_promises_here", "_law_sales_here"]) (ix := [0, 1]) (sc := defScope (top 60)) (NX := ["_law_promises_here", "_law_sales_here", "_law_kept", "_law_due", "_law_found"]) F1 room9 rfl m1 k1 b1 rfl (fun _ => rfl) rfl hC hB rfl rfl rfl (fun _ _ _ _ _ => rfl) (by decide +kernel)))
      (pss_one (ps_ret (pe_and (pe_cal c6 hr (by decide) rfl (pa_c (pv 4) (pa_c (pv 3) pa_nil)))
        (pe_one (pe_cmpR op_eq (pe_callB (call_repr (S := S) hr.gd hS) rfl Tr boot_repr' (pa_c (pe_tup (pa_c (pv 0) (pa_c (pv 1) pa_nil))) pa_nil)) (pv 2) (nomark _)))))))), ?_⟩
    have zz : sz d ≤ 4000 ∧ sz e ≤ 4000 := by
      have : 1 + (sz d + (sz e + 0)) ≤ 1000 := hz
      omega
    refine rd_seq ?_
    refine ⟨_, rfl, _, rfl, (by show 2 ≤ sizeLine; decide), fun p0 hp0 => ?_⟩
    have sp0 := Same.upd (o := .tup [v, u]) hp0
    refine ⟨.ref p0, .tuple [d, e], rfl, .tup upd_same (.cons (thp.same sp0) (.cons (ths.same sp0) .nil)), tm, by omega, room_sz hr (by decide) hz, (by show 1 ≤ sizeLine; decide), fun p1 hp1 => ⟨_, _, rfl, ?_⟩⟩
    dsimp only
    refine gen_ts (fun H1 => Same H H1 ∧ H1 p1 = some (.tup [.str "promises"])) ⟨sp0.updR hp1, upd_same⟩ fun H1 ⟨s1, e1⟩ => ?_
    refine rd_seqK fun c hcc => ?_
    have rest : ∀ v3 H3, Same H H3 → IsTh (fun a => a ≠ sysModules) H3 v3 (outD (kind2 d e) (unD (un (rowsOf d) (rowsOf e)))) → c [some v, some u, some (.str (PyData.tuple [d, e]).shown), some v3, none] H3 := by
      intro v3 H3 s3 t3
      refine hcc _ _ ?_
      refine rd_seq ?_
      refine rd_asg ?_
      have th3 := thp.same s3
      have tu3 := ths.same s3
      have tab3 := tab.same s3
      refine ⟨tab3, fun fl pm cv ct H4 kp tab4 nf L Z => ⟨[v, u], rfl, fun j i z e1 e2 => ?_, fun cs C => ?_⟩⟩
      · rcases j with _ | _ | j
        · cases e1
          cases e2
          rfl
        · cases e1
          cases e2
          rfl
        · simp at e1
      have th4 := th3.tbl tab3 kp
      have tu4 := tu3.tbl tab3 kp
      have t34 := t3.tbl tab3 kp
      refine said_gen (o := kind2 d e) (res := unD (un (rowsOf d) (rowsOf e))) (fun j hj => kd j ?_) L Z C rfl (fun A' outer' E' Q' hr' out => ⟨_, fun s' => pe_calX c2 (hr'.deeper _) (by decide) rfl wish_lam rfl (pa_c (pv 0) (pa_c (pv 1) pa_nil)), ?_⟩) fun v' H5 s5 tv => ?_
      · unfold kind2 at hj
        split at hj
        · cases hj; omega
        · split at hj
          · cases hj; omega
          · cases hj
      · exact ⟨v, rfl, u, rfl, S, v, d, S, u, e, rfl, th4, tu4, zz.1, zz.2, out⟩
      refine rd_name ?_
      dsimp only
      have no : NoC cs H4 := C.no
      have s6 := s5.er no
      have tv6 : IsTh (fun a => a ≠ sysModules) (er H5 cs) v' (outD (kind2 d e) (unD (un (rowsOf d) (rowsOf e)))) := (tv.er s5).kp (fun _ _ _ _ e => e) fun _ _ _ _ z _ => z.2
      refine gen_ts (fun H6 => IsTh (fun a => a ≠ sysModules) H6 v' (outD (kind2 d e) (unD (un (rowsOf d) (rowsOf e)))) ∧ IsTh (fun a => a ≠ sysModules) H6 v3 (outD (kind2 d e) (unD (un (rowsOf d) (rowsOf e)))) ∧ IsTh S H6 v d ∧ IsTh S H6 u e ∧ TabOk H6 T qnT ∧ ∀ b o, b ≠ T → H b = some o → H6 b = some o)
        ⟨tv6, t34.same s6, th4.same s6, tu4.same s6, TabOk.same tab4 s6, fun b o n z => s6 b o (kp b o n (s3 b o z))⟩ fun H6 ⟨tv6, t36, th6, tu6, tab6, kp6⟩ => ?_
      obtain ⟨dt, ds⟩ := due_ok d e
      refine ⟨_, rfl, _, rfl, fun a => a ≠ sysModules, v', v3, _, _, rfl, fun z => z rfl, tv6, t36, dt, dt, ds, ds, _, rfl, ?_⟩
      rw [decide_eq_true rfl]
      refine iteT ?_
      refine ⟨_, rfl, _, rfl, (by show 2 ≤ sizeLine; decide), fun p6 hp6 => ?_⟩
      have s7 := Same.upd (o := .tup [v, u]) hp6
      refine ⟨.ref p6, .tuple [d, e], rfl, .tup upd_same (.cons (th6.same s7) (.cons (tu6.same s7) .nil)), tm, by omega, room_sz hr (by decide) hz, _, rfl, rfl, ?_⟩
      rw [decide_eq_true rfl]
      exact q _ (fun b o n z => s7 b o (kp6 b o n z)) (TabOk.same tab6 s7)
    refine ⟨_, rfl, S, v, d, rfl, thp.same s1, zz.1, fun H2 s2 => ⟨_, rfl, ?_⟩⟩
    have s12 := s1.trans s2
    rw [← proms_eq]
    cases hp : promsD d with
    | false =>
      refine iteF (rd_next (rest _ H2 s12 ?_))
      have : outD (kind2 d e) (unD (un (rowsOf d) (rowsOf e))) = wordD 1 := by unfold outD kind2; rw [if_pos hp]
      rw [this]
      exact th_word (s2 _ _ e1) rfl
    | true =>
      refine iteT ?_
      refine ⟨_, rfl, S, u, e, rfl, ths.same s12, zz.2, fun H3 s3 => ⟨_, rfl, ?_⟩⟩
      have s13 := s12.trans s3
      rw [← sales_eq]
      cases hs : salesD e with
      | false =>
        refine iteF ⟨(by show 1 ≤ sizeLine; decide), fun p3 hp3 => ?_⟩
        refine rd_name (rest _ _ (s13.updR hp3) ?_)
        have : outD (kind2 d e) (unD (un (rowsOf d) (rowsOf e))) = wordD 2 := by unfold outD kind2; rw [if_neg (by rw [hp]; decide), if_pos hs]
        rw [this]
        exact th_word upd_same rfl
      | true =>
        refine iteT ?_
        obtain ⟨ep, lp, okp⟩ := proms_rows hp
        obtain ⟨es, ls, oks⟩ := sales_rows hs
        have th1 := thp.same s13
        have th2 := ths.same s13
        rw [ep] at th1
        rw [es] at th2
        obtain ⟨ap, xp, ev, rp⟩ := th_rows th1
        obtain ⟨as_, xs, eu, rs⟩ := th_rows th2
        subst ev eu
        refine ⟨_, rfl, _, rfl, ap, xp, rowsOf d, as_, xs, rowsOf e, rfl, rp, lp, okp, rs, by omega, oks, fun tt fo H5 s5 ett => ?_⟩
        refine ⟨tt, _, 1, unV (un (rowsOf d) (rowsOf e)), rfl, rfl, SqT.of ett, rfl, (by show 1 ≤ sizeLine; decide), fun p3 hp3 np3 => ?_⟩
        refine rd_name (rest _ _ ((s13.trans s5).updR hp3) ?_)
        have : outD (kind2 d e) (unD (un (rowsOf d) (rowsOf e))) = .list [unD (un (rowsOf d) (rowsOf e))] := by
          unfold outD kind2
          rw [if_neg (by rw [hp]; decide), if_neg (by rw [hs]; decide)]
        rw [this]
        exact .lst np3 upd_same (.cons (th_un _) .nil)
end
end K02

set_option Elab.async false
set_option linter.all false
set_option maxRecDepth 100000
set_option maxHeartbeats 2000000
namespace K02
open PySem L2
/-! ### _law_wild -/
def smW (s : List Int) : Prop := s.length = 5 ∧ ∀ i ∈ s, -10 ≤ i ∧ i ≤ 2000100
theorem smR.w {s : List Int} (h : smR s) : smW s := ⟨h.1, fun i hi => (by have := h.2 i hi; omega)⟩
def oddR (n s b k y : Int) : List (List Int) := [[n, s, s, k, y], [n, s, b, k + 40, y], [n, s, b, k, y + 9], [n + 1, s, b, k, y], [n, s, 8, k, y], [n, b, s, k, y], [-1, 0, 1, 1, 0], [n, s, b, 0, y], [n, s, b, k, y]]
theorem odd_sm {n s b k y : Int} (h : smR [n, s, b, k, y]) : ∀ r ∈ oddR n s b k y, smW r := by
  have h2 := h.2
  simp only [List.mem_cons, List.not_mem_nil, or_false] at h2
  have hn := h2 n (.inl rfl)
  have hs := h2 s (.inr (.inl rfl))
  have hb := h2 b (.inr (.inr (.inl rfl)))
  have hk := h2 k (.inr (.inr (.inr (.inl rfl))))
  have hy := h2 y (.inr (.inr (.inr (.inr rfl))))
  intro r hr
  unfold oddR at hr
  simp only [List.mem_cons, List.not_mem_nil, or_false] at hr
  rcases hr with rfl | rfl | rfl | rfl | rfl | rfl | rfl | rfl | rfl <;>
  · refine ⟨rfl, fun i hi => ?_⟩
    simp only [List.mem_cons, List.not_mem_nil, or_false] at hi
    omega
theorem ths_ins {S : Addr → Prop} {H : Hp} {xs : List V} {ds : List PyData} {v : V} {d : PyData} (h : IsThs S H xs ds) (t : IsTh S H v d) (i : Nat) : IsThs S H (insV xs i v) (ds.take i ++ d :: ds.drop i) := by
  unfold insV
  exact (h.take i).append (.cons t (h.drop i))
def spWild : Sp := fun vs H Q _ => ∃ st ap xp ps, vs = [.ref st, .ref ap] ∧ StAt H st ∧ RowsAt H ap xp ps ∧ ps.length ≤ 10 ∧ (∀ r ∈ ps, okP r) ∧ ∀ v ss H', Dr st H H' → IsTh (fun _ => False) H' v (rowsD ss) → ss.length ≤ 12 → (∀ s ∈ ss, smW s) → Q v H'
theorem len5' {s : List Int} (h : s.length = 5) : ∃ a b c d e, s = [a, b, c, d, e] := len5 h
section
variable {P : Program} {w : World} {K : PySem.W.Frag} {mg : Str → Option Value} {base : Heap}
theorem sc61 : FnScope ["_law_state_here", "_law_promises_here", "_law_found", "_law_turn", "_law_number", "_law_seller", "_law_buyer", "_law_sacks", "_law_year", "_law_odd_here"] ["_law_state_here", "_law_promises_here"] (defScope (top 61)) := ⟨rfl, rfl, rfl, by decide +kernel, rfl, by decide +kernel, by decide +kernel⟩
theorem ok_wild {f : Addr} {fd : FuncData} (F : Fun K "_law_wild" "_law_wild" (top 61) f fd) (T : Mg mg) (Tl : mg "list" = none) (Tr : mg "range" = none) (c1 : Cal P w K mg base 1 "_law_take" ["_law_state_here", "_law_many"] spTake) (c2 : Cal P w K mg base 2 "_law_any_sale" ["_law_state_here", "_law_promises_here"] spAny)
    (c3 : Cal P w K mg base 3 "_law_sales" ["_law_state_here", "_law_promises_here", "_law_most"] spSales) : FnOk P w K mg base CX0 4 f fd ["_law_state_here", "_law_promises_here"] spWild := by
  refine F.ok sc61 (fun vs H Q E h => ?_) (fun cdv A outer s H vs Q E hr h => ?_)
  · obtain ⟨st, ap, xp, ps, rfl, _⟩ := h
    rfl
  · obtain ⟨st, ap, xp, ps, rfl, hst, rp, lp, okp, q⟩ := h
    refine ok_b (bss_cons (bs_set (i := 2) sc61.nd rfl (Or.inl rfl) ⟨pe_callTy call_list_of rfl Tl boot_list' (pa_c (pe_cal c3 hr (by decide) rfl (pa_c (pv 0) (pa_c (pv 1) (pa_c pe_int pa_nil)))) pa_nil)⟩)
      (bss_cons ⟨ps_for PassesOwn.never rfl (pi_range1 rfl Tr (pa_c (pe_cal c1 hr (by decide) rfl (pa_c (pv 0) (pa_c pe_int pa_nil))) pa_nil)) (pg_name (i := 3) sc61.nd rfl (Or.inl rfl))
        (pss_b (bss_cons ⟨ps_asg (pe_cal c2 hr (by decide) rfl (pa_c (pv 0) (pa_c (pv 1) pa_nil))) (pg_tup rfl (pgs_cons (pg_name (i := 4) sc61.nd rfl (Or.inl rfl)) (pgs_cons (pg_name (i := 5) sc61.nd rfl (Or.inl rfl)) (pgs_cons (pg_name (i := 6) sc61.nd rfl (Or.inl rfl)) (pgs_cons (pg_name (i := 7) sc61.nd rfl (Or.inl rfl)) (pgs_cons (pg_name (i := 8) sc61.nd rfl (Or.inl rfl)) pgs_nil))))))⟩
        (bss_cons (bs_set (i := 9) sc61.nd rfl (Or.inl rfl) (be_lst (ab_c (be_tup (ab_c ⟨pv 4⟩ (ab_c ⟨pv 5⟩ (ab_c ⟨pv 5⟩ (ab_c ⟨pv 7⟩ (ab_c ⟨pv 8⟩ aa_nil)))))) (ab_c (be_tup (ab_c ⟨pv 4⟩ (ab_c ⟨pv 5⟩ (ab_c ⟨pv 6⟩ (ab_c (be_op op_add ⟨pv 7⟩ be_int) (ab_c ⟨pv 8⟩ aa_nil)))))) aa_nil))))
        (bss_cons (bs_set (i := 9) sc61.nd rfl (Or.inl rfl) (be_op op_cat ⟨pv 9⟩ (be_lst (ab_c (be_tup (ab_c ⟨pv 4⟩ (ab_c ⟨pv 5⟩ (ab_c ⟨pv 6⟩ (ab_c ⟨pv 7⟩ (ab_c (be_op op_add ⟨pv 8⟩ be_int) aa_nil)))))) (ab_c (be_tup (ab_c (be_op op_add ⟨pv 4⟩ be_int) (ab_c ⟨pv 5⟩ (ab_c ⟨pv 6⟩ (ab_c ⟨pv 7⟩ (ab_c ⟨pv 8⟩ aa_nil)))))) aa_nil)))))
        (bss_cons (bs_set (i := 9) sc61.nd rfl (Or.inl rfl) (be_op op_cat ⟨pv 9⟩ (be_lst (ab_c (be_tup (ab_c ⟨pv 4⟩ (ab_c ⟨pv 5⟩ (ab_c be_int (ab_c ⟨pv 7⟩ (ab_c ⟨pv 8⟩ aa_nil)))))) (ab_c (be_tup (ab_c ⟨pv 4⟩ (ab_c ⟨pv 6⟩ (ab_c ⟨pv 5⟩ (ab_c ⟨pv 7⟩ (ab_c ⟨pv 8⟩ aa_nil)))))) (ab_c (be_tup (ab_c be_neg (ab_c be_int (ab_c be_int (ab_c be_int (ab_c be_int aa_nil)))))) aa_nil))))))
        (bss_cons (bs_set (i := 9) sc61.nd rfl (Or.inl rfl) (be_op op_cat ⟨pv 9⟩ (be_lst (ab_c (be_tup (ab_c ⟨pv 4⟩ (ab_c ⟨pv 5⟩ (ab_c ⟨pv 6⟩ (ab_c be_int (ab_c ⟨pv 8⟩ aa_nil)))))) (ab_c (be_tup (ab_c ⟨pv 4⟩ (ab_c ⟨pv 5⟩ (ab_c ⟨pv 6⟩ (ab_c ⟨pv 7⟩ (ab_c ⟨pv 8⟩ aa_nil)))))) aa_nil)))))
        (bss_one ⟨ps_expr (pe_bm PySem.F.plainAttrs_list PySem.F.slot_list_insert PySem.F.type_list_insert mt_insert (pv 2) (pa_c (pe_cal c1 hr (by decide) rfl (pa_c (pv 0) (pa_c (pe_op op_add (pe_callB call_len_seq rfl T.len PySem.boot_len (pa_c (pv 2) pa_nil)) pe_int) pa_nil))) (pa_c (pe_ix ix_list (pv 9) (pe_cal c1 hr (by decide) rfl (pa_c (pv 0) (pa_c pe_int pa_nil))) (fun _ _ => rfl)) pa_nil)))⟩)))))))⟩
      (bss_one ⟨ps_ret (pe_callTy call_tuple_of rfl T.tuple boot_tuple (pa_c (pe_slice sl_list (pv 2) po_none (po_some pe_int)) pa_nil))⟩))) ?_
    refine rd_seq ?_
    refine rd_asg ?_
    refine ⟨_, rfl, _, rfl, st, ap, xp, ps, 10, rfl, hst, rp, lp, okp, by decide, by decide, fun a xs ss H1 g1 rs1 ls oks => ?_⟩
    refine ⟨a, xs, rfl, .inr (SqT.of rs1.e), fun pf hpf => ?_⟩
    have npf := g1.ne hpf
    have rp1 := g1.rows hst rp
    refine rd_name ?_
    dsimp only
    have g2 := g1.new (o := .lst xs) hpf
    refine gen_ts (fun H2 => Dr st H H2 ∧ RowsAt H2 ap xp ps ∧ H2 pf = some (.lst xs) ∧ IsThs (fun _ => False) H2 xs (ss.map rowD)) ⟨g2, rp1.same (Same.upd hpf), upd_same, ?_⟩ fun H2 ⟨g2, rp2, e2, t2⟩ => ?_
    · have t := rs1.th
      generalize hd : rowsD ss = dd at t
      cases t with
      | @tup a' xs' ds e r =>
        have e3 := rs1.e.symm.trans e
        injection e3 with e3
        injection e3 with e3
        subst e3
        injection hd with hd
        subst hd
        exact r.same (Same.upd hpf)
      | _ => cases hd
    have hf0 : H pf = none := g1.free hpf
    refine rd_seq ?_
    refine ⟨_, rfl, st, 4, rfl, g2.sa, by decide, by decide, fun r a1 b1 r0 r1 h1 h2 h3 => ⟨r, rfl, by omega, by omega, ?_⟩⟩
    have g3 := g2.take h1 h2 h3
    have dt : Dr st H2 (upd H2 st (.lst [.int a1, .int b1])) := (⟨But.refl, g2.sa⟩ : Dr st H2 H2).take h1 h2 h3
    have t3 : IsThs (fun _ => False) (upd H2 st (.lst [.int a1, .int b1])) xs (ss.map rowD) := t2.keep (fun c l e => dt.tup g2.sa e) (fun _ _ z _ => z.elim) fun _ _ z _ => z.elim
    refine for_range (lo := 0) (fun i σ Hc => ∃ (x3 x4 x5 x6 x7 x8 x9 : Option V) (xs : List V) (ss : List (List Int)), σ = [some (.ref st), some (.ref ap), some (.ref pf), x3, x4, x5, x6, x7, x8, x9] ∧ Dr st H Hc ∧ RowsAt Hc ap xp ps ∧ Hc pf = some (.lst xs) ∧ IsThs (fun _ => False) Hc xs (ss.map rowD) ∧ ss.length ≤ 10 + i ∧ ∀ s ∈ ss, smW s) ?_ ?_ ?_
    · exact ⟨none, none, none, none, none, none, none, xs, ss, rfl, g3, dt.rows g2.sa rp2, by rw [upd_ne npf]; exact e2, t3, by omega, fun s hs => (oks s hs).w⟩
    · rintro i σ H4 hi ⟨x3, x4, x5, x6, x7, x8, x9, xs, ss, rfl, g4, rp4, e4, t4, l4, ok4⟩
      have hi3 : i < 3 := by omega
      refine rd_name ?_
      refine rd_seq ?_
      refine rd_asg ?_
      refine ⟨_, rfl, _, rfl, st, ap, xp, ps, rfl, g4.sa, rp4, lp, okp, fun t s5 H5 d5 et sm => ?_⟩
      obtain ⟨n, sl, b, k, y, rfl⟩ := len5' sm.1
      refine ⟨t, _, rfl, SqT.of et, rfl, _, _, rfl, _, _, rfl, _, _, rfl, _, _, rfl, _, _, rfl, rfl, ?_⟩
      dsimp only
      have rp5 := d5.rows g4.sa rp4
      have e5 := d5.bt _ _ e4 npf
      have t5 : IsThs (fun _ => False) H5 xs (ss.map rowD) := t4.keep (fun c l e => d5.tup g4.sa e) (fun _ _ z _ => z.elim) fun _ _ z _ => z.elim
      have g5 := g4.trans d5
      refine rd_seq ?_
      refine rd_asg ?_
      refine rd_lst ?_
      refine (th_cons (th_tup (th_cons (th_v rfl (.int n)) (th_cons (th_v rfl (.int sl)) (th_cons (th_v rfl (.int sl)) (th_cons (th_v rfl (.int k)) (th_cons (th_v rfl (.int y)) th_nil))))) (by show 5 ≤ 4000; decide)) (th_cons (th_tup (th_cons (th_v rfl (.int n)) (th_cons (th_v rfl (.int sl)) (th_cons (th_v rfl (.int b)) (th_cons (th_ev (i := k + 40) fun H' => ev_op0 (g := fun i j => V.int (i + j)) (ev_v rfl) ev_c) (th_cons (th_v rfl (.int y)) th_nil))))) (by show 5 ≤ 4000; decide)) th_nil) : ThA (fun _ => False) _ H5 _ _) H5 (Same.refl _) _ fun ys H6 s6 u6 => ?_
      refine ⟨by rw [u6.length]; show 2 ≤ sizeLine; decide, fun p6 hp6 => ?_⟩
      refine rd_name ?_
      dsimp only
      refine gen_ts (fun Hx => Same H5 Hx ∧ ∃ ys, Hx p6 = some (.lst ys) ∧ IsThs (fun _ => False) Hx ys ((oddR n sl b k y).take 2 |>.map rowD)) ⟨s6.updR hp6, ys, upd_same, u6.same (Same.upd hp6)⟩ fun H6 ⟨s6, ys6, e6, u6⟩ => ?_
      refine rd_seq ?_
      refine rd_asg ?_
      refine ⟨_, rfl, ?_⟩
      refine rd_lst ?_
      refine (th_cons (th_tup (th_cons (th_v rfl (.int n)) (th_cons (th_v rfl (.int sl)) (th_cons (th_v rfl (.int b)) (th_cons (th_v rfl (.int k)) (th_cons (th_ev (i := y + 9) fun H' => ev_op0 (g := fun i j => V.int (i + j)) (ev_v rfl) ev_c) th_nil))))) (by show 5 ≤ 4000; decide)) (th_cons (th_tup (th_cons (th_ev (i := n + 1) fun H' => ev_op0 (g := fun i j => V.int (i + j)) (ev_v rfl) ev_c) (th_cons (th_v rfl (.int sl)) (th_cons (th_v rfl (.int b)) (th_cons (th_v rfl (.int k)) (th_cons (th_v rfl (.int y)) th_nil))))) (by show 5 ≤ 4000; decide)) th_nil) : ThA (fun _ => False) _ H6 _ _) H6 (Same.refl _) _ fun ys H7 s7 u7 => ?_
      refine ⟨by rw [u7.length]; show 2 ≤ sizeLine; decide, fun p7 hp7 => ⟨p6, p7, ys6, ys, rfl, rfl, Same.upd hp7 _ _ (s7 _ _ e6), upd_same, by rw [u6.length, u7.length]; show 4 ≤ sizeLine; decide, fun l7 hl7 => ?_⟩⟩
      refine rd_name ?_
      dsimp only
      have m7 := (Same.upd (o := .lst ys) hp7).updR (o := .lst (ys6 ++ ys)) hl7
      refine gen_ts (fun Hx => Same H5 Hx ∧ ∃ ys, Hx l7 = some (.lst ys) ∧ IsThs (fun _ => False) Hx ys ((oddR n sl b k y).take 4 |>.map rowD)) ⟨(s6.trans s7).trans m7, _, upd_same, ((u6.same s7).same m7).append (u7.same m7)⟩ fun H7 ⟨s7, ys7, e7, u7⟩ => ?_
      refine rd_seq ?_
      refine rd_asg ?_
      refine ⟨_, rfl, ?_⟩
      refine rd_lst ?_
      refine (th_cons (th_tup (th_cons (th_v rfl (.int n)) (th_cons (th_v rfl (.int sl)) (th_cons th_int (th_cons (th_v rfl (.int k)) (th_cons (th_v rfl (.int y)) th_nil))))) (by show 5 ≤ 4000; decide)) (th_cons (th_tup (th_cons (th_v rfl (.int n)) (th_cons (th_v rfl (.int b)) (th_cons (th_v rfl (.int sl)) (th_cons (th_v rfl (.int k)) (th_cons (th_v rfl (.int y)) th_nil))))) (by show 5 ≤ 4000; decide)) (th_cons (th_tup (th_cons (th_ev (i := -1) fun H' Q h => ⟨1, rfl, h⟩) (th_cons th_int (th_cons th_int (th_cons th_int (th_cons th_int th_nil))))) (by show 5 ≤ 4000; decide)) th_nil)) : ThA (fun _ => False) _ H7 _ _) H7 (Same.refl _) _ fun ys H8 s8 u8 => ?_
      refine ⟨by rw [u8.length]; show 3 ≤ sizeLine; decide, fun p8 hp8 => ⟨l7, p8, ys7, ys, rfl, rfl, Same.upd hp8 _ _ (s8 _ _ e7), upd_same, by rw [u7.length, u8.length]; show 7 ≤ sizeLine; decide, fun l8 hl8 => ?_⟩⟩
      refine rd_name ?_
      dsimp only
      have m8 := (Same.upd (o := .lst ys) hp8).updR (o := .lst (ys7 ++ ys)) hl8
      refine gen_ts (fun Hx => Same H5 Hx ∧ ∃ ys, Hx l8 = some (.lst ys) ∧ IsThs (fun _ => False) Hx ys ((oddR n sl b k y).take 7 |>.map rowD)) ⟨(s7.trans s8).trans m8, _, upd_same, ((u7.same s8).same m8).append (u8.same m8)⟩ fun H8 ⟨s8, ys8, e8, u8⟩ => ?_
      refine rd_seq ?_
      refine rd_asg ?_
      refine ⟨_, rfl, ?_⟩
      refine rd_lst ?_
      refine (th_cons (th_tup (th_cons (th_v rfl (.int n)) (th_cons (th_v rfl (.int sl)) (th_cons (th_v rfl (.int b)) (th_cons th_int (th_cons (th_v rfl (.int y)) th_nil))))) (by show 5 ≤ 4000; decide)) (th_cons (th_tup (th_cons (th_v rfl (.int n)) (th_cons (th_v rfl (.int sl)) (th_cons (th_v rfl (.int b)) (th_cons (th_v rfl (.int k)) (th_cons (th_v rfl (.int y)) th_nil))))) (by show 5 ≤ 4000; decide)) th_nil) : ThA (fun _ => False) _ H8 _ _) H8 (Same.refl _) _ fun ys H9 s9 u9 => ?_
      refine ⟨by rw [u9.length]; show 2 ≤ sizeLine; decide, fun p9 hp9 => ⟨l8, p9, ys8, ys, rfl, rfl, Same.upd hp9 _ _ (s9 _ _ e8), upd_same, by rw [u8.length, u9.length]; show 9 ≤ sizeLine; decide, fun l9 hl9 => ?_⟩⟩
      refine rd_name ?_
      dsimp only
      have m9 := (Same.upd (o := .lst ys) hp9).updR (o := .lst (ys8 ++ ys)) hl9
      refine gen_ts (fun Hx => Same H5 Hx ∧ ∃ ys, Hx l9 = some (.lst ys) ∧ IsThs (fun _ => False) Hx ys ((oddR n sl b k y).map rowD)) ⟨(s8.trans s9).trans m9, _, upd_same, ((u8.same s9).same m9).append (u9.same m9)⟩ fun H9 ⟨s9, ys9, e9, u9⟩ => ?_
      have g9 := g5.same s9
      have e9f := s9 _ _ e5
      have t9 := t5.same s9
      have rp9 := rp5.same s9
      have lx := t9.length
      rw [List.length_map] at lx
      have n9 : l9 ≠ st := fun z => by
        obtain ⟨x, y', ez, _⟩ := g9.sa
        rw [z, ez] at e9
        injection e9 with e9
        injection e9 with e9
        have hl := u9.length
        rw [← e9] at hl
        cases hl
      refine ⟨_, rfl, .inl ⟨rfl, _, SqL.of e9f⟩, _, rfl, _, rfl, pf, xs, rfl, .inl (SqL.of e9f), _, _, rfl, rfl, st, xs.length + 1, rfl, g9.sa, by omega, by omega, fun r2 a2 b2 k0 k1 k2 k3 k4 => ?_⟩
      have d10 : Dr st H9 (upd H9 st (.lst [.int a2, .int b2])) := (⟨But.refl, g9.sa⟩ : Dr st H9 H9).take k2 k3 k4
      refine ⟨_, rfl, _, rfl, st, 9, rfl, d10.sa, by decide, by decide, fun r3 a3 b3 m0 m1 m2 m3 m4 => ?_⟩
      have d11 : Dr st H9 (upd (upd H9 st (.lst [.int a2, .int b2])) st (.lst [.int a3, .int b3])) := d10.take m2 m3 m4
      have e11 := d11.bt _ _ e9 n9
      have f11 := d11.bt _ _ e9f npf
      have u11 : IsThs (fun _ => False) (upd (upd H9 st (.lst [.int a2, .int b2])) st (.lst [.int a3, .int b3])) ys9 ((oddR n sl b k y).map rowD) := u9.keep (fun c l e => d11.tup g9.sa e) (fun _ _ z _ => z.elim) fun _ _ z _ => z.elim
      have t11 : IsThs (fun _ => False) (upd (upd H9 st (.lst [.int a2, .int b2])) st (.lst [.int a3, .int b3])) xs (ss.map rowD) := t9.keep (fun c l e => d11.tup g9.sa e) (fun _ _ z _ => z.elim) fun _ _ z _ => z.elim
      have l9' : ys9.length = 9 := u9.length
      have hr3 : r3.toNat < ys9.length := by omega
      have e3 : ys9[r3.toNat]? = some ys9[r3.toNat] := List.getElem?_eq_getElem hr3
      obtain ⟨dd, hdd, tdd⟩ := u11.get e3
      rw [List.getElem?_map] at hdd
      have hr4 : r3.toNat < (oddR n sl b k y).length := by show r3.toNat < 9; omega
      rw [List.getElem?_eq_getElem hr4] at hdd
      injection hdd with hdd
      subst hdd
      have hat : atI ys9 r3 = some ys9[r3.toNat] := by
        have := atI_nat e3
        rw [show ((r3.toNat : Nat) : Int) = r3 by omega] at this
        exact this
      refine ⟨l9, ys9, r3, ys9[r3.toNat], rfl, rfl, SqL.of e11, hat, ?_⟩
      refine ⟨pf, xs, r2, _, rfl, rfl, f11, k0, by omega, by rw [lx, sizeLine_eq]; omega, ?_⟩
      have npf' : ∀ c l', (upd (upd H9 st (.lst [.int a2, .int b2])) st (.lst [.int a3, .int b3])) c = some (.tup l') → upd (upd (upd H9 st (.lst [.int a2, .int b2])) st (.lst [.int a3, .int b3])) pf (.lst (insV xs r2.toNat ys9[r3.toNat])) c = some (.tup l') := fun c l' e => by
        rw [upd_ne fun z => by rw [z, f11] at e; cases e]
        exact e
      refine ⟨_, _, _, _, _, _, _, insV xs r2.toNat ys9[r3.toNat], ss.take r2.toNat ++ (oddR n sl b k y)[r3.toNat] :: ss.drop r2.toNat, rfl, ?_, ?_, upd_same, ?_, ?_, ?_⟩
      · exact (g9.trans d11).put hf0 npf
      · exact (d11.rows g9.sa rp9).keep npf'
      · have := (ths_ins t11 tdd r2.toNat).keep (S' := fun _ => False) npf' (fun _ _ z _ => z.elim) fun _ _ z _ => z.elim
        rw [List.map_append, List.map_cons, List.map_take, List.map_drop]
        exact this
      · rw [List.length_append, List.length_take, List.length_cons, List.length_drop]
        omega
      · intro s hs
        rcases List.mem_append.mp hs with z | z
        · exact ok4 s (List.mem_of_mem_take z)
        · rcases List.mem_cons.mp z with z | z
          · rw [z]
            exact odd_sm sm _ (List.getElem_mem hr4)
          · exact ok4 s (List.mem_of_mem_drop z)
    · rintro σ H4 ⟨x3, x4, x5, x6, x7, x8, x9, xs, ss, rfl, g4, rp4, e4, t4, l4, ok4⟩
      refine ⟨_, rfl, 12, rfl, pf, xs, rfl, SqL.of e4, fun p5 hp5 => ⟨p5, _, rfl, .inl ⟨SqL.of upd_same, fun p6 hp6 => ?_⟩⟩⟩
      have m5 := (Same.upd (o := .lst (cutV xs none (some 12))) hp5).updR (o := .tup (cutV xs none (some 12))) hp6
      have lx := t4.length
      rw [List.length_map] at lx
      have ec : cutV xs none (some 12) = xs.take 12 := by
        unfold cutV
        rw [HT.sIx_none, show ((12 : Int)) = ((12 : Nat) : Int) from rfl, HT.sIx_nat, List.drop_zero, Nat.sub_zero]
        by_cases h : 12 ≤ xs.length
        · rw [Nat.min_eq_left h]
        · rw [Nat.min_eq_right (by omega), List.take_of_length_le (Nat.le_refl _), List.take_of_length_le (by omega)]
      refine q _ (ss.take 12) _ (g4.same m5) (.tup upd_same ?_) (by rw [List.length_take]; omega) fun s hs => ok4 s (List.mem_of_mem_take hs)
      have z := (t4.same m5).take 12
      rw [ec] at z ⊢
      rw [List.map_take]
      exact z
end
end K02

set_option Elab.async false
set_option linter.all false
set_option maxRecDepth 100000
set_option maxHeartbeats 2000000
namespace K02
open PySem L2
def spLaw (K : PySem.W.Frag) (T : Addr) : Sp := fun vs H Q _ => ∃ (a : Addr) (ns : List Int), vs = [.ref a] ∧ SqL K H a (ns.map V.int) ∧ ns.length ≤ 63 ∧ TabOk H T qnT ∧ ∀ H', Q (.bl true) H'
/-- nothing is turned but the draws and the table -/
structure DT (T st : Addr) (H H' : Hp) : Prop where
  kp : ∀ b o, b ≠ T → b ≠ st → H b = some o → H' b = some o
  sa : StAt H' st
  tb : TabOk H' T qnT
theorem tab_dr {T st : Addr} {q : Str} {H H' : Hp} (t : TabOk H T q) (sa : StAt H st) (g : Dr st H H') : TabOk H' T q := by
  obtain ⟨x, y, e, _⟩ := sa
  refine t.keep (fun ps e' => g.bt _ _ e' fun z => ?_) fun b o e' => g.bt _ _ e' fun z => ?_
  · rw [z, e] at e'
    cases e'
  · rw [z, e] at e'
    cases e'
theorem DT.dr {T st : Addr} {H H1 H2 : Hp} (a : DT T st H H1) (g : Dr st H1 H2) : DT T st H H2 := ⟨fun b o n1 n2 e => g.bt _ _ (a.kp b o n1 n2 e) n2, g.sa, tab_dr a.tb a.sa g⟩
theorem DT.right {T st : Addr} {H H1 H2 : Hp} (a : DT T st H H1) (k : ∀ b o, b ≠ T → H1 b = some o → H2 b = some o) (t : TabOk H2 T qnT) : DT T st H H2 := by
  refine ⟨fun b o n1 n2 e => k b o n1 (a.kp b o n1 n2 e), ?_, t⟩
  obtain ⟨x, y, e, r⟩ := a.sa
  obtain ⟨ps, e', _⟩ := a.tb
  exact ⟨x, y, k _ _ (fun z => by rw [z, e'] at e; cases e) e, r⟩
abbrev Fs (st : Addr) (a : Addr) : Prop := a = st ∨ a = sysModules
theorem fb_of {st : Addr} {H : Hp} (g : StAt H st) : Fb (Fs st) st H := ⟨.inl rfl, .inr rfl, fun b hb hn => hb.elim (fun z => by
  obtain ⟨u, v, e, _⟩ := g
  rw [z, e] at hn
  cases hn) id⟩
/-- a thing that right may be asked of -/
def Ask (F : Addr → Prop) (H : Hp) (v : V) : Prop := ∃ d, IsTh (fun a => ¬ F a) H v d ∧ tame d = true ∧ sz d ≤ 400
theorem rows_tmW {rs : List (List Int)} (h : ∀ r ∈ rs, ∀ i ∈ r, -10 ≤ i ∧ i ≤ 2000100) : tms (2 ^ 100) (rs.map rowD) = true := by
  refine tms_all.mpr fun d hd => ?_
  obtain ⟨r, hr, rfl⟩ := List.mem_map.mp hd
  show tms (2 ^ 100) (r.map PyData.int) = true
  refine tms_all.mpr fun d hd => ?_
  obtain ⟨i, hi, rfl⟩ := List.mem_map.mp hd
  have := h r hr i hi
  exact decide_eq_true (show i.natAbs < 2 ^ 100 by omega)
theorem rows_sz {k : Nat} : ∀ {rs : List (List Int)}, (∀ r ∈ rs, r.length = k) → szs (rs.map rowD) = (k + 1) * rs.length
  | [], _ => rfl
  | r :: rs, h => by
    show sz (rowD r) + szs (rs.map rowD) = (k + 1) * (rs.length + 1)
    rw [rows_sz fun x hx => h x (List.mem_cons_of_mem _ hx), Nat.mul_succ]
    show 1 + szs (r.map PyData.int) + _ = _
    rw [szs_ints, h r List.mem_cons_self]
    omega
theorem okP_sm {r : List Int} (h : okP r) : ∀ i ∈ r, -10 ≤ i ∧ i ≤ 2000100 := by
  intro i hi
  rw [six_row h.1] at hi
  obtain ⟨_, a, b, c, d, e⟩ := h
  simp only [List.mem_cons, List.not_mem_nil, or_false] at hi
  omega
theorem ths_rep {S : Addr → Prop} {H : Hp} {v : V} {d : PyData} (t : IsTh S H v d) : ∀ n, IsThs S H (List.replicate n [v]).flatten (List.replicate n d)
  | 0 => .nil
  | n + 1 => by
    rw [List.replicate_succ, List.replicate_succ, List.flatten_cons]
    exact .cons t (ths_rep t n)
theorem th_any {F : Addr → Prop} {H : Hp} {v : V} {d : PyData} (h : IsTh (fun _ => False) H v d) : IsTh (fun a => ¬ F a) H v d := h.kp (fun _ _ _ _ e => e) fun _ _ _ _ z _ => z.elim
section
variable {P : Program} {w : World} {K : PySem.W.Frag} {mg : Str → Option Value} {base : Heap}
theorem sc62 : FnScope ["_law_script", "_law_k", "_law_state_here", "_law_promises_here", "_law_sales_here", "_law_once", "_law_some"] ["_law_script"] (defScope (top 62)) := ⟨rfl, rfl, rfl, by decide +kernel, rfl, by decide +kernel, by decide +kernel⟩
theorem ok_law {f T0 : Addr} {fd : FuncData} (F : Fun K "law" "law" (top 62) f fd) (T : Mg mg) (Tr : mg "range" = none) (Tl : mg "list" = none) (Tm : mg "max" = none) (Tn : mg "min" = none)
    (c1 : Cal P w K mg base 2 "_law_state" ["_law_script", "_law_k"] (spState K)) (c2 : Cal P w K mg base 2 "_law_promises" ["_law_state_here", "_law_most", "_law_years"] spProms2) (c3 : Cal P w K mg base 4 "_law_wild" ["_law_state_here", "_law_promises_here"] spWild)
    (c4 : Cal P w K mg base 7 "_law_spoilt" ["_law_state_here", "_law_thing", "_law_deep"] (spSpoilt (4 : Nat))) (c5 : Cal P w K mg base 2 "_law_odd" ["_law_state_here"] spOdd) (c6 : Cal P w K mg base 62 "_law_right" ["_law_promises_here", "_law_sales_here"] (spRight T0 qnT)) :
    FnOk P w K mg base CX0 63 f fd ["_law_script"] (spLaw K T0) := by
  refine F.ok sc62 (fun vs H Q E h => ?_) (fun cdv A outer s H vs Q E hr h => ?_)
  · obtain ⟨a, ns, rfl, _⟩ := h
    rfl
  · obtain ⟨a, ns, rfl, hS, hl, tab, q⟩ := h
    refine ok_b (bss_cons ⟨ps_for PassesOwn.never rfl (pi_range1 rfl Tr (pa_c (pe_callB (call_max2 rfl) rfl Tm boot_max' (pa_c pe_int (pa_c (pe_callB (call_min2 rfl) rfl Tn boot_min (pa_c (pe_callB call_len_seq rfl T.len PySem.boot_len (pa_c (pv 0) pa_nil)) (pa_c pe_int pa_nil))) pa_nil))) pa_nil)) (pg_name (i := 1) sc62.nd rfl (Or.inl rfl))
        (pss_b (bss_cons (bs_set (i := 2) sc62.nd rfl (Or.inl rfl) ⟨pe_cal c1 hr (by omega) rfl (pa_c (pv 0) (pa_c (pv 1) pa_nil))⟩)
        (bss_cons (bs_set (i := 3) sc62.nd rfl (Or.inl rfl) ⟨pe_cal c2 hr (by omega) rfl (pa_c (pv 2) (pa_c pe_int (pa_c pe_int pa_nil)))⟩)
        (bss_cons (bs_set (i := 4) sc62.nd rfl (Or.inl rfl) ⟨pe_cal c3 hr (by omega) rfl (pa_c (pv 2) (pa_c (pv 3) pa_nil))⟩)
        (bss_cons (bs_set (i := 5) sc62.nd rfl (Or.inl rfl) ⟨pe_cal c4 hr (by omega) rfl (pa_c (pv 2) (pa_c (pv 4) (pa_c pe_int pa_nil)))⟩)
        (bss_cons ⟨ps_for PassesOwn.never rfl (pi_list (pe_be (be_lst (ab_c ⟨pv 4⟩ (ab_c ⟨pv 5⟩ (ab_c ⟨pe_cal c5 hr (by omega) rfl (pa_c (pv 2) pa_nil)⟩ (ab_c ⟨pe_callTy call_list_ofS rfl Tl boot_list' (pa_c (pv 4) pa_nil)⟩ (ab_c (be_op op_repT (be_tup (ab_c (be_tup (ab_c be_int (ab_c be_int (ab_c be_int (ab_c be_int (ab_c be_int aa_nil)))))) aa_nil)) be_int) (ab_c (be_tup aa_nil) aa_nil))))))))) (pg_name (i := 6) sc62.nd rfl (Or.inl rfl))
            (pss_b (bss_one (bs_if (bt_not (bt_call ⟨pe_cal c6 hr (by omega) rfl (pa_c (pv 3) (pa_c (pv 6) pa_nil))⟩)) (bss_one (bs_ret be_bl)) bss_nil)))⟩
        (bss_one (bs_if (bt_or2 (bt_not (bt_call ⟨pe_cal c6 hr (by omega) rfl (pa_c (pe_cal c4 hr (by omega) rfl (pa_c (pv 2) (pa_c (pv 3) (pa_c pe_int pa_nil)))) (pa_c (pv 4) pa_nil))⟩)) (bt_not (bt_call ⟨pe_cal c6 hr (by omega) rfl (pa_c (pe_cal c5 hr (by omega) rfl (pa_c (pv 2) pa_nil)) (pa_c (pv 5) pa_nil))⟩))) (bss_one (bs_ret be_bl)) bss_nil))))))))⟩
      (bss_one (bs_ret be_bl))) ?_
    refine rd_seq ?_
    have hl' : (ns.map V.int).length ≤ 63 := by rw [List.length_map]; exact hl
    refine ⟨_, rfl, a, _, rfl, .inl hS, _, _, rfl, _, _, rfl, _, rfl, ?_, ?_, ?_⟩
    · split <;> split <;> omega
    · split <;> split <;> omega
    refine for_range (lo := 0) (fun i σ Hc => ∃ x1 x2 x3 x4 x5 x6, σ = [some (.ref a), x1, x2, x3, x4, x5, x6] ∧ (∀ b o, b ≠ T0 → H b = some o → Hc b = some o) ∧ TabOk Hc T0 qnT) ?_ ?_ ?_
    · exact ⟨none, none, none, none, none, none, rfl, fun _ _ _ e => e, tab⟩
    · rintro i σ H1 hi ⟨x1, x2, x3, x4, x5, x6, rfl, k1, tab1⟩
      have hS1 : SqL K H1 a (ns.map V.int) := by
        obtain ⟨ps, eT, _⟩ := tab
        rcases hS with (h | ⟨o, h⟩) | h
        · exact .inl (.inl (k1 _ _ (fun z => by rw [z, eT] at h; cases h) h))
        · exact .inl (.inr ⟨o, k1 _ _ (fun z => by rw [z, eT] at h; cases h) h⟩)
        · exact .inr h
      refine rd_name ?_
      refine rd_seq ?_
      refine rd_asg ?_
      refine ⟨_, rfl, _, rfl, a, ns, _, rfl, hS1, by omega, fun st x y hn hx0 hy0 hy1 => ?_⟩
      have nT : st ≠ T0 := fun z => by
        obtain ⟨ps, eT, _⟩ := tab1
        rw [z, eT] at hn
        cases hn
      have nst : H st = none := by
        cases e : H st with
        | none => rfl
        | some o =>
          rw [k1 st o nT e] at hn
          cases hn
      have g1 : StAt (upd H1 st (.lst [.int x, .int y])) st := ⟨x, y, upd_same, hx0, hy0, hy1⟩
      have dt2 : DT T0 st H (upd H1 st (.lst [.int x, .int y])) := ⟨fun b o n1 n2 e => by rw [upd_ne n2]; exact k1 b o n1 e, g1, TabOk.same tab1 (Same.upd hn)⟩
      refine rd_name ?_
      dsimp only
      refine gen_ts (fun H2 => DT T0 st H H2) dt2 fun H2 dt2 => ?_
      refine rd_seq ?_
      refine rd_asg ?_
      refine ⟨_, rfl, st, 10, 12, rfl, dt2.sa, by decide, by decide, by decide, by decide, fun vp H3 mp => ?_⟩
      obtain ⟨ps, btp, sap, tp, lp, okp⟩ := mp
      have dt3 : DT T0 st H H3 := dt2.dr ⟨btp, sap⟩
      obtain ⟨ap, xp, rfl, rp⟩ := th_rows tp
      refine rd_name ?_
      dsimp only
      refine rd_seq ?_
      refine rd_asg ?_
      refine ⟨_, rfl, _, rfl, st, ap, xp, ps, rfl, dt3.sa, rp, by omega, okp, fun vs ss H4 g4 ts lss oks => ?_⟩
      have dt4 := dt3.dr g4
      have fb4 := fb_of dt4.sa
      have tp4 : IsTh (fun a => ¬ Fs st a) H4 (.ref ap) (rowsD ps) := g4.th dt3.sa (.inl rfl) (th_any tp)
      have ts4 : IsTh (fun a => ¬ Fs st a) H4 vs (rowsD ss) := th_any ts
      have tmS : tm (2 ^ 100) (rowsD ss) = true := rows_tmW fun r hr => (oks r hr).2
      have szS : sz (rowsD ss) ≤ 73 := by
        show 1 + szs (ss.map rowD) ≤ 73
        rw [rows_sz fun r hr => (oks r hr).1]
        omega
      have tmP : tm (2 ^ 100) (rowsD ps) = true := rows_tmW fun r hr => okP_sm (okp r hr)
      have szP : sz (rowsD ps) ≤ 71 := by
        show 1 + szs (ps.map rowD) ≤ 71
        rw [rows_sz fun r hr => (okp r hr).1]
        omega
      refine rd_name ?_
      dsimp only
      refine rd_seq ?_
      refine rd_asg ?_
      refine ⟨_, rfl, _, rfl, Fs st, st, vs, rowsD ss, 2, 2 ^ 100, rfl, dt4.sa, fb4, by decide, by decide, ts4, tmS, Nat.le_refl _, by omega, fun v5 H5 d5 g5 t5 m5 z5 => ?_⟩
      have dt5 := dt4.dr g5
      have tp5 := g5.th dt4.sa fb4.st tp4
      have ts5 := g5.th dt4.sa fb4.st ts4
      refine rd_name ?_
      dsimp only
      refine rd_seq ?_
      have fb5 := fb_of dt5.sa
      -- the things asked
      refine ⟨_, rfl, _, rfl, _, rfl, st, rfl, dt5.sa, fun vo H6 mo => ?_⟩
      obtain ⟨dO, go, tO, mO, zO⟩ := mo.dr fb5
      have dt6 := dt5.dr go
      have tp6 := go.th dt5.sa fb5.st tp5
      have ts6 := go.th dt5.sa fb5.st ts5
      have t56 := go.th dt5.sa fb5.st t5
      obtain ⟨as_, xs, evs, rs⟩ := th_rows ts6
      subst evs
      refine ⟨_, rfl, as_, xs, rfl, SqT.of rs.e, fun pl hpl npl => ?_⟩
      have npst : pl ≠ st := fun z => by
        obtain ⟨x', y', e', _⟩ := dt6.sa
        rw [z, e'] at hpl
        cases hpl
      have m7 := Same.upd (o := .lst xs) hpl
      refine ⟨(by show 5 ≤ sizeLine; decide), fun q1 hq1 => ⟨(by show 1 ≤ sizeLine; decide), fun q2 hq2 => ⟨q2, 13, [.ref q1], rfl, rfl, SqT.of upd_same, (by simp), (by show 1 ≤ 1000; decide), .inr ⟨.inr ⟨by decide, by decide⟩, fun q3 hq3 => ⟨(by show 0 ≤ sizeLine; decide), fun q4 hq4 => ⟨(by show 6 ≤ sizeLine; decide), fun L hL => ?_⟩⟩⟩⟩⟩⟩
      have n1 := Same.upd (o := .tup [.int 0, .int 0, .int 1, .int 1, .int 0]) hq1
      have n2 := Same.upd (o := .tup [.ref q1]) hq2
      have n3 := Same.upd (o := .tup (List.replicate (13 : Int).toNat [V.ref q1]).flatten) hq3
      have n4 := Same.upd (o := .tup []) hq4
      have nL := Same.upd (o := .lst [.ref as_, v5, vo, .ref pl, .ref q3, .ref q4]) hL
      have sAll := ((((m7.trans n1).trans n2).trans n3).trans n4).trans nL
      refine ⟨L, rfl, ⟨_, SqL.of upd_same⟩, ?_⟩
      have asks : ∀ u ∈ [V.ref as_, v5, vo, .ref pl, .ref q3, .ref q4], Ask (Fs st) (upd (upd (upd (upd (upd (upd H6 pl (.lst xs)) q1 (.tup [.int 0, .int 0, .int 1, .int 1, .int 0])) q2 (.tup [.ref q1])) q3 (.tup (List.replicate (13 : Int).toNat [V.ref q1]).flatten)) q4 (.tup [])) L (.lst [.ref as_, v5, vo, .ref pl, .ref q3, .ref q4])) u := by
        intro u hu
        simp only [List.mem_cons, List.not_mem_nil, or_false] at hu
        rcases hu with rfl | rfl | rfl | rfl | rfl | rfl
        · exact ⟨_, ts6.same sAll, tame_of tmS (by decide), by omega⟩
        · exact ⟨_, t56.same sAll, tame_of m5 (by decide), by omega⟩
        · exact ⟨_, tO.same sAll, tame_of mO (by decide), by omega⟩
        · have rest := (((n1.trans n2).trans n3).trans n4).trans nL
          have tt := ts6
          generalize hd : rowsD ss = dd at tt
          cases tt with
          | @tup a' xs' ds e r =>
            have e3 := rs.e.symm.trans e
            injection e3 with e3
            injection e3 with e3
            subst e3
            injection hd with hd
            subst hd
            refine ⟨.list (ss.map rowD), .lst (fun z => z.elim npst npl) (rest _ _ upd_same) ((r.same m7).same rest), tame_of (B := 2 ^ 100) (d := .tuple (ss.map rowD)) tmS (by decide), (by show 1 + szs (ss.map rowD) ≤ 400; have : 1 + szs (ss.map rowD) ≤ 73 := szS; omega)⟩
          | _ => cases hd
        · refine ⟨.tuple (List.replicate 13 (rowD [0, 0, 1, 1, 0])), .tup ((n4.trans nL) _ _ upd_same) (ths_rep (.tup (((n2.trans n3).trans (n4.trans nL)) _ _ upd_same) (IsThs.ints [0, 0, 1, 1, 0])) 13), by decide +kernel, by decide +kernel⟩
        · exact ⟨.tuple [], .tup (nL _ _ upd_same) .nil, rfl, by decide⟩
      have tpL := tp6.same sAll
      have tsL := ts6.same sAll
      have t5L := t56.same sAll
      have eL : upd (upd (upd (upd (upd (upd H6 pl (.lst xs)) q1 (.tup [.int 0, .int 0, .int 1, .int 1, .int 0])) q2 (.tup [.ref q1])) q3 (.tup (List.replicate (13 : Int).toNat [V.ref q1]).flatten)) q4 (.tup [])) L (.lst [.ref as_, v5, vo, .ref pl, .ref q3, .ref q4]) L = some (.lst [.ref as_, v5, vo, .ref pl, .ref q3, .ref q4]) := upd_same
      have dtL := dt6.dr (Dr.same ⟨But.refl, dt6.sa⟩ sAll)
      generalize upd (upd (upd (upd (upd (upd H6 pl (.lst xs)) q1 (.tup [.int 0, .int 0, .int 1, .int 1, .int 0])) q2 (.tup [.ref q1])) q3 (.tup (List.replicate (13 : Int).toNat [V.ref q1]).flatten)) q4 (.tup [])) L (.lst [.ref as_, v5, vo, .ref pl, .ref q3, .ref q4]) = HL at asks tpL tsL t5L eL dtL ⊢
      have nLT : L ≠ T0 := fun z => by
        obtain ⟨ps', eT, _⟩ := dtL.tb
        rw [z, eT] at eL
        cases eL
      have tmP' : tame (rowsD ps) = true := tame_of tmP (by decide)
      refine for_list (xs := [V.ref as_, v5, vo, .ref pl, .ref q3, .ref q4]) (fun k σ Hc => ∃ x6, σ = [some (.ref a), some (.int (0 + i)), some (.ref st), some (.ref ap), some (.ref as_), some v5, x6] ∧ (∀ b o, b ≠ T0 → HL b = some o → Hc b = some o) ∧ TabOk Hc T0 qnT) ?_ ?_ ?_ ?_
      · exact ⟨_, rfl, fun _ _ _ e => e, dtL.tb⟩
      · rintro k σ Hc hk ⟨x6, rfl, kc, tc⟩
        exact SqL.of (kc _ _ nLT eL)
      · rintro k u σ Hk hu ⟨x6, rfl, kc, tc⟩
        obtain ⟨du, tu, mu, zu⟩ := asks u (List.mem_of_getElem? hu)
        refine rd_name ?_
        refine ⟨_, rfl, _, rfl, _, .ref ap, rowsD ps, u, du, rfl, fun z => z (.inr rfl), tpL.tbl dtL.tb kc, tu.tbl dtL.tb kc, ?_, ?_, tc, fun H' k' t' => ⟨true, rfl, ?_⟩⟩
        · show (tame (rowsD ps) && (tame du && true)) = true
          rw [tmP', mu]
          rfl
        · show 1 + (sz (rowsD ps) + (sz du + 0)) ≤ 1000
          omega
        · refine iteF ?_
          exact ⟨_, rfl, fun b o n e => k' b o n (kc b o n e), t'⟩
      · rintro σ Hc ⟨x6, rfl, kc, tc⟩
        have dtc := dtL.right kc tc
        have fbc := fb_of dtc.sa
        have tpc := tpL.tbl dtL.tb kc
        have tsc := tsL.tbl dtL.tb kc
        have t5c := t5L.tbl dtL.tb kc
        dsimp only
        refine ⟨_, rfl, _, rfl, Fs st, st, .ref ap, rowsD ps, 3, 2 ^ 100, rfl, dtc.sa, fbc, by decide, by decide, tpc, tmP, Nat.le_refl _, by omega, fun v8 H8 d8 g8 t8 m8 z8 => ?_⟩
        have dt8 := dtc.dr g8
        have ts8 := g8.th dtc.sa fbc.st tsc
        have t58 := g8.th dtc.sa fbc.st t5c
        refine ⟨_, rfl, _, v8, d8, .ref as_, rowsD ss, rfl, fun z => z (.inr rfl), t8, ts8, ?_, ?_, dt8.tb, fun H9 k9 t9 => ⟨true, rfl, ?_⟩⟩
        · show (tame d8 && (tame (rowsD ss) && true)) = true
          rw [tame_of m8 (by decide), tame_of tmS (by decide)]
          rfl
        · show 1 + (sz d8 + (sz (rowsD ss) + 0)) ≤ 1000
          omega
        refine iteF ?_
        have dt9 := dt8.right k9 t9
        have fb9 := fb_of dt9.sa
        have t59 := t58.tbl dt8.tb k9
        refine ⟨_, rfl, st, rfl, dt9.sa, fun vo2 H10 mo2 => ?_⟩
        obtain ⟨dO2, go2, tO2, mO2, zO2⟩ := mo2.dr fb9
        have dt10 := dt9.dr go2
        have t510 := go2.th dt9.sa fb9.st t59
        refine ⟨_, rfl, _, vo2, dO2, v5, d5, rfl, fun z => z (.inr rfl), tO2, t510, ?_, ?_, dt10.tb, fun H11 k11 t11 => ⟨true, rfl, ?_⟩⟩
        · show (tame dO2 && (tame d5 && true)) = true
          rw [tame_of mO2 (by decide), tame_of m5 (by decide)]
          rfl
        · show 1 + (sz dO2 + (sz d5 + 0)) ≤ 1000
          omega
        refine iteF ?_
        have dt11 := dt10.right k11 t11
        exact ⟨_, _, _, _, _, _, rfl, fun b o n e => dt11.kp b o n (ne_of_none e nst) e, dt11.tb⟩
    · rintro σ Hc ⟨x1, x2, x3, x4, x5, x6, rfl, k1, tab1⟩
      exact q _
end
end K02

set_option Elab.async false
set_option linter.all false
theorem PySem.W.Fast.tw8127916078680348704 : True := trivial
theorem PySem.W.Fast.tw3380148516281818144 : True := trivial
theorem PySem.W.Fast.tw6067727746064170144 : True := trivial
theorem PySem.W.Fast.tw11415437930072937664 : True := trivial
theorem PySem.W.Fast.tw6612194298894002496 : True := trivial
theorem PySem.W.Fast.tw18136189660286465344 : True := trivial
theorem PySem.W.Fast.tw88679316169283040 : True := trivial
theorem PySem.W.Fast.tw5322852426218467072 : True := trivial
theorem PySem.W.Fast.tw5795675273892104128 : True := trivial
theorem PySem.W.Fast.tw4463804893759566913 : True := trivial
theorem PySem.W.Fast.tw7210957144621289569 : True := trivial
theorem PySem.W.Fast.tw13981642248752875745 : True := trivial
theorem PySem.W.Fast.tw9149219795528008961 : True := trivial
theorem PySem.W.Fast.tw5650710793862676737 : True := trivial
theorem PySem.W.Fast.tw15990648783589377505 : True := trivial
theorem PySem.W.Fast.tw15131899519023815169 : True := trivial
theorem PySem.W.Fast.tw8157895849746155073 : True := trivial
theorem PySem.W.Fast.tw2931847559837795905 : True := trivial
theorem PySem.W.Fast.tw17527082042327366241 : True := trivial
theorem PySem.W.Fast.tw9682666993019543297 : True := trivial
theorem PySem.W.Fast.tw9127591299352834913 : True := trivial
theorem PySem.W.Fast.tw9874489270133868449 : True := trivial
theorem PySem.W.Fast.tw8693700676737249249 : True := trivial
theorem PySem.W.Fast.tw10802750578915581921 : True := trivial
theorem PySem.W.Fast.tw7579185402472383490 : True := trivial
theorem PySem.W.Fast.tw17678244974654977026 : True := trivial
theorem PySem.W.Fast.tw15612487646834279522 : True := trivial
theorem PySem.W.Fast.tw17334843023688000674 : True := trivial
theorem PySem.W.Fast.tw7647600324529321122 : True := trivial
theorem PySem.W.Fast.tw6595346602729743618 : True := trivial
theorem PySem.W.Fast.tw1828460703595693474 : True := trivial
theorem PySem.W.Fast.tw5843641258613315042 : True := trivial
theorem PySem.W.Fast.tw17564824690220755522 : True := trivial
theorem PySem.W.Fast.tw13422222507268024994 : True := trivial
theorem PySem.W.Fast.tw10030935362710373122 : True := trivial
theorem PySem.W.Fast.tw16485409997299356578 : True := trivial
theorem PySem.W.Fast.tw13003765892936582179 : True := trivial
theorem PySem.W.Fast.tw8992430332363794499 : True := trivial
theorem PySem.W.Fast.tw16258451006453102755 : True := trivial
theorem PySem.W.Fast.tw3521090390654966979 : True := trivial
theorem PySem.W.Fast.tw2435980482753250755 : True := trivial
theorem PySem.W.Fast.tw7939353109802876355 : True := trivial
theorem PySem.W.Fast.tw5027289558653309411 : True := trivial
theorem PySem.W.Fast.tw1351707655489358403 : True := trivial
theorem PySem.W.Fast.tw949595751783416387 : True := trivial
theorem PySem.W.Fast.tw9095312881629741667 : True := trivial
theorem PySem.W.Fast.tw16474500535777797731 : True := trivial
theorem PySem.W.Fast.tw15690920727887806179 : True := trivial
theorem PySem.W.Fast.tw17696616540316808995 : True := trivial
theorem PySem.W.Fast.tw7810310616190567235 : True := trivial
theorem PySem.W.Fast.tw12392697111536092035 : True := trivial
theorem PySem.W.Fast.tw11839830086787827651 : True := trivial
theorem PySem.W.Fast.tw766012071663596580 : True := trivial
theorem PySem.W.Fast.tw9168169270606826596 : True := trivial
theorem PySem.W.Fast.tw14525210576368885924 : True := trivial
theorem PySem.W.Fast.tw3129646835197080740 : True := trivial
theorem PySem.W.Fast.tw12114800624369968388 : True := trivial
theorem PySem.W.Fast.tw5085006232067163460 : True := trivial
theorem PySem.W.Fast.tw11731147817627721188 : True := trivial
theorem PySem.W.Fast.tw17530233952564571620 : True := trivial
theorem PySem.W.Fast.tw3275337000270494212 : True := trivial
theorem PySem.W.Fast.tw2935339428353089124 : True := trivial
theorem PySem.W.Fast.tw9338485630457407140 : True := trivial
theorem PySem.W.Fast.tw18271679140926243588 : True := trivial
theorem PySem.W.Fast.tw2736548640073813892 : True := trivial
theorem PySem.W.Fast.tw8678434569599770564 : True := trivial
theorem PySem.W.Fast.tw9358255699614206948 : True := trivial
theorem PySem.W.Fast.tw2152118411592761349 : True := trivial
theorem PySem.W.Fast.tw18367575832724319397 : True := trivial
theorem PySem.W.Fast.tw13271193451038576837 : True := trivial
theorem PySem.W.Fast.tw18400511007695291589 : True := trivial
theorem PySem.W.Fast.tw18145654159251789061 : True := trivial
theorem PySem.W.Fast.tw16559752478048192837 : True := trivial
theorem PySem.W.Fast.tw9120409588970218853 : True := trivial
theorem PySem.W.Fast.tw6430568974814961093 : True := trivial
theorem PySem.W.Fast.tw6430452281992056293 : True := trivial
theorem PySem.W.Fast.tw15427017165422146117 : True := trivial
theorem PySem.W.Fast.tw1814208907867451077 : True := trivial
theorem PySem.W.Fast.tw17249584990514092773 : True := trivial
theorem PySem.W.Fast.tw7906411558890483461 : True := trivial
theorem PySem.W.Fast.tw7992714440286269253 : True := trivial
theorem PySem.W.Fast.tw6467286526664445958 : True := trivial
theorem PySem.W.Fast.tw5429003262072429574 : True := trivial
theorem PySem.W.Fast.tw12428391700542144550 : True := trivial
theorem PySem.W.Fast.tw438861898414435366 : True := trivial
theorem PySem.W.Fast.tw17347056636681087302 : True := trivial
theorem PySem.W.Fast.tw15555660275613460934 : True := trivial
theorem PySem.W.Fast.tw1810257260213490182 : True := trivial
theorem PySem.W.Fast.tw17097497770018344486 : True := trivial
theorem PySem.W.Fast.tw11605808429413527078 : True := trivial
theorem PySem.W.Fast.tw9558031481287925318 : True := trivial
theorem PySem.W.Fast.tw1813193981683248742 : True := trivial
theorem PySem.W.Fast.tw9737632543156241062 : True := trivial
theorem PySem.W.Fast.tw11786814365851660966 : True := trivial
theorem PySem.W.Fast.tw16246035275496054438 : True := trivial
theorem PySem.W.Fast.tw4155333057853676262 : True := trivial
theorem PySem.W.Fast.tw1877349691976495910 : True := trivial
theorem PySem.W.Fast.tw16979474609096303430 : True := trivial
theorem PySem.W.Fast.tw7103667403319646054 : True := trivial
theorem PySem.W.Fast.tw4644707921332560838 : True := trivial
theorem PySem.W.Fast.tw11279788097931534375 : True := trivial
theorem PySem.W.Fast.tw15874255855569735751 : True := trivial
theorem PySem.W.Fast.tw14763787906031988839 : True := trivial
theorem PySem.W.Fast.tw1207672813788241031 : True := trivial
theorem PySem.W.Fast.tw3791354524229214439 : True := trivial
theorem PySem.W.Fast.tw1107664576642698503 : True := trivial
theorem PySem.W.Fast.tw10119459037579105575 : True := trivial
theorem PySem.W.Fast.tw11286185296864129447 : True := trivial
theorem PySem.W.Fast.tw15224612282554391975 : True := trivial
theorem PySem.W.Fast.tw10312064217289005607 : True := trivial
theorem PySem.W.Fast.tw16345427325070151207 : True := trivial
theorem PySem.W.Fast.tw16467550574020063879 : True := trivial
theorem PySem.W.Fast.tw18280444546521433863 : True := trivial
theorem PySem.W.Fast.tw2044283910714930951 : True := trivial
theorem PySem.W.Fast.tw14213658009366293287 : True := trivial
theorem PySem.W.Fast.tw4295630085385050951 : True := trivial
theorem PySem.W.Fast.tw17998692266728489831 : True := trivial
theorem PySem.W.Fast.tw15516028066848881575 : True := trivial
theorem PySem.W.Fast.tw3487992458000981064 : True := trivial
theorem PySem.W.Fast.tw3365856074155170920 : True := trivial
theorem PySem.W.Fast.tw8189607179682209032 : True := trivial
theorem PySem.W.Fast.tw9139036740402349480 : True := trivial
theorem PySem.W.Fast.tw1290161541061383656 : True := trivial
theorem PySem.W.Fast.tw6913614688281196040 : True := trivial
theorem PySem.W.Fast.tw7379751938878961192 : True := trivial
theorem PySem.W.Fast.tw16656140319934260968 : True := trivial
theorem PySem.W.Fast.tw14178464305301672776 : True := trivial
theorem PySem.W.Fast.tw6788056300890412872 : True := trivial
theorem PySem.W.Fast.tw4111530011876470889 : True := trivial
theorem PySem.W.Fast.tw5293713075069282473 : True := trivial
theorem PySem.W.Fast.tw4252371695962643721 : True := trivial
theorem PySem.W.Fast.tw3573148889802488105 : True := trivial
theorem PySem.W.Fast.tw4189624263001482697 : True := trivial
theorem PySem.W.Fast.tw17111074127255893737 : True := trivial
theorem PySem.W.Fast.tw9691750480320328489 : True := trivial
theorem PySem.W.Fast.tw3438378496539946825 : True := trivial
theorem PySem.W.Fast.tw7952128592445251561 : True := trivial
theorem PySem.W.Fast.tw8987451199856776202 : True := trivial
theorem PySem.W.Fast.tw2592914687188248682 : True := trivial
theorem PySem.W.Fast.tw5776242324009524522 : True := trivial
theorem PySem.W.Fast.tw18184373882699010378 : True := trivial
theorem PySem.W.Fast.tw9231497338784639370 : True := trivial
theorem PySem.W.Fast.tw15483571115366175146 : True := trivial
theorem PySem.W.Fast.tw14004711493223484874 : True := trivial
theorem PySem.W.Fast.tw2368969040008735178 : True := trivial
theorem PySem.W.Fast.tw10137064467399848522 : True := trivial
theorem PySem.W.Fast.tw13374124389469629162 : True := trivial
theorem PySem.W.Fast.tw2931136640523202314 : True := trivial
theorem PySem.W.Fast.tw14076250915035809578 : True := trivial
theorem PySem.W.Fast.tw6821944146427158346 : True := trivial
theorem PySem.W.Fast.tw11837525102176684938 : True := trivial
theorem PySem.W.Fast.tw1646213387270986666 : True := trivial
theorem PySem.W.Fast.tw7655227740034431946 : True := trivial
theorem PySem.W.Fast.tw11144963418517256170 : True := trivial
theorem PySem.W.Fast.tw10367445728936875083 : True := trivial
theorem PySem.W.Fast.tw15803818098238097547 : True := trivial
theorem PySem.W.Fast.tw8219369870129512587 : True := trivial
theorem PySem.W.Fast.tw16649948078408036523 : True := trivial
theorem PySem.W.Fast.tw5515967201385127179 : True := trivial
theorem PySem.W.Fast.tw11033222043773539627 : True := trivial
theorem PySem.W.Fast.tw9026924971291761963 : True := trivial
theorem PySem.W.Fast.tw13806230336342031691 : True := trivial
theorem PySem.W.Fast.tw17896848300976765355 : True := trivial
theorem PySem.W.Fast.tw15955217359890719243 : True := trivial
theorem PySem.W.Fast.tw3392865509808538219 : True := trivial
theorem PySem.W.Fast.tw8434421016984736459 : True := trivial
theorem PySem.W.Fast.tw9070568534355983147 : True := trivial
theorem PySem.W.Fast.tw5446090775543324619 : True := trivial
theorem PySem.W.Fast.tw3518673537840616395 : True := trivial
theorem PySem.W.Fast.tw14818747811528097900 : True := trivial
theorem PySem.W.Fast.tw2275729720877649100 : True := trivial
theorem PySem.W.Fast.tw13670827008995462412 : True := trivial
theorem PySem.W.Fast.tw13435263115986420108 : True := trivial
theorem PySem.W.Fast.tw4750712603371271564 : True := trivial
theorem PySem.W.Fast.tw9700073162972791244 : True := trivial
theorem PySem.W.Fast.tw15014910355799846540 : True := trivial
theorem PySem.W.Fast.tw2194062290065863308 : True := trivial
theorem PySem.W.Fast.tw7141885882292278028 : True := trivial
theorem PySem.W.Fast.tw2270760980142433132 : True := trivial
theorem PySem.W.Fast.tw3217686226163491724 : True := trivial
theorem PySem.W.Fast.tw16522857822707439564 : True := trivial
theorem PySem.W.Fast.tw1618629585289899053 : True := trivial
theorem PySem.W.Fast.tw15663125655364727021 : True := trivial
theorem PySem.W.Fast.tw14457835886390498573 : True := trivial
theorem PySem.W.Fast.tw5880817674158758285 : True := trivial
theorem PySem.W.Fast.tw3860045800619237805 : True := trivial
theorem PySem.W.Fast.tw1830300348003802573 : True := trivial
theorem PySem.W.Fast.tw14005615963154904653 : True := trivial
theorem PySem.W.Fast.tw14320925810824527501 : True := trivial
theorem PySem.W.Fast.tw15143934354561528653 : True := trivial
theorem PySem.W.Fast.tw9460300106107883469 : True := trivial
theorem PySem.W.Fast.tw6994998653019675597 : True := trivial
theorem PySem.W.Fast.tw11183928413037357037 : True := trivial
theorem PySem.W.Fast.tw3030875507660945389 : True := trivial
theorem PySem.W.Fast.tw3530830355412943118 : True := trivial
theorem PySem.W.Fast.tw15581252550850531598 : True := trivial
theorem PySem.W.Fast.tw2989354687149567278 : True := trivial
theorem PySem.W.Fast.tw14547665802062071374 : True := trivial
theorem PySem.W.Fast.tw14278534354618778222 : True := trivial
theorem PySem.W.Fast.tw8578227883388277422 : True := trivial
theorem PySem.W.Fast.tw900639894623758126 : True := trivial
theorem PySem.W.Fast.tw16473610737724603278 : True := trivial
theorem PySem.W.Fast.tw5256718040231861134 : True := trivial
theorem PySem.W.Fast.tw14007646045313558639 : True := trivial
theorem PySem.W.Fast.tw6446675739746168943 : True := trivial
theorem PySem.W.Fast.tw15868156466485119119 : True := trivial
theorem PySem.W.Fast.tw3852781125225741487 : True := trivial
theorem PySem.W.Fast.tw5101669863883088079 : True := trivial
theorem PySem.W.Fast.tw10444326227389612431 : True := trivial
theorem PySem.W.Fast.tw2084637455307067823 : True := trivial
theorem PySem.W.Fast.tw2861377937977544143 : True := trivial
theorem PySem.W.Fast.tw17955847357028950511 : True := trivial
theorem PySem.W.Fast.tw9624373099937339023 : True := trivial
theorem PySem.W.Fast.tw705699772921298799 : True := trivial
theorem PySem.W.Fast.tw12702939052628209551 : True := trivial
theorem PySem.W.Fast.tw3875136424927348816 : True := trivial
theorem PySem.W.Fast.tw11498809989512119408 : True := trivial
theorem PySem.W.Fast.tw10683369784420938928 : True := trivial
theorem PySem.W.Fast.tw9859746855087245488 : True := trivial
theorem PySem.W.Fast.tw11691733560973604048 : True := trivial
theorem PySem.W.Fast.tw17151967618714335472 : True := trivial
theorem PySem.W.Fast.tw3100939823874712912 : True := trivial
theorem PySem.W.Fast.tw1791746168503727440 : True := trivial
theorem PySem.W.Fast.tw12166447708574231984 : True := trivial
theorem PySem.W.Fast.tw15453975967303727664 : True := trivial
theorem PySem.W.Fast.tw5099849106332705392 : True := trivial
theorem PySem.W.Fast.tw11704412948910102128 : True := trivial
theorem PySem.W.Fast.tw3608178611354986192 : True := trivial
theorem PySem.W.Fast.tw14338395721653471024 : True := trivial
theorem PySem.W.Fast.tw3868769203997600849 : True := trivial
theorem PySem.W.Fast.tw16554566414447398993 : True := trivial
theorem PySem.W.Fast.tw8006164109941067921 : True := trivial
theorem PySem.W.Fast.tw11964401084487626961 : True := trivial
theorem PySem.W.Fast.tw11638715381965722929 : True := trivial
theorem PySem.W.Fast.tw4436804792336983377 : True := trivial
theorem PySem.W.Fast.tw4012951997753877905 : True := trivial
theorem PySem.W.Fast.tw8964940040348797361 : True := trivial
theorem PySem.W.Fast.tw16437545059258827281 : True := trivial
theorem PySem.W.Fast.tw8952922498532162065 : True := trivial
theorem PySem.W.Fast.tw5371021492064429681 : True := trivial
theorem PySem.W.Fast.tw16184685879185423025 : True := trivial
theorem PySem.W.Fast.tw573823668644672177 : True := trivial
theorem PySem.W.Fast.tw4907769807823938257 : True := trivial
theorem PySem.W.Fast.tw17975024108424935153 : True := trivial
theorem PySem.W.Fast.tw10129742956294185873 : True := trivial
theorem PySem.W.Fast.tw10729536009506986929 : True := trivial
theorem PySem.W.Fast.tw12508291243340895250 : True := trivial
theorem PySem.W.Fast.tw7315424684953126930 : True := trivial
theorem PySem.W.Fast.tw4533201629587607570 : True := trivial
theorem PySem.W.Fast.tw9045212815406569618 : True := trivial
theorem PySem.W.Fast.tw9091145204716668050 : True := trivial
theorem PySem.W.Fast.tw7904901717390034066 : True := trivial
theorem PySem.W.Fast.tw7824612750736314642 : True := trivial
theorem PySem.W.Fast.tw7241757198946679058 : True := trivial
theorem PySem.W.Fast.tw14825540969305691442 : True := trivial
theorem PySem.W.Fast.tw10482872036612561202 : True := trivial
theorem PySem.W.Fast.tw888350166237258098 : True := trivial
theorem PySem.W.Fast.tw4650522257091406226 : True := trivial
theorem PySem.W.Fast.tw3345704947647934898 : True := trivial
theorem PySem.W.Fast.tw3480474003493169586 : True := trivial
theorem PySem.W.Fast.tw17934406780458791378 : True := trivial
theorem PySem.W.Fast.tw605019435312346610 : True := trivial
theorem PySem.W.Fast.tw7340106092643354194 : True := trivial
theorem PySem.W.Fast.tw11423894608757641810 : True := trivial
theorem PySem.W.Fast.tw15254827454282592850 : True := trivial
theorem PySem.W.Fast.tw4469390652116815506 : True := trivial
theorem PySem.W.Fast.tw12093311182902265714 : True := trivial
theorem PySem.W.Fast.tw10630287216858273811 : True := trivial
theorem PySem.W.Fast.tw2864397860120709331 : True := trivial
theorem PySem.W.Fast.tw12496440575511914739 : True := trivial
theorem PySem.W.Fast.tw8398320122098683187 : True := trivial
theorem PySem.W.Fast.tw13911138283836780915 : True := trivial
theorem PySem.W.Fast.tw18424077860378866067 : True := trivial
theorem PySem.W.Fast.tw5086657450355272115 : True := trivial
theorem PySem.W.Fast.tw10155345026541157875 : True := trivial
theorem PySem.W.Fast.tw6130299880876069491 : True := trivial
theorem PySem.W.Fast.tw4603777375948543763 : True := trivial
theorem PySem.W.Fast.tw12212894964993478483 : True := trivial
theorem PySem.W.Fast.tw16399571274215000915 : True := trivial
theorem PySem.W.Fast.tw7585475087735140211 : True := trivial
theorem PySem.W.Fast.tw11089781439210475411 : True := trivial
theorem PySem.W.Fast.tw14921402309942298708 : True := trivial
theorem PySem.W.Fast.tw13209611656915882164 : True := trivial
theorem PySem.W.Fast.tw14892640700830309620 : True := trivial
theorem PySem.W.Fast.tw16271867562917597524 : True := trivial
theorem PySem.W.Fast.tw4534480136347516244 : True := trivial
theorem PySem.W.Fast.tw17923542048520881524 : True := trivial
theorem PySem.W.Fast.tw1212113505872551540 : True := trivial
theorem PySem.W.Fast.tw1910210823624698516 : True := trivial
theorem PySem.W.Fast.tw11105797723657517748 : True := trivial
theorem PySem.W.Fast.tw651915813373070036 : True := trivial
theorem PySem.W.Fast.tw16706622604654334740 : True := trivial
theorem PySem.W.Fast.tw7167815375089809332 : True := trivial
theorem PySem.W.Fast.tw7167160663559047221 : True := trivial
theorem PySem.W.Fast.tw11564785494301434933 : True := trivial
theorem PySem.W.Fast.tw3346408804462821525 : True := trivial
theorem PySem.W.Fast.tw9243420522853429429 : True := trivial
theorem PySem.W.Fast.tw9398593994860046645 : True := trivial
theorem PySem.W.Fast.tw11889962704768222517 : True := trivial
theorem PySem.W.Fast.tw843944266210826645 : True := trivial
theorem PySem.W.Fast.tw5812990782416840085 : True := trivial
theorem PySem.W.Fast.tw16227484625249767093 : True := trivial
theorem PySem.W.Fast.tw7228213308319033077 : True := trivial
theorem PySem.W.Fast.tw11345254528088733493 : True := trivial
theorem PySem.W.Fast.tw16818985030416946037 : True := trivial
theorem PySem.W.Fast.tw5722385291821684790 : True := trivial
theorem PySem.W.Fast.tw5791544226730244470 : True := trivial
theorem PySem.W.Fast.tw8366663340905721238 : True := trivial
theorem PySem.W.Fast.tw14854051130688192950 : True := trivial
theorem PySem.W.Fast.tw11687121596395732406 : True := trivial
theorem PySem.W.Fast.tw4741898698724637270 : True := trivial
theorem PySem.W.Fast.tw5863248749424863158 : True := trivial
theorem PySem.W.Fast.tw11161571634345369526 : True := trivial
theorem PySem.W.Fast.tw9149115821320918039 : True := trivial
theorem PySem.W.Fast.tw18134411909398377751 : True := trivial
theorem PySem.W.Fast.tw1365246313911073175 : True := trivial
theorem PySem.W.Fast.tw12145730660526416311 : True := trivial
theorem PySem.W.Fast.tw13747771731691631095 : True := trivial
theorem PySem.W.Fast.tw7887132574335600151 : True := trivial
theorem PySem.W.Fast.tw369025584937383447 : True := trivial
theorem PySem.W.Fast.tw6738188018982369815 : True := trivial
theorem PySem.W.Fast.tw135504349580180087 : True := trivial
theorem PySem.W.Fast.tw1138675621365558903 : True := trivial
theorem PySem.W.Fast.tw13955199439886564023 : True := trivial
theorem PySem.W.Fast.tw5592474603630414583 : True := trivial
theorem PySem.W.Fast.tw634282556205667191 : True := trivial
theorem PySem.W.Fast.tw6265877754069982167 : True := trivial
theorem PySem.W.Fast.tw9443674270401275928 : True := trivial
theorem PySem.W.Fast.tw6579358749932061816 : True := trivial
theorem PySem.W.Fast.tw8783299829730286808 : True := trivial
theorem PySem.W.Fast.tw4261149015752189208 : True := trivial
theorem PySem.W.Fast.tw10435325770686254424 : True := trivial
theorem PySem.W.Fast.tw4471190939184167544 : True := trivial
theorem PySem.W.Fast.tw6120977185875829752 : True := trivial
theorem PySem.W.Fast.tw4680223280622175257 : True := trivial
theorem PySem.W.Fast.tw7205644444717873177 : True := trivial
theorem PySem.W.Fast.tw11224337944811789401 : True := trivial
theorem PySem.W.Fast.tw504149102805518585 : True := trivial
theorem PySem.W.Fast.tw17379098096305205529 : True := trivial
theorem PySem.W.Fast.tw2138943541946338617 : True := trivial
theorem PySem.W.Fast.tw4831703468466148665 : True := trivial
theorem PySem.W.Fast.tw17537049263512401241 : True := trivial
theorem PySem.W.Fast.tw6639871500088007129 : True := trivial
theorem PySem.W.Fast.tw17117576489176529721 : True := trivial
theorem PySem.W.Fast.tw731302922878780281 : True := trivial
theorem PySem.W.Fast.tw11579615718590392217 : True := trivial
theorem PySem.W.Fast.tw6121109460547547258 : True := trivial
theorem PySem.W.Fast.tw4384830556947382458 : True := trivial
theorem PySem.W.Fast.tw16018807328087402714 : True := trivial
theorem PySem.W.Fast.tw7937705058058713402 : True := trivial
theorem PySem.W.Fast.tw18122251098650310970 : True := trivial
theorem PySem.W.Fast.tw14534259456972201370 : True := trivial
theorem PySem.W.Fast.tw8772352861602334106 : True := trivial
theorem PySem.W.Fast.tw15811173342269769274 : True := trivial
theorem PySem.W.Fast.tw6006469533925953306 : True := trivial
theorem PySem.W.Fast.tw545644343902191450 : True := trivial
theorem PySem.W.Fast.tw13465298709271671674 : True := trivial
theorem PySem.W.Fast.tw11351831241269889914 : True := trivial
theorem PySem.W.Fast.tw2295407678275757978 : True := trivial
theorem PySem.W.Fast.tw4210822624198383546 : True := trivial
theorem PySem.W.Fast.tw490780389018881018 : True := trivial
theorem PySem.W.Fast.tw6386053836786264091 : True := trivial
theorem PySem.W.Fast.tw2434574572599445595 : True := trivial
theorem PySem.W.Fast.tw11572816763089941627 : True := trivial
theorem PySem.W.Fast.tw13146535233047859323 : True := trivial
theorem PySem.W.Fast.tw18432502179077059803 : True := trivial
theorem PySem.W.Fast.tw5091312231911285979 : True := trivial
theorem PySem.W.Fast.tw15160350030883970363 : True := trivial
theorem PySem.W.Fast.tw6070777747388297563 : True := trivial
theorem PySem.W.Fast.tw3925623936839367131 : True := trivial
theorem PySem.W.Fast.tw13842258126694193627 : True := trivial
theorem PySem.W.Fast.tw16110486543345722875 : True := trivial
theorem PySem.W.Fast.tw8035142307133186779 : True := trivial
theorem PySem.W.Fast.tw14567159162984942363 : True := trivial
theorem PySem.W.Fast.tw16261865492487564155 : True := trivial
theorem PySem.W.Fast.tw11500891040614902747 : True := trivial
theorem PySem.W.Fast.tw16434389331463070683 : True := trivial
theorem PySem.W.Fast.tw3808270829213464571 : True := trivial
theorem PySem.W.Fast.tw14288852466595567676 : True := trivial
theorem PySem.W.Fast.tw5549945817886322812 : True := trivial
theorem PySem.W.Fast.tw9539182943359582396 : True := trivial
theorem PySem.W.Fast.tw9900589561615570140 : True := trivial
theorem PySem.W.Fast.tw17282783915000764636 : True := trivial
theorem PySem.W.Fast.tw3721690052429014300 : True := trivial
theorem PySem.W.Fast.tw1446036684154775868 : True := trivial
theorem PySem.W.Fast.tw14339977868946667196 : True := trivial
theorem PySem.W.Fast.tw10787956301482125052 : True := trivial
theorem PySem.W.Fast.tw13571841226712885020 : True := trivial
theorem PySem.W.Fast.tw16673625065346655132 : True := trivial
theorem PySem.W.Fast.tw4774830803286842300 : True := trivial
theorem PySem.W.Fast.tw898572367731992733 : True := trivial
theorem PySem.W.Fast.tw7427027649055615293 : True := trivial
theorem PySem.W.Fast.tw5078648878892947005 : True := trivial
theorem PySem.W.Fast.tw17794630267967066013 : True := trivial
theorem PySem.W.Fast.tw11838374963182940318 : True := trivial
theorem PySem.W.Fast.tw9624418474936297662 : True := trivial
theorem PySem.W.Fast.tw11215040991565273310 : True := trivial
theorem PySem.W.Fast.tw9603079122435063230 : True := trivial
theorem PySem.W.Fast.tw4262847258192261662 : True := trivial
theorem PySem.W.Fast.tw16344886496320741054 : True := trivial
theorem PySem.W.Fast.tw2788055060730748638 : True := trivial
theorem PySem.W.Fast.tw2106101951438391038 : True := trivial
theorem PySem.W.Fast.tw580154809268099966 : True := trivial
theorem PySem.W.Fast.tw13103415057415236799 : True := trivial
theorem PySem.W.Fast.tw10409299743838539039 : True := trivial
theorem PySem.W.Fast.tw8967725986182262175 : True := trivial
theorem PySem.W.Fast.tw16349707744135243167 : True := trivial
theorem PySem.W.Fast.tw2501316122817268191 : True := trivial
theorem PySem.W.Fast.tw10370282493209664031 : True := trivial
theorem PySem.W.Fast.tw6658040678706601535 : True := trivial
theorem PySem.W.Fast.tw10251725140624273087 : True := trivial
theorem PySem.W.Fast.tw9648570685613798207 : True := trivial
theorem PySem.W.Fast.tw12846961328922196895 : True := trivial
theorem PySem.W.Fast.tw18056432726255328159 : True := trivial
theorem PySem.W.Fast.tw10980756439123821567 : True := trivial

set_option Elab.async false
set_option linter.all false
set_option maxRecDepth 100000
set_option maxHeartbeats 400000
namespace K02
open PySem L2
theorem el1 {C : List Value → Prop} (h : ∀ a0 : Value, C [a0]) : ∀ us : List Value, us.length = 1 → C us := fun us e => match us, e with | [a0], _ => h a0
theorem el2 {C : List Value → Prop} (h : ∀ a0 a1 : Value, C [a0, a1]) : ∀ us : List Value, us.length = 2 → C us := fun us e => match us, e with | [a0, a1], _ => h a0 a1
theorem el3 {C : List Value → Prop} (h : ∀ a0 a1 a2 : Value, C [a0, a1, a2]) : ∀ us : List Value, us.length = 3 → C us := fun us e => match us, e with | [a0, a1, a2], _ => h a0 a1 a2
theorem el4 {C : List Value → Prop} (h : ∀ a0 a1 a2 a3 : Value, C [a0, a1, a2, a3]) : ∀ us : List Value, us.length = 4 → C us := fun us e => match us, e with | [a0, a1, a2, a3], _ => h a0 a1 a2 a3
theorem el5 {C : List Value → Prop} (h : ∀ a0 a1 a2 a3 a4 : Value, C [a0, a1, a2, a3, a4]) : ∀ us : List Value, us.length = 5 → C us := fun us e => match us, e with | [a0, a1, a2, a3, a4], _ => h a0 a1 a2 a3 a4
/-- the def stands in the text under its name -/
def Has (K : PySem.W.Frag) (x : Str) (st : Stmt) : Prop := ∃ (f : Addr) (od an : Option Addr) (sl : Array (Option Value)) (oc kV dc pm cd ct : Value), PySem.W.nsIn K mainGlobals x = some (some (.ref f)) ∧
  K.lookup f = some ⟨oc, od, .func (PySem.W.fnOf x x (defArgs st) (defBody st) (defScope st) .none kV dc pm an cd ct), sl⟩ ∧ PySem.W.codeIn K cd x = true ∧ PySem.W.keepIn K (.ref f) = true
theorem has_mk {K : PySem.W.Frag} {x : Str} {st : Stmt} {f : Addr} {od an : Option Addr} {sl : Array (Option Value)} {oc kV dc pm cd ct : Value} (a : PySem.W.nsIn K mainGlobals x = some (some (.ref f)))
    (l : K.lookup f = some ⟨oc, od, .func (PySem.W.fnOf x x (defArgs st) (defBody st) (defScope st) .none kV dc pm an cd ct), sl⟩) (c : PySem.W.codeIn K cd x = true) (k : PySem.W.keepIn K (.ref f) = true) : Has K x st := ⟨f, od, an, sl, oc, kV, dc, pm, cd, ct, a, l, c, k⟩
theorem Has.get {K : PySem.W.Frag} {x : Str} {st : Stmt} {h : Heap} {mg : Str → Option Value} (H : Has K x st) (X : K.In h) (G : h.Ns mainGlobals mg) : ∃ f fd, Fun K x x st f fd ∧ mg x = some (.ref f) := by
  obtain ⟨f, od, an, sl, oc, kV, dc, pm, cd, ct, a, l, c, k⟩ := H
  exact ⟨f, _, fun_mk (st := st) l c k, PySem.W.mg_of X G a⟩
theorem cal_mk {P : Program} {w : World} {K : PySem.W.Frag} {mg : Str → Option Value} {base : Heap} {k : Nat} {x : Str} {ps : List Str} {sp : Sp} {f : Addr} {fd : FuncData} (F : FnOk P w K mg base CX0 k f fd ps sp) (m : mg x = some (.ref f)) (kp : PySem.W.keepIn K (.ref f) = true) (b : Binds K fd ps []) : Cal P w K mg base k x ps sp := ⟨f, fd, F, m, kp, b⟩
theorem calx_mk {P : Program} {w : World} {K : PySem.W.Frag} {mg : Str → Option Value} {base : Heap} {k : Nat} {x : Str} {ps : List Str} {sp : Sp} {f : Addr} {fd : FuncData} (F : FnOk P w K mg base (CX1 P w) k f fd ps sp) (m : mg x = some (.ref f)) (kp : PySem.W.keepIn K (.ref f) = true) (b : Binds K fd ps []) : CalX P w K mg base k x ps sp := ⟨f, fd, F, m, kp, b⟩
theorem calu_mk {P : Program} {w : World} {K : PySem.W.Frag} {mg : Str → Option Value} {base : Heap} {k : Nat} {x : Str} {ps : List Str} {sp : Sp} {f : Addr} {fd : FuncData} (F : FnOkU P w K mg base CX0 k f fd ps sp) (m : mg x = some (.ref f)) (kp : PySem.W.keepIn K (.ref f) = true) (b : Binds K fd ps []) : CalU P w K mg base k x ps sp := ⟨f, fd, F, m, kp, b⟩
theorem code_mk {K : PySem.W.Frag} {x qual : Str} {st : Stmt} {f c T : Addr} {fd : FuncData} {h : Heap} {mg : Str → Option Value} (X : K.In h) (G : h.Ns mainGlobals mg) (F : Fun K x qual st f fd) (m : mg x = some (.ref f)) (t : PySem.W.tabIn K x = some (c, T)) : fd.code = .ref c := by
  obtain ⟨oc, od, kV, doc, pm, an, cdv, ct, osl, rfl, lk, _⟩ := F.ex
  exact PySem.W.law_code X G t m (X _ _ lk) rfl
theorem all_mk {l : PySem.W.OpenLaw} {w : World} {K : PySem.W.Frag} {h : Heap} {mg : Str → Option Value} {fa fL : Addr} {odL anL : Option Addr} {slL : Array (Option Value)} {ocL kVL dcL pmL cdL ctL : Value} {t0 t1 t2 t3 t4 t5 t6 : Tok} {cT T0 : Addr} {C0 C1 C2 C3 C4 C5 C6 C7 C8 C9 C10 C11 C12 C13 C14 C15 C16 C17 : Addr} (X : K.In h) (G : h.Ns mainGlobals mg) (hfa : mg "law" = some (.ref fa))
    (h20 : Has K "is_whole" (top 20))
    (h21 : Has K "is_tuple_of" (top 21))
    (h22 : Has K "are_wholes" (top 22))
    (h31 : Has K "is_promise" (top 31))
    (h32 : Has K "are_promises" (top 32))
    (h33 : Has K "are_sales" (top 33))
    (h34 : Has K "held_in" (top 34))
    (h35 : Has K "is_sale_between" (top 35))
    (h36 : Has K "sale_holds" (top 36))
    (h37 : Has K "first_unheld" (top 37))
    (h39 : Has K "_law_cell_at" (top 39))
    (h40 : Has K "_law_state" (top 40))
    (h41 : Has K "_law_take" (top 41))
    (h42 : Has K "_law_promises" (top 42))
    (h43 : Has K "_law_begun" (top 43))
    (h44 : Has K "_law_holds" (top 44))
    (h45 : Has K "_law_sell" (top 45))
    (h46 : Has K "_law_sold" (top 46))
    (h47 : Has K "_law_any_sale" (top 47))
    (h48 : Has K "_law_sales" (top 48))
    (h49 : Has K "_law_kind" (top 49))
    (h50 : Has K "_law_said" (top 50))
    (h51 : Has K "_law_whole" (top 51))
    (h52 : Has K "_law_between" (top 52))
    (h53 : Has K "_law_is_promise" (top 53))
    (h54 : Has K "_law_are_promises" (top 54))
    (h55 : Has K "_law_is_sale" (top 55))
    (h56 : Has K "_law_are_sales" (top 56))
    (h57 : Has K "_law_odd" (top 57))
    (h58 : Has K "_law_spoilt" (top 58))
    (h59 : Has K "_law_same" (top 59))
    (h60 : Has K "_law_right" (top 60))
    (h61 : Has K "_law_wild" (top 61))
    (aL : PySem.W.nsIn K mainGlobals "law" = some (some (.ref fL))) (lL : K.lookup fL = some ⟨ocL, odL, .func (PySem.W.fnOf "law" "law" (defArgs (top 62)) (defBody (top 62)) (defScope (top 62)) .none kVL dcL pmL anL cdL ctL), slL⟩) (cL : PySem.W.codeIn K cdL "law" = true) (kL : PySem.W.keepIn K (.ref fL) = true)
    (n0 : PySem.W.nsIn K mainGlobals "SORTS" = some (some (.int 3 t0)))
    (n1 : PySem.W.nsIn K mainGlobals "HOLDERS" = some (some (.int 8 t1)))
    (n2 : PySem.W.nsIn K mainGlobals "LAST_YEAR" = some (some (.int 19 t2)))
    (n3 : PySem.W.nsIn K mainGlobals "MOST_PROMISES" = some (some (.int 10 t3)))
    (n4 : PySem.W.nsIn K mainGlobals "MOST_SACKS" = some (some (.int 99 t4)))
    (n5 : PySem.W.nsIn K mainGlobals "MOST_PRICE" = some (some (.int 1000000 t5)))
    (n6 : PySem.W.nsIn K mainGlobals "MOST_SALES" = some (some (.int 12 t6)))
    (z_isinstance : PySem.W.nsIn K mainGlobals "isinstance" = some none)
    (z_int : PySem.W.nsIn K mainGlobals "int" = some none)
    (z_bool : PySem.W.nsIn K mainGlobals "bool" = some none)
    (z_tuple : PySem.W.nsIn K mainGlobals "tuple" = some none)
    (z_len : PySem.W.nsIn K mainGlobals "len" = some none)
    (z_all : PySem.W.nsIn K mainGlobals "all" = some none)
    (z_range : PySem.W.nsIn K mainGlobals "range" = some none)
    (z_list : PySem.W.nsIn K mainGlobals "list" = some none)
    (z_max : PySem.W.nsIn K mainGlobals "max" = some none)
    (z_min : PySem.W.nsIn K mainGlobals "min" = some none)
    (z_repr : PySem.W.nsIn K mainGlobals "repr" = some none)
    (z_zip : PySem.W.nsIn K mainGlobals "zip" = some none)
    (z_enumerate : PySem.W.nsIn K mainGlobals "enumerate" = some none)
    (z_ValueError : PySem.W.nsIn K mainGlobals "ValueError" = some none)
    (k0 : PySem.W.nsIn K mainGlobals "NoClips" = some (some (.ref C0)))
    (k1 : PySem.W.nsIn K mainGlobals "NoPromises" = some (some (.ref C1)))
    (k2 : PySem.W.nsIn K mainGlobals "NoSales" = some (some (.ref C2)))
    (k3 : PySem.W.nsIn K mainGlobals "NoBook" = some (some (.ref C3)))
    (k4 : PySem.W.nsIn K mainGlobals "NoNumber" = some (some (.ref C4)))
    (k5 : PySem.W.nsIn K mainGlobals "NoYear" = some (some (.ref C5)))
    (k6 : PySem.W.nsIn K mainGlobals "NoWeights" = some (some (.ref C6)))
    (k7 : PySem.W.nsIn K mainGlobals "NoPaper" = some (some (.ref C7)))
    (k8 : PySem.W.nsIn K mainGlobals "NoGrowth" = some (some (.ref C8)))
    (k9 : PySem.W.nsIn K mainGlobals "NoPromise" = some (some (.ref C9)))
    (k10 : PySem.W.nsIn K mainGlobals "NoSort" = some (some (.ref C10)))
    (k11 : PySem.W.nsIn K mainGlobals "NoClip" = some (some (.ref C11)))
    (k12 : PySem.W.nsIn K mainGlobals "NoSale" = some (some (.ref C12)))
    (k13 : PySem.W.nsIn K mainGlobals "NoDeed" = some (some (.ref C13)))
    (k14 : PySem.W.nsIn K mainGlobals "NoText" = some (some (.ref C14)))
    (k15 : PySem.W.nsIn K mainGlobals "NoLine" = some (some (.ref C15)))
    (k16 : PySem.W.nsIn K mainGlobals "TooMany" = some (some (.ref C16)))
    (k17 : PySem.W.nsIn K mainGlobals "WoolError" = some (some (.ref C17)))
    (e1 : PySem.W.excIn K C1 VE "ValueError.__new__" = true) (d1 : kdIn K [C0, C1, C2, C3, C4, C5, C6, C7, C8, C9, C10, C11, C12, C13, C14, C15, C16, C17] 1 = true)
    (e2 : PySem.W.excIn K C2 VE "ValueError.__new__" = true) (d2 : kdIn K [C0, C1, C2, C3, C4, C5, C6, C7, C8, C9, C10, C11, C12, C13, C14, C15, C16, C17] 2 = true)
    (tb : PySem.W.tabIn K "_law_right" = some (cT, T0))
    : ∃ fd : FuncData, (∀ (s : Shared) (v : Value), BindsTo s fd ⟨[v], []⟩ [("_law_script", v)]) ∧ ∀ base : Heap, K.In base → base.Ns mainGlobals mg → PySem.W.CodeHd base cT T0 → base.BuiltinsAt mg T0 → FnOk l.prog w K mg base CX0 63 fa fd ["_law_script"] (spLaw K T0) := by
  have e := hfa.symm.trans (PySem.W.mg_of X G aL)
  cases e
  have FL := fun_mk (st := top 62) lL cL kL
  obtain ⟨f20, fd20, F20, m20⟩ := h20.get X G
  have b20 := F20.binds (ps := ["thing"]) fun _ _ _ _ _ _ => el1 fun _ => rfl
  obtain ⟨f21, fd21, F21, m21⟩ := h21.get X G
  have b21 := F21.binds (ps := ["thing", "fewest", "most"]) fun _ _ _ _ _ _ => el3 fun _ _ _ => rfl
  obtain ⟨f22, fd22, F22, m22⟩ := h22.get X G
  have b22 := F22.binds (ps := ["thing", "many"]) fun _ _ _ _ _ _ => el2 fun _ _ => rfl
  obtain ⟨f31, fd31, F31, m31⟩ := h31.get X G
  have b31 := F31.binds (ps := ["thing"]) fun _ _ _ _ _ _ => el1 fun _ => rfl
  obtain ⟨f32, fd32, F32, m32⟩ := h32.get X G
  have b32 := F32.binds (ps := ["thing"]) fun _ _ _ _ _ _ => el1 fun _ => rfl
  obtain ⟨f33, fd33, F33, m33⟩ := h33.get X G
  have b33 := F33.binds (ps := ["thing"]) fun _ _ _ _ _ _ => el1 fun _ => rfl
  obtain ⟨f34, fd34, F34, m34⟩ := h34.get X G
  have b34 := F34.binds (ps := ["promises", "sales", "number", "year"]) fun _ _ _ _ _ _ => el4 fun _ _ _ _ => rfl
  obtain ⟨f35, fd35, F35, m35⟩ := h35.get X G
  have b35 := F35.binds (ps := ["promises", "sale"]) fun _ _ _ _ _ _ => el2 fun _ _ => rfl
  obtain ⟨f36, fd36, F36, m36⟩ := h36.get X G
  have b36 := F36.binds (ps := ["promises", "ahead", "sale"]) fun _ _ _ _ _ _ => el3 fun _ _ _ => rfl
  obtain ⟨f37, fd37, F37, m37⟩ := h37.get X G
  have b37 := F37.binds (ps := ["promises", "sales"]) fun _ _ _ _ _ _ => el2 fun _ _ => rfl
  obtain ⟨f39, fd39, F39, m39⟩ := h39.get X G
  have b39 := F39.binds (ps := ["_law_script", "_law_k"]) fun _ _ _ _ _ _ => el2 fun _ _ => rfl
  obtain ⟨f40, fd40, F40, m40⟩ := h40.get X G
  have b40 := F40.binds (ps := ["_law_script", "_law_k"]) fun _ _ _ _ _ _ => el2 fun _ _ => rfl
  obtain ⟨f41, fd41, F41, m41⟩ := h41.get X G
  have b41 := F41.binds (ps := ["_law_state_here", "_law_many"]) fun _ _ _ _ _ _ => el2 fun _ _ => rfl
  obtain ⟨f42, fd42, F42, m42⟩ := h42.get X G
  have b42 := F42.binds (ps := ["_law_state_here", "_law_most", "_law_years"]) fun _ _ _ _ _ _ => el3 fun _ _ _ => rfl
  obtain ⟨f43, fd43, F43, m43⟩ := h43.get X G
  have b43 := F43.binds (ps := ["_law_promises_here"]) fun _ _ _ _ _ _ => el1 fun _ => rfl
  obtain ⟨f44, fd44, F44, m44⟩ := h44.get X G
  have b44 := F44.binds (ps := ["_law_promises_here", "_law_rows", "_law_sale"]) fun _ _ _ _ _ _ => el3 fun _ _ _ => rfl
  obtain ⟨f45, fd45, F45, m45⟩ := h45.get X G
  have b45 := F45.binds (ps := ["_law_promises_here", "_law_rows", "_law_sale"]) fun _ _ _ _ _ _ => el3 fun _ _ _ => rfl
  obtain ⟨f46, fd46, F46, m46⟩ := h46.get X G
  have b46 := F46.binds (ps := ["_law_promises_here", "_law_sales_here"]) fun _ _ _ _ _ _ => el2 fun _ _ => rfl
  obtain ⟨f47, fd47, F47, m47⟩ := h47.get X G
  have b47 := F47.binds (ps := ["_law_state_here", "_law_promises_here"]) fun _ _ _ _ _ _ => el2 fun _ _ => rfl
  obtain ⟨f48, fd48, F48, m48⟩ := h48.get X G
  have b48 := F48.binds (ps := ["_law_state_here", "_law_promises_here", "_law_most"]) fun _ _ _ _ _ _ => el3 fun _ _ _ => rfl
  obtain ⟨f49, fd49, F49, m49⟩ := h49.get X G
  have b49 := F49.binds (ps := ["_law_e"]) fun _ _ _ _ _ _ => el1 fun _ => rfl
  obtain ⟨f50, fd50, F50, m50⟩ := h50.get X G
  have b50 := F50.binds (ps := ["_law_call"]) fun _ _ _ _ _ _ => el1 fun _ => rfl
  obtain ⟨f51, fd51, F51, m51⟩ := h51.get X G
  have b51 := F51.binds (ps := ["_law_thing"]) fun _ _ _ _ _ _ => el1 fun _ => rfl
  obtain ⟨f52, fd52, F52, m52⟩ := h52.get X G
  have b52 := F52.binds (ps := ["_law_thing", "_law_low", "_law_high"]) fun _ _ _ _ _ _ => el3 fun _ _ _ => rfl
  obtain ⟨f53, fd53, F53, m53⟩ := h53.get X G
  have b53 := F53.binds (ps := ["_law_thing"]) fun _ _ _ _ _ _ => el1 fun _ => rfl
  obtain ⟨f54, fd54, F54, m54⟩ := h54.get X G
  have b54 := F54.binds (ps := ["_law_thing"]) fun _ _ _ _ _ _ => el1 fun _ => rfl
  obtain ⟨f55, fd55, F55, m55⟩ := h55.get X G
  have b55 := F55.binds (ps := ["_law_thing"]) fun _ _ _ _ _ _ => el1 fun _ => rfl
  obtain ⟨f56, fd56, F56, m56⟩ := h56.get X G
  have b56 := F56.binds (ps := ["_law_thing"]) fun _ _ _ _ _ _ => el1 fun _ => rfl
  obtain ⟨f57, fd57, F57, m57⟩ := h57.get X G
  have b57 := F57.binds (ps := ["_law_state_here"]) fun _ _ _ _ _ _ => el1 fun _ => rfl
  obtain ⟨f58, fd58, F58, m58⟩ := h58.get X G
  have b58 := F58.binds (ps := ["_law_state_here", "_law_thing", "_law_deep"]) fun _ _ _ _ _ _ => el3 fun _ _ _ => rfl
  obtain ⟨f59, fd59, F59, m59⟩ := h59.get X G
  have b59 := F59.binds (ps := ["_law_found", "_law_due"]) fun _ _ _ _ _ _ => el2 fun _ _ => rfl
  obtain ⟨f60, fd60, F60, m60⟩ := h60.get X G
  have b60 := F60.binds (ps := ["_law_promises_here", "_law_sales_here"]) fun _ _ _ _ _ _ => el2 fun _ _ => rfl
  obtain ⟨f61, fd61, F61, m61⟩ := h61.get X G
  have b61 := F61.binds (ps := ["_law_state_here", "_law_promises_here"]) fun _ _ _ _ _ _ => el2 fun _ _ => rfl
  have T : Mg mg := ⟨(PySem.W.mg_none_of X G z_isinstance), (PySem.W.mg_none_of X G z_int), (PySem.W.mg_none_of X G z_bool), (PySem.W.mg_none_of X G z_tuple), (PySem.W.mg_none_of X G z_len), (PySem.W.mg_none_of X G z_all)⟩
  have N : Nums mg := ⟨⟨t0, PySem.W.mg_of X G n0⟩, ⟨t1, PySem.W.mg_of X G n1⟩, ⟨t2, PySem.W.mg_of X G n2⟩, ⟨t3, PySem.W.mg_of X G n3⟩, ⟨t4, PySem.W.mg_of X G n4⟩, ⟨t5, PySem.W.mg_of X G n5⟩⟩
  have N2 : MS mg := ⟨⟨t6, PySem.W.mg_of X G n6⟩⟩
  refine ⟨PySem.W.fnOf "law" "law" (defArgs (top 62)) (defBody (top 62)) (defScope (top 62)) .none kVL dcL pmL anL cdL ctL, fun s v => .of_eq rfl, fun base kb _ hC hB => ?_⟩
  have L : Clss mg (fun i => [C0, C1, C2, C3, C4, C5, C6, C7, C8, C9, C10, C11, C12, C13, C14, C15, C16, C17].getD i 0) := ⟨PySem.W.mg_of X G k0, PySem.W.mg_of X G k1, PySem.W.mg_of X G k2, PySem.W.mg_of X G k3, PySem.W.mg_of X G k4, PySem.W.mg_of X G k5, PySem.W.mg_of X G k6, PySem.W.mg_of X G k7, PySem.W.mg_of X G k8, PySem.W.mg_of X G k9, PySem.W.mg_of X G k10, PySem.W.mg_of X G k11, PySem.W.mg_of X G k12, PySem.W.mg_of X G k13, PySem.W.mg_of X G k14, PySem.W.mg_of X G k15, PySem.W.mg_of X G k16, PySem.W.mg_of X G k17⟩
  have O1 := own_mk (mg := mg) kb L.n1 e1
  have K1 := kd_of d1
  have O2 := own_mk (mg := mg) kb L.n2 e2
  have K2 := kd_of d2
  have hcode := code_mk X G F60 m60 tb
  have C20 := cal_mk (P := l.prog) (w := w) (base := base) (ok_is_whole F20 T) m20 F20.kp b20
  have C21 := cal_mk (P := l.prog) (w := w) (base := base) (ok_is_tuple_of F21 T) m21 F21.kp b21
  have C22 := cal_mk (P := l.prog) (w := w) (base := base) (ok_are_wholes F22 T C20 C21) m22 F22.kp b22
  have C31 := cal_mk (P := l.prog) (w := w) (base := base) (ok_is_promise F31 T N C22) m31 F31.kp b31
  have C32 := cal_mk (P := l.prog) (w := w) (base := base) (ok_are_promises F32 T N C31 C21) m32 F32.kp b32
  have C33 := cal_mk (P := l.prog) (w := w) (base := base) (ok_are_sales F33 T N2 C22 C21) m33 F33.kp b33
  have C34 := cal_mk (P := l.prog) (w := w) (base := base) (ok_held F34 N) m34 F34.kp b34
  have C35 := cal_mk (P := l.prog) (w := w) (base := base) (ok_betw F35 T N) m35 F35.kp b35
  have C36 := cal_mk (P := l.prog) (w := w) (base := base) (ok_holds F36 T (PySem.W.mg_none_of X G z_range) C35 C34) m36 F36.kp b36
  have C37 := calx_mk (P := l.prog) (w := w) (base := base) (ok_firstX (Cs := (fun i => [C0, C1, C2, C3, C4, C5, C6, C7, C8, C9, C10, C11, C12, C13, C14, C15, C16, C17].getD i 0)) F37 O1 O2 (PySem.W.mg_none_of X G z_enumerate) C32 C33 C36) m37 F37.kp b37
  have C39 := cal_mk (P := l.prog) (w := w) (base := base) (ok_cell F39 T) m39 F39.kp b39
  have C40 := cal_mk (P := l.prog) (w := w) (base := base) (ok_state F40 C39) m40 F40.kp b40
  have C41 := cal_mk (P := l.prog) (w := w) (base := base) (ok_take F41) m41 F41.kp b41
  have C42 := cal_mk (P := l.prog) (w := w) (base := base) (ok_promises2 F42 T (PySem.W.mg_none_of X G z_range) (PySem.W.mg_none_of X G z_min) C41) m42 F42.kp b42
  have C43 := cal_mk (P := l.prog) (w := w) (base := base) (ok_begun F43 (PySem.W.mg_none_of X G z_enumerate) (PySem.W.mg_none_of X G z_range)) m43 F43.kp b43
  have C44 := cal_mk (P := l.prog) (w := w) (base := base) (ok_lholds F44 T (PySem.W.mg_none_of X G z_range) (PySem.W.mg_none_of X G z_min)) m44 F44.kp b44
  have C45 := cal_mk (P := l.prog) (w := w) (base := base) (ok_sell F45 (PySem.W.mg_none_of X G z_range)) m45 F45.kp b45
  have C46 := cal_mk (P := l.prog) (w := w) (base := base) (ok_sold F46 (PySem.W.mg_none_of X G z_enumerate) C43 C44 C45) m46 F46.kp b46
  have C47 := cal_mk (P := l.prog) (w := w) (base := base) (ok_any F47 T (PySem.W.mg_none_of X G z_max) C41) m47 F47.kp b47
  have C48 := cal_mk (P := l.prog) (w := w) (base := base) (ok_sales F48 T (PySem.W.mg_none_of X G z_range) C41 C47 C46) m48 F48.kp b48
  have C49 := calu_mk (P := l.prog) (w := w) (base := base) (ok_kind F49 T (PySem.W.mg_none_of X G z_ValueError) L) m49 F49.kp b49
  have C50 := cal_mk (P := l.prog) (w := w) (base := base) (ok_said (kk := 7) F50 L C49) m50 F50.kp b50
  have C51 := cal_mk (P := l.prog) (w := w) (base := base) (ok_lwhole F51 T) m51 F51.kp b51
  have C52 := cal_mk (P := l.prog) (w := w) (base := base) (ok_lbetween F52 C51) m52 F52.kp b52
  have C53 := cal_mk (P := l.prog) (w := w) (base := base) (ok_lis_promise F53 T (PySem.W.mg_none_of X G z_zip) C52) m53 F53.kp b53
  have C54 := cal_mk (P := l.prog) (w := w) (base := base) (ok_lare_promises F54 T C53) m54 F54.kp b54
  have C55 := cal_mk (P := l.prog) (w := w) (base := base) (ok_lis_sale F55 T C51) m55 F55.kp b55
  have C56 := cal_mk (P := l.prog) (w := w) (base := base) (ok_lare_sales F56 T C55) m56 F56.kp b56
  have C57 := cal_mk (P := l.prog) (w := w) (base := base) (ok_odd F57 C41) m57 F57.kp b57
  have S0 := cal_mk (P := l.prog) (w := w) (base := base) (ok_spoilt0 (f := f58) (fd := fd58)) m58 F58.kp b58
  have S1 := cal_mk (P := l.prog) (w := w) (base := base) (ok_spoilt (k := 0) F58 T (PySem.W.mg_none_of X G z_list) C41 C51 C57 S0) m58 F58.kp b58
  have S2 := cal_mk (P := l.prog) (w := w) (base := base) (ok_spoilt (k := 1) F58 T (PySem.W.mg_none_of X G z_list) C41 C51 C57 S1) m58 F58.kp b58
  have S3 := cal_mk (P := l.prog) (w := w) (base := base) (ok_spoilt (k := 2) F58 T (PySem.W.mg_none_of X G z_list) C41 C51 C57 S2) m58 F58.kp b58
  have S4 := cal_mk (P := l.prog) (w := w) (base := base) (ok_spoilt (k := 3) F58 T (PySem.W.mg_none_of X G z_list) C41 C51 C57 S3) m58 F58.kp b58
  have C59 := cal_mk (P := l.prog) (w := w) (base := base) (ok_same F59 (PySem.W.mg_none_of X G z_repr)) m59 F59.kp b59
  have C60 := cal_mk (P := l.prog) (w := w) (base := base) (ok_right F60 hcode hC hB (PySem.W.mg_none_of X G z_repr) (fun j hj => by rcases hj with rfl | rfl; exact K1; exact K2) C50 C37 C54 C56 C46 C59) m60 F60.kp b60
  have C61 := cal_mk (P := l.prog) (w := w) (base := base) (ok_wild F61 T (PySem.W.mg_none_of X G z_list) (PySem.W.mg_none_of X G z_range) C41 C47 C48) m61 F61.kp b61
  exact ok_law FL T (PySem.W.mg_none_of X G z_range) (PySem.W.mg_none_of X G z_list) (PySem.W.mg_none_of X G z_max) (PySem.W.mg_none_of X G z_min) C40 C42 C61 S4 C57 C60
theorem walk {l : PySem.W.OpenLaw} {q : Program} {loose : List Str} {XP : (Str → Option Value) → Heap → Prop} {YP : World → Heap → Prop} {d dr : DefRec} {K : Params → PySem.W.Frag} {c T0 : Addr} (hn : l.most = some 63) (hdf : d.params.defaults = [])
    (hY : ∀ (w : World) (h : Heap), YP w h → (K w.params).In h) (hfd : (PyProof.Rows.recsOf q).find? (fun e => e.name == ("_law_right" : Str)) = some dr) (htb : ∀ p : Params, PySem.W.tabIn (K p) "_law_right" = some (c, T0)) (hnt : ∀ p : Params, PySem.W.noTabs (K p) = true)
    (F : ∀ (w : World) (mg : Str → Option Value) (fa : Addr) (h : Heap), (K w.params).In h → h.Ns mainGlobals mg → mg d.name = some (.ref fa) →
      ∃ fd : FuncData, (∀ (s : Shared) (u : Value), BindsTo s fd ⟨[u], []⟩ [("_law_script", u)]) ∧ ∀ base : Heap, (K w.params).In base → base.Ns mainGlobals mg → PySem.W.CodeHd base c T0 → base.BuiltinsAt mg T0 → FnOk l.prog w (K w.params) mg base CX0 63 fa fd ["_law_script"] (spLaw (K w.params) T0)) :
    PySem.W.WalkO q loose XP YP l.row.toRowW d [] (fun f vs => PySem.call f vs) :=
  L2.walk_ofT (n := 63) (k := 63) (x := "_law_script") (nm := "_law_right") (qn := qnT) (CX := fun _ => CX0) (sp := fun w => spLaw (K w.params) T0) hn (by decide) hdf ⟨rfl, by decide, by decide, rfl⟩ hY hfd htb hnt F (fun _ _ a ns hl hS hT => ⟨a, ns, rfl, hS, hl, hT, fun _ => rfl⟩) fun _ _ _ _ _ z => z
end K02
open PySem PySem.W PyProof.Rows
set_option maxRecDepth 100000 in
set_option maxHeartbeats 0 in
theorem PySem.Challenge.cw_woolyears_k02_sales_that_hold_holds : PySem.Challenge.rw_woolyears_k02_sales_that_hold.Holds := by
  w_on; o_law; k_head; (case hw => w_witness2)
  k_fill
  refine' K02.walk (l := PySem.Challenge.rw_woolyears_k02_sales_that_hold) rfl rfl (fun w h Y => PySem.W.km_in_of Y) ?fd ?tb ?nt ?F
  case fd => exact rfl
  case tb =>
    intro p
    refine' K02.tab_mk ?a ?l ?c ?m ?v
    (case a => k_is); (case l => k_is); (case c => exact rfl); (case m => k_is); (case v => exact rfl)
  case nt =>
    intro p
    kernel_rfl
  case F =>
    intro w mg fa h KX G hmg
    refine' K02.all_mk KX G hmg ?h20 ?h21 ?h22 ?h31 ?h32 ?h33 ?h34 ?h35 ?h36 ?h37 ?h39 ?h40 ?h41 ?h42 ?h43 ?h44 ?h45 ?h46 ?h47 ?h48 ?h49 ?h50 ?h51 ?h52 ?h53 ?h54 ?h55 ?h56 ?h57 ?h58 ?h59 ?h60 ?h61 ?aL ?lL ?cL ?kL ?n0 ?n1 ?n2 ?n3 ?n4 ?n5 ?n6 ?z0 ?z1 ?z2 ?z3 ?z4 ?z5 ?z6 ?z7 ?z8 ?z9 ?z10 ?z11 ?z12 ?z13 ?k0 ?k1 ?k2 ?k3 ?k4 ?k5 ?k6 ?k7 ?k8 ?k9 ?k10 ?k11 ?k12 ?k13 ?k14 ?k15 ?k16 ?k17 ?e1 ?d1 ?e2 ?d2 ?tb
    case h20 =>
      refine' K02.has_mk ?a ?l ?c ?k
      (case a => k_is); (case l => k_is); (case c => k_is); (case k => k_is)
    case h21 =>
      refine' K02.has_mk ?a ?l ?c ?k
      (case a => k_is); (case l => k_is); (case c => k_is); (case k => k_is)
    case h22 =>
      refine' K02.has_mk ?a ?l ?c ?k
      (case a => k_is); (case l => k_is); (case c => k_is); (case k => k_is)
    case h31 =>
      refine' K02.has_mk ?a ?l ?c ?k
      (case a => k_is); (case l => k_is); (case c => k_is); (case k => k_is)
    case h32 =>
      refine' K02.has_mk ?a ?l ?c ?k
      (case a => k_is); (case l => k_is); (case c => k_is); (case k => k_is)
    case h33 =>
      refine' K02.has_mk ?a ?l ?c ?k
      (case a => k_is); (case l => k_is); (case c => k_is); (case k => k_is)
    case h34 =>
      refine' K02.has_mk ?a ?l ?c ?k
      (case a => k_is); (case l => k_is); (case c => k_is); (case k => k_is)
    case h35 =>
      refine' K02.has_mk ?a ?l ?c ?k
      (case a => k_is); (case l => k_is); (case c => k_is); (case k => k_is)
    case h36 =>
      refine' K02.has_mk ?a ?l ?c ?k
      (case a => k_is); (case l => k_is); (case c => k_is); (case k => k_is)
    case h37 =>
      refine' K02.has_mk ?a ?l ?c ?k
      (case a => k_is); (case l => k_is); (case c => k_is); (case k => k_is)
    case h39 =>
      refine' K02.has_mk ?a ?l ?c ?k
      (case a => k_is); (case l => k_is); (case c => k_is); (case k => k_is)
    case h40 =>
      refine' K02.has_mk ?a ?l ?c ?k
      (case a => k_is); (case l => k_is); (case c => k_is); (case k => k_is)
    case h41 =>
      refine' K02.has_mk ?a ?l ?c ?k
      (case a => k_is); (case l => k_is); (case c => k_is); (case k => k_is)
    case h42 =>
      refine' K02.has_mk ?a ?l ?c ?k
      (case a => k_is); (case l => k_is); (case c => k_is); (case k => k_is)
    case h43 =>
      refine' K02.has_mk ?a ?l ?c ?k
      (case a => k_is); (case l => k_is); (case c => k_is); (case k => k_is)
    case h44 =>
      refine' K02.has_mk ?a ?l ?c ?k
      (case a => k_is); (case l => k_is); (case c => k_is); (case k => k_is)
    case h45 =>
      refine' K02.has_mk ?a ?l ?c ?k
      (case a => k_is); (case l => k_is); (case c => k_is); (case k => k_is)
    case h46 =>
      refine' K02.has_mk ?a ?l ?c ?k
      (case a => k_is); (case l => k_is); (case c => k_is); (case k => k_is)
    case h47 =>
      refine' K02.has_mk ?a ?l ?c ?k
      (case a => k_is); (case l => k_is); (case c => k_is); (case k => k_is)
    case h48 =>
      refine' K02.has_mk ?a ?l ?c ?k
      (case a => k_is); (case l => k_is); (case c => k_is); (case k => k_is)
    case h49 =>
      refine' K02.has_mk ?a ?l ?c ?k
      (case a => k_is); (case l => k_is); (case c => k_is); (case k => k_is)
    case h50 =>
      refine' K02.has_mk ?a ?l ?c ?k
      (case a => k_is); (case l => k_is); (case c => k_is); (case k => k_is)
    case h51 =>
      refine' K02.has_mk ?a ?l ?c ?k
      (case a => k_is); (case l => k_is); (case c => k_is); (case k => k_is)
    case h52 =>
      refine' K02.has_mk ?a ?l ?c ?k
      (case a => k_is); (case l => k_is); (case c => k_is); (case k => k_is)
    case h53 =>
      refine' K02.has_mk ?a ?l ?c ?k
      (case a => k_is); (case l => k_is); (case c => k_is); (case k => k_is)
    case h54 =>
      refine' K02.has_mk ?a ?l ?c ?k
      (case a => k_is); (case l => k_is); (case c => k_is); (case k => k_is)
    case h55 =>
      refine' K02.has_mk ?a ?l ?c ?k
      (case a => k_is); (case l => k_is); (case c => k_is); (case k => k_is)
    case h56 =>
      refine' K02.has_mk ?a ?l ?c ?k
      (case a => k_is); (case l => k_is); (case c => k_is); (case k => k_is)
    case h57 =>
      refine' K02.has_mk ?a ?l ?c ?k
      (case a => k_is); (case l => k_is); (case c => k_is); (case k => k_is)
    case h58 =>
      refine' K02.has_mk ?a ?l ?c ?k
      (case a => k_is); (case l => k_is); (case c => k_is); (case k => k_is)
    case h59 =>
      refine' K02.has_mk ?a ?l ?c ?k
      (case a => k_is); (case l => k_is); (case c => k_is); (case k => k_is)
    case h60 =>
      refine' K02.has_mk ?a ?l ?c ?k
      (case a => k_is); (case l => k_is); (case c => k_is); (case k => k_is)
    case h61 =>
      refine' K02.has_mk ?a ?l ?c ?k
      (case a => k_is); (case l => k_is); (case c => k_is); (case k => k_is)
    (case aL => k_is); (case lL => k_is); (case cL => k_is); (case kL => k_is)
    (case n0 => k_is)
    (case n1 => k_is)
    (case n2 => k_is)
    (case n3 => k_is)
    (case n4 => k_is)
    (case n5 => k_is)
    (case n6 => k_is)
    (case z0 => k_is)
    (case z1 => k_is)
    (case z2 => k_is)
    (case z3 => k_is)
    (case z4 => k_is)
    (case z5 => k_is)
    (case z6 => k_is)
    (case z7 => k_is)
    (case z8 => k_is)
    (case z9 => k_is)
    (case z10 => k_is)
    (case z11 => k_is)
    (case z12 => k_is)
    (case z13 => k_is)
    (case k0 => k_is)
    (case k1 => k_is)
    (case k2 => k_is)
    (case k3 => k_is)
    (case k4 => k_is)
    (case k5 => k_is)
    (case k6 => k_is)
    (case k7 => k_is)
    (case k8 => k_is)
    (case k9 => k_is)
    (case k10 => k_is)
    (case k11 => k_is)
    (case k12 => k_is)
    (case k13 => k_is)
    (case k14 => k_is)
    (case k15 => k_is)
    (case k16 => k_is)
    (case k17 => k_is)
    (case e1 => kernel_rfl); (case d1 => kernel_rfl)
    (case e2 => kernel_rfl); (case d2 => kernel_rfl)
    case tb =>
      refine' K02.tab_mk ?a ?l ?c ?m ?v
      (case a => k_is); (case l => k_is); (case c => exact rfl); (case m => k_is); (case v => exact rfl)

