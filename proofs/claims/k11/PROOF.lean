import PyProof.Rows.All
import Wide.All
import OpenK.AllK
import Wide.FinOn
import Lean
import PyProof.EqAt
import PyProof.EqKinds
import PyProof.TupleCall
import PyProof.StrLawsRepr
import PyProof.ZipIter
import PySem.Challenge.RW_woolyears_k11_parts_that_are_fair
import PyProof.Rows.SortRunsK
import PyProof.AttrMissHeap
-- CHANGE: your row's module here, as the last of these rows
set_option Elab.async false
set_option linter.all false
set_option maxRecDepth 100000
/-! THE HAND LAYER, for ints, bools, texts, own classes, LISTS and tuples (index, slices, in, append, pop ..), calls, loops. Paste it whole ahead of your own text; what your proof does not reach may be deleted. -/
namespace L2
open PySem PySem.Spec PyProof.Rows

/-- a key: an int or a str -/
abbrev Key := Sum Int Str
def keyIs : Key → Value → Bool
  | .inl k, v => Value.isInt k v
  | .inr x, v => Value.isStrOf x v
def keyH (w : World) : Key → Int
  | .inl k => hashInt k
  | .inr x => hashStr w x
theorem keyIs_shape : ∀ {k : Key} {v : Value}, keyIs k v = true → (∃ i t, k = Sum.inl i ∧ v = Value.int i t) ∨ (∃ x t, k = Sum.inr x ∧ v = Value.str x t)
  | .inl i, v, h => by
    obtain ⟨t, e⟩ := Value.isInt_shape (k := i) (v := v) h
    exact .inl ⟨i, t, rfl, e⟩
  | .inr x, v, h => by
    obtain ⟨t, e⟩ := Value.isStrOf_shape (x := x) (v := v) h
    exact .inr ⟨x, t, rfl, e⟩
theorem keyIs_int (i : Int) (t : Tok) : keyIs (.inl i) (.int i t) = true := by simp [keyIs, Value.isInt]
theorem keyIs_str (x : Str) (t : Tok) : keyIs (.inr x) (.str x t) = true := by simp [keyIs, Value.isStrOf]
theorem key_ll (a b : Int) : decide ((Sum.inl a : Key) = Sum.inl b) = (a == b) := by
  by_cases e : a = b
  · subst e; simp
  · have h : ¬ (Sum.inl a : Key) = Sum.inl b := fun q => e (Sum.inl.inj q)
    rw [decide_eq_false h]
    exact (beq_eq_false_iff_ne.mpr e).symm
theorem key_rr (a b : Str) : decide ((Sum.inr a : Key) = Sum.inr b) = decide (a = b) := by
  by_cases e : a = b
  · subst e; simp
  · have h : ¬ (Sum.inr a : Key) = Sum.inr b := fun q => e (Sum.inr.inj q)
    rw [decide_eq_false h, decide_eq_false e]
theorem key_lr (a : Int) (b : Str) : decide ((Sum.inl a : Key) = Sum.inr b) = false := decide_eq_false (fun q => nomatch q)
theorem key_rl (a : Str) (b : Int) : decide ((Sum.inr a : Key) = Sum.inl b) = false := decide_eq_false (fun q => nomatch q)

def mixKind (prog : Program) (w : World) : PySem.KeyKind prog w Key where
  is := keyIs
  hash := keyH w
  inj := fun v a b ha hb => by
    rcases keyIs_shape ha with ⟨i, t, rfl, rfl⟩ | ⟨x, t, rfl, rfl⟩
    · rcases keyIs_shape hb with ⟨j, u, rfl, e⟩ | ⟨y, u, rfl, e⟩
      · injection e with e1 _; rw [e1]
      · exact nomatch e
    · rcases keyIs_shape hb with ⟨j, u, rfl, e⟩ | ⟨y, u, rfl, e⟩
      · exact nomatch e
      · injection e with e1 _; rw [e1]
  byValue := fun k v h => by
    rcases keyIs_shape h with ⟨i, t, rfl, rfl⟩ | ⟨x, t, rfl, rfl⟩ <;> rfl
  pyHash := fun hv h => by
    rcases keyIs_shape hv with ⟨i, t, rfl, rfl⟩ | ⟨x, t, rfl, rfl⟩
    · exact wpAny_pyHash_int h
    · exact wpAny_pyHash_str h
  eqBool := fun hu hv h => by
    rcases keyIs_shape hu with ⟨i, t, rfl, rfl⟩ | ⟨x, t, rfl, rfl⟩
    · rcases keyIs_shape hv with ⟨j, u, rfl, rfl⟩ | ⟨y, u, rfl, rfl⟩
      · rw [key_ll] at h; exact wpAny_eqBool_int h
      · rw [key_lr] at h; exact SeqAt.EqAt.int_str i t y u _ _ _ _ h
    · rcases keyIs_shape hv with ⟨j, u, rfl, rfl⟩ | ⟨y, u, rfl, rfl⟩
      · rw [key_rl] at h; exact SeqAt.EqAt.str_int x t j u _ _ _ _ h
      · rw [key_rr] at h; exact wpAny_eqBool_str h
  «strs» := fun k x t v h => by
    rcases keyIs_shape h with ⟨i, u, rfl, e⟩ | ⟨y, u, rfl, e⟩
    · exact nomatch e
    · injection e with e1 _
      subst e1
      cases v <;> rfl

theorem mixKind_int (prog : Program) (w : World) (i : Int) (t : Tok) : (mixKind prog w).is (.inl i) (.int i t) = true := keyIs_int i t
theorem mixKind_str (prog : Program) (w : World) (x : Str) (t : Tok) : (mixKind prog w).is (.inr x) (.str x t) = true := keyIs_str x t
end L2

namespace L2
open PySem PySem.Spec PyProof.Rows

/-- a value, without the heap -/
inductive V where
  | non | bl (b : Bool) | int (i : Int) | str (x : Str) | byt (b : Array UInt8) | flt (b : UInt64) | ref (a : Addr) | ty (n : String)
  deriving DecidableEq

def RelV : V → Value → Prop
  | .non, u => u = Value.none
  | .bl b, u => u = Value.bool b
  | .int i, u => ∃ t, u = Value.int i t
  | .str x, u => ∃ t, u = Value.str x t
  | .byt b, u => ∃ t, u = Value.bytes b t
  | .flt b, u => ∃ t, u = Value.float b t
  | .ref a, u => u = Value.ref a
  | .ty n, u => u = Value.type n

abbrev Vals : List V → List Value → Prop := Paired RelV
theorem Vals.length {xs : List V} {us : List Value} (r : Vals xs us) : xs.length = us.length := Paired.length r
theorem Vals.get : ∀ {xs : List V} {us : List Value} {i : Nat} {x : V}, Vals xs us → xs[i]? = some x → ∃ u, us[i]? = some u ∧ RelV x u
  | _, _, _, _, .nil, e => by simp at e
  | _, _, 0, _, .cons r _, e => by simp at e; subst e; exact ⟨_, rfl, r⟩
  | _, _, i + 1, x, .cons _ t, e => by
    obtain ⟨u, h1, h2⟩ := Vals.get (i := i) (x := x) t (by simpa using e)
    exact ⟨u, by simpa using h1, h2⟩
theorem Vals.set {x : V} {u : Value} (r : RelV x u) : ∀ {xs : List V} {us : List Value} (i : Nat), Vals xs us → Vals (xs.set i x) (us.set i u)
  | _, _, _, .nil => .nil
  | _, _, 0, .cons _ t => .cons r t
  | _, _, i + 1, .cons q t => .cons q (Vals.set r i t)
theorem Vals.append : ∀ {xs ys : List V} {us ws : List Value}, Vals xs us → Vals ys ws → Vals (xs ++ ys) (us ++ ws)
  | _, _, _, _, .nil, s => s
  | _, _, _, _, .cons r t, s => .cons r (Vals.append t s)
theorem Vals.take : ∀ {xs : List V} {us : List Value} (n : Nat), Vals xs us → Vals (xs.take n) (us.take n)
  | _, _, 0, _ => .nil
  | _, _, _ + 1, .nil => .nil
  | _, _, n + 1, .cons r t => .cons r (Vals.take n t)
theorem Vals.drop : ∀ {xs : List V} {us : List Value} (n : Nat), Vals xs us → Vals (xs.drop n) (us.drop n)
  | _, _, 0, r => r
  | _, _, _ + 1, .nil => .nil
  | _, _, n + 1, .cons _ t => Vals.drop n t

def RelO : Option V → Option Value → Prop
  | some v, some u => RelV v u
  | none, none => True
  | _, _ => False
def KV {κ : Type} : List (κ × V) → List (κ × Value) → Prop := Paired fun (p : κ × V) (q : κ × Value) => p.1 = q.1 ∧ RelV p.2 q.2

/-- a key of a dict (00_mix): an int or a text -/
def kV : Key → V
  | .inl i => .int i
  | .inr x => .str x

/-- what stands at a tracked address -/
inductive HO where
  /-- a list -/
  | lst (xs : List V)
  /-- a tuple (never changes) -/
  | tup (xs : List V)
  /-- a dict whose keys are ints and texts; one whose keys are tuples of ints and texts (the empty one is both) -/
  | dK (kvs : List (Key × V)) | dT (kvs : List (List Key × V))
  /-- a set of ints: its members, its size -/
  | set (S : Int → Bool) (n : Nat)
  /-- an instance of the class at C, its dict at dx, its attributes -/
  | ins (C dx : Addr) (fs : List (Str × V))
  /-- the dict of the instance at x -/
  | own (x : Addr)
  /-- the dict of an exception -/
  | xd (fs : List (Str × V))
  /-- a bound method, f of x -/
  | met (f x : Addr)
  /-- a range object lo, lo + 1, .. below hi -/
  | rng (lo hi : Int)
  /-- a thing that is known to the object (the script; a dict while a loop walks it): read, never written while it is so -/
  | frz (o : Obj) (u : HO)
  /-- a code object's table -/
  | tbl (ps : Array Value)
  /-- any other thing, by what is true of its one object (a def of one's own: SetO a S n := HO.ext fun h => ..) -/
  | ext (φ : Heap → Prop)

abbrev Hp := Addr → Option HO
def upd (H : Hp) (a : Addr) (o : HO) : Hp := fun b => if b = a then some o else H b
theorem upd_same {H : Hp} {a : Addr} {o : HO} : upd H a o a = some o := by unfold upd; rw [if_pos rfl]
theorem upd_ne {H : Hp} {a b : Addr} {o : HO} (h : b ≠ a) : upd H a o b = H b := by unfold upd; rw [if_neg h]
theorem ne_of_none {H : Hp} {a b : Addr} {o : HO} (h : H a = some o) (h' : H b = none) : a ≠ b := by
  intro e; subst e; rw [h] at h'; cases h'

section
variable (P : Program) (w : World)
def ObjOk (H : Hp) (h : Heap) (a : Addr) : HO → Prop
  | .lst xs => xs.length ≤ sizeLine ∧ ∃ (its : List Value) (n : Nat), Vals xs its ∧ h.get? a = some { cls := .type "list", data := .seq its.toArray n }
  | .tup xs => xs.length ≤ sizeLine ∧ ∃ its : List Value, Vals xs its ∧ IsTup h a its.toArray
  | .dK kvs => kvs.length ≤ sizeLine ∧ (a == sysModules) = false ∧ ∃ vs, KV kvs vs ∧ h.DictOf (mixKind P w) a vs
  | .dT kvs => kvs.length ≤ sizeLine ∧ (a == sysModules) = false ∧ ∃ xs : List (List Key × Addr × Value),
      Paired (fun (p : List Key × V) (q : List Key × Addr × Value) => p.1 = q.1 ∧ H q.2.1 = some (.tup (p.1.map kV)) ∧ RelV p.2 q.2.2) kvs xs ∧
      ∃ o es ep, h.get? a = some o ∧ o.ExactDict ∧ o.data = .dict es ep ∧ es.toList = xs.map (entryOfKey (tupleKind (mixKind P w))) ∧ (xs.map (·.1)).Nodup
  | .set S n => h.SetOf (intKind P w) a S n
  | .ins C dx fs => H dx = some (.own a) ∧ fs.length ≤ 1000 ∧ dx ≠ a ∧ h.get? a = some (PySem.W.instObj C dx) ∧
      ∃ mA, h.Ns1 dx mA ∧ (∀ f, RelO (fs.lookup f) (mA f)) ∧ PySem.Within mA (fs.map (·.1))
  | .own _ => ∃ o, h.get? a = some o
  | .xd fs => ∃ mA, h.Ns1 a mA ∧ ∀ f, RelO (fs.lookup f) (mA f)
  | .rng lo hi => ∃ t u v, h.get? a = some { cls := .type "range", data := .fields #[.int lo t, .int hi u, .int 1 v] }
  | .frz o u => h.get? a = some o ∧ ObjOk H h a u
  | .tbl ps => h.get? a = some { cls := .none, data := .fields ps }
  | .met f x => h.get? a = some (PySem.W.methodObj (.ref f) (.ref x))
  | .ext φ => φ h ∧ (∃ o, h.get? a = some o) ∧ ∀ h1 h2 : Heap, φ h1 → (∀ o, h1.get? a = some o → h2.get? a = some o) → φ h2
/-- the abstract heap is held -/
def HOk (H : Hp) (h : Heap) : Prop := ∀ a o, H a = some o → ObjOk P w H h a o
end

section
variable {P : Program} {w : World} {H H' : Hp} {h h' : Heap} {a : Addr} {o : HO}
theorem ObjOk.lt (x : ObjOk P w H h a o) : a < h.objs.size := by
  cases o with
  | lst xs => obtain ⟨_, _, _, _, e⟩ := x; exact Heap.lt_size e
  | tup xs => obtain ⟨_, _, _, p⟩ := x; exact p.lt
  | dK kvs => obtain ⟨_, _, _, _, o, _, _, e, _⟩ := x; exact Heap.lt_size e
  | dT kvs => obtain ⟨_, _, _, _, o, _, _, e, _⟩ := x; exact Heap.lt_size e
  | set S n => obtain ⟨o, _, _, _, e, _⟩ := x; exact Heap.lt_size e
  | ins C dx fs => obtain ⟨_, _, _, e, _⟩ := x; exact Heap.lt_size e
  | own y => obtain ⟨_, e⟩ := x; exact Heap.lt_size e
  | xd fs => obtain ⟨_, ⟨_, _, _, e, _⟩, _⟩ := x; exact Heap.lt_size e
  | rng lo hi => obtain ⟨_, _, _, e⟩ := x; exact Heap.lt_size e
  | frz ob u => obtain ⟨e, _⟩ := x; exact Heap.lt_size e
  | tbl ps => exact Heap.lt_size (show h.get? a = some _ from x)
  | met f y => exact Heap.lt_size (show h.get? a = some _ from x)
  | ext φ => obtain ⟨_, ⟨_, e⟩, _⟩ := x; exact Heap.lt_size e
theorem Paired.mapP {α β : Type} {F G : α → β → Prop} : ∀ {l₁ : List α} {l₂ : List β}, Paired F l₁ l₂ → (∀ a b, F a b → G a b) → Paired G l₁ l₂
  | _, _, .nil, _ => .nil
  | _, _, .cons r t, f => .cons (f _ _ r) (Paired.mapP t f)
/-- what an object's description leans on: its own object, its own dict, the tuples -/
theorem ObjOk.stay (x : ObjOk P w H h a o) (k : ∀ b u, (b = a ∨ H b = some (.own a)) → h.get? b = some u → h'.get? b = some u)
    (ho : ∀ b, H b = some (.own a) → H' b = some (.own a)) (ht : ∀ b xs, H b = some (.tup xs) → H' b = some (.tup xs)) : ObjOk P w H' h' a o := by
  induction o with
  | lst xs => obtain ⟨z, its, n, r, e⟩ := x; exact ⟨z, its, n, r, k _ _ (.inl rfl) e⟩
  | tup xs => obtain ⟨z, its, r, ob, e, c⟩ := x; exact ⟨z, its, r, ob, k _ _ (.inl rfl) e, c⟩
  | dK kvs => obtain ⟨z, y, vs, r, ob, es, ep, e, c⟩ := x; exact ⟨z, y, vs, r, ob, es, ep, k _ _ (.inl rfl) e, c⟩
  | dT kvs =>
    obtain ⟨z, y, xs, r, ob, es, ep, e, c⟩ := x
    exact ⟨z, y, xs, Paired.mapP r fun p q z => ⟨z.1, ht _ _ z.2.1, z.2.2⟩, ob, es, ep, k _ _ (.inl rfl) e, c⟩
  | set S n => obtain ⟨ob, es, ep, t, e, c⟩ := x; exact ⟨ob, es, ep, t, k _ _ (.inl rfl) e, c⟩
  | ins C dx fs =>
    obtain ⟨d, z, ne, e, mA, ⟨od, es, ep, e2, c⟩, r⟩ := x
    exact ⟨ho _ d, z, ne, k _ _ (.inl rfl) e, mA, ⟨od, es, ep, k _ _ (.inr d) e2, c⟩, r⟩
  | own y => obtain ⟨ob, e⟩ := x; exact ⟨ob, k _ _ (.inl rfl) e⟩
  | xd fs => obtain ⟨mA, ⟨od, es, ep, e, c⟩, r⟩ := x; exact ⟨mA, ⟨od, es, ep, k _ _ (.inl rfl) e, c⟩, r⟩
  | rng lo hi => obtain ⟨t, u, v, e⟩ := x; exact ⟨t, u, v, k _ _ (.inl rfl) e⟩
  | frz ob u ih => obtain ⟨e, q⟩ := x; exact ⟨k _ _ (.inl rfl) e, ih q⟩
  | tbl ps =>
    have e : h.get? a = some { cls := .none, data := .fields ps } := x
    show h'.get? a = some { cls := .none, data := .fields ps }
    exact k a _ (.inl rfl) e
  | met f y =>
    have e : h.get? a = some (PySem.W.methodObj (.ref f) (.ref y)) := x
    show h'.get? a = some (PySem.W.methodObj (.ref f) (.ref y))
    exact k a _ (.inl rfl) e
  | ext φ => obtain ⟨p, ⟨o, e⟩, st⟩ := x; exact ⟨st _ _ p fun o q => k _ _ (.inl rfl) q, ⟨o, k _ _ (.inl rfl) e⟩, st⟩
theorem HOk.lt (x : HOk P w H h) (e : H a = some o) : a < h.objs.size := (x a o e).lt
theorem HOk.fresh (x : HOk P w H h) (e : h.objs.size ≤ a) : H a = none := by
  cases q : H a with
  | none => rfl
  | some u => exact absurd (Nat.lt_of_lt_of_le (x.lt q) e) (Nat.lt_irrefl _)
/-- every object of the heap is kept -/
theorem HOk.kept (x : HOk P w H h) (k : ∀ b u, h.get? b = some u → h'.get? b = some u) : HOk P w H h' := fun a o e =>
  (x a o e).stay (fun b u _ q => k b u q) (fun _ q => q) fun _ _ q => q
/-- a new object is laid and tracked -/
theorem HOk.laid (x : HOk P w H h) (k : ∀ b u, h.get? b = some u → h'.get? b = some u) (hp : h.objs.size ≤ a) (new : ObjOk P w (upd H a o) h' a o) : HOk P w (upd H a o) h' := fun b u e => by
  have hn := x.fresh hp
  by_cases hb : b = a
  · subst hb; rw [upd_same] at e; cases e; exact new
  · rw [upd_ne hb] at e
    exact (x b u e).stay (fun c v _ q => k c v q) (fun c q => by rw [upd_ne (ne_of_none q hn)]; exact q) fun c xs q => by rw [upd_ne (ne_of_none q hn)]; exact q
end

/-- what may be read as u: it is u, or a known u -/
def Rd (H : Hp) (a : Addr) (u : HO) : Prop := H a = some u ∨ ∃ o, H a = some (.frz o u)
theorem Rd.ok {P : Program} {w : World} {H : Hp} {h : Heap} {a : Addr} {u : HO} (r : Rd H a u) (x : HOk P w H h) : ObjOk P w H h a u := by
  rcases r with r | ⟨o, r⟩
  · exact x a u r
  · obtain ⟨_, q⟩ := x a _ r
    exact q
/-- what may be written -/
def Mut : Option HO → Prop
  | some (.lst _) => True
  | some (.dK _) => True
  | some (.dT _) => True
  | some (.set _ _) => True
  | some (.ins _ _ _) => True
  | some (.ext _) => True
  | _ => False
section
variable {P : Program} {w : World} {H : Hp} {h h' : Heap} {x e : Addr} {o' : HO}
/-- the object at e is changed: x itself, or the dict of the instance x -/
theorem HOk.write (ok : HOk P w H h) (mu : Mut (H x)) (he : e = x ∨ H e = some (.own x)) (k : ∀ b u, b ≠ e → h.get? b = some u → h'.get? b = some u) (heo : ∃ u, h'.get? e = some u)
    (new : ObjOk P w (upd H x o') h' x o') : HOk P w (upd H x o') h' := fun b u q => by
  have nown : ∀ c y, H c = some (.own y) → c ≠ x := fun c y r z => by subst z; rw [r] at mu; exact mu
  have ntup : ∀ c xs, H c = some (.tup xs) → c ≠ x := fun c xs r z => by subst z; rw [r] at mu; exact mu
  by_cases hb : b = x
  · subst hb; rw [upd_same] at q; cases q; exact new
  · rw [upd_ne hb] at q
    by_cases hbe : b = e
    · have q' : H b = some (.own x) := by
        rcases he with z | z
        · exact absurd (hbe.trans z) hb
        · rw [hbe]; exact z
      rw [q] at q'; cases q'
      obtain ⟨v, hv⟩ := heo
      exact ⟨v, by rw [hbe]; exact hv⟩
    · refine (ok b u q).stay (fun c v hc r => k c v ?_ r) (fun c r => by rw [upd_ne (nown c b r)]; exact r) fun c xs r => by rw [upd_ne (ntup c xs r)]; exact r
      rcases hc with rfl | hc
      · exact hbe
      · rintro rfl
        rcases he with z | z
        · exact nown c b hc z
        · rw [hc] at z; cases z; exact hb rfl
end

/-! ### kept unless tracked; of the frames at fs (the callers') the slots may change (an exception that passes writes there); of the records at ex (iterators) nothing is said -/
structure Un (fs ex : List Addr) (H H' : Hp) (h h' : Heap) : Prop where
  keep : ∀ b o, h.get? b = some o → H b = none → b ∉ fs → b ∉ ex → h'.get? b = some o
  slot : ∀ b o, h.get? b = some o → H b = none → b ∈ fs → b ∉ ex → ∃ sl, h'.get? b = some { o with slots := sl }
  free : ∀ b o, h.get? b = some o → H b = none → b ∉ ex → H' b = none
  there : ∀ b o, h.get? b = some o → b ∉ ex → ∃ o', h'.get? b = some o'
  tups : ∀ b xs, H b = some (.tup xs) → H' b = some (.tup xs)
  frzs : ∀ b o u, H b = some (.frz o u) → H' b = some (.frz o u)
  tbls : ∀ b ps, H b = some (.tbl ps) → ∃ more, H' b = some (.tbl (ps ++ more))
section
variable {fs fs' ex ex' : List Addr} {H H1 H2 : Hp} {h h1 h2 h' : Heap} {a x e : Addr} {o : HO}
theorem Un.any (u : Un fs ex H H1 h h1) {b : Addr} {ob : Obj} (q : h.get? b = some ob) (n : H b = none) (hx : b ∉ ex) : ∃ sl, h1.get? b = some { ob with slots := sl } := by
  by_cases hb : b ∈ fs
  · exact u.slot b ob q n hb hx
  · exact ⟨ob.slots, u.keep b ob q n hb hx⟩
theorem Un.kept (k : ∀ b u, h.get? b = some u → h'.get? b = some u) : Un fs ex H H h h' :=
  ⟨fun b ob q _ _ _ => k b ob q, fun b ob q _ _ _ => ⟨ob.slots, k b ob q⟩, fun _ _ _ n _ => n, fun b ob q _ => ⟨ob, k b ob q⟩, fun _ _ q => q, fun _ _ _ q => q, fun _ ps q => ⟨#[], by rw [q]; simp⟩⟩
theorem Un.refl : Un fs ex H H h h := Un.kept fun _ _ q => q
theorem Un.laid (k : ∀ b u, h.get? b = some u → h'.get? b = some u) (hp : h.objs.size ≤ a) (hn : H a = none) : Un fs ex H (upd H a o) h h' where
  keep := fun b u q _ _ _ => k b u q
  slot := fun b u q _ _ _ => ⟨u.slots, k b u q⟩
  free := fun b u q n _ => by rw [upd_ne (Nat.ne_of_lt (Nat.lt_of_lt_of_le (Heap.lt_size q) hp))]; exact n
  there := fun b u q _ => ⟨u, k b u q⟩
  tups := fun b xs q => by rw [upd_ne (ne_of_none q hn)]; exact q
  frzs := fun b u xs q => by rw [upd_ne (ne_of_none q hn)]; exact q
  tbls := fun b ps q => ⟨#[], by rw [upd_ne (ne_of_none q hn), q]; simp⟩
theorem Un.write (mu : Mut (H x)) (he : e = x ∨ H e = some (.own x)) (k : ∀ b u, b ≠ e → h.get? b = some u → h'.get? b = some u) (heo : ∃ u, h'.get? e = some u) : Un fs ex H (upd H x o) h h' := by
  have hx : ∀ b, H b = none → b ≠ x := fun b n z => by subst z; rw [n] at mu; exact mu
  have hb : ∀ b, H b = none → b ≠ e := fun b n z => by
    subst z
    rcases he with r | r
    · exact hx b n r
    · rw [n] at r; cases r
  have hm : ∀ b u, H b = some u → ¬ Mut (some u) → b ≠ x := fun b u q nm z => by subst z; rw [q] at mu; exact nm mu
  refine ⟨fun b u q n _ _ => k b u (hb b n) q, fun b u q n _ _ => ⟨u.slots, k b u (hb b n) q⟩, fun b u q n _ => by rw [upd_ne (hx b n)]; exact n, fun b u q _ => ?_,
    fun b xs q => by rw [upd_ne (hm b _ q fun z => z)]; exact q, fun b u xs q => by rw [upd_ne (hm b _ q fun z => z)]; exact q, fun b ps q => ⟨#[], by rw [upd_ne (hm b _ q fun z => z), q]; simp⟩⟩
  by_cases hbe : b = e
  · subst hbe; exact heo
  · exact ⟨u, k b u hbe q⟩
end

/-! ### the heap without what is tracked -/
def trk (h : Heap) (H : Hp) : List Addr := (List.range h.objs.size).filter fun a => (H a).isSome
def hidT (h : Heap) (H : Hp) : Heap := PySem.W.hideAll h (trk h H)
theorem hidT_size (h : Heap) (H : Hp) : (hidT h H).objs.size = h.objs.size := PySem.W.hideAll_size _ _
theorem hidT_get {h : Heap} {H : Hp} {b : Addr} {o : Obj} (e : h.get? b = some o) (n : H b = none) : (hidT h H).get? b = some o :=
  PySem.W.hideAll_get _ e fun hm => by
    have q : (H b).isSome = true := (List.mem_filter.mp hm).2
    rw [n] at q; simp at q
theorem of_hidT {h : Heap} {H : Hp} {b : Addr} {o : Obj} (e : (hidT h H).get? b = some o) : h.get? b = some o ∧ H b = none := by
  have e' : h.get? b = some o := PySem.W.of_hideAll (trk h H) e
  refine ⟨e', ?_⟩
  cases q : H b with
  | none => rfl
  | some x =>
    have hm : b ∈ trk h H := List.mem_filter.mpr ⟨List.mem_range.mpr (Heap.lt_size e'), by simp [q]⟩
    have z : (hidT h H).get? b = none := PySem.W.hideAll_none (trk h H) hm
    rw [z] at e; cases e

/-! ### OpenK's ledger, filled with every new object but one -/
end L2

namespace L2
open PySem PySem.Spec PyProof.Rows

/-- the module's facts, over the base: the heap at the law's entry without what is tracked there -/
structure Mod (K : PySem.W.Frag) (mg : Str → Option Value) (base : Heap) : Prop where
  kin : K.In base
  glob : base.Ns mainGlobals mg
  blt : ∃ mb, base.Ns builtinsNs mb ∧ ∀ x : Str, x ≠ "__name__" → mb x = bootBuiltins x
  nolimit : base.NoLimit

/-- the context: a def's body (or a comprehension's block) running. base: fixed through the whole law; s₀, H₀: the entry; outer: the frames whose slots others may change (a def's callers); stack: all frames that run;
   ex: iterators that were made ahead of the entry and are walked here (a comprehension's); fn: the names whose cells were made at the entry (a def: all; a comprehension's block: its own); calm: not within an except suite; pn: pins that every state bears; xe: what is wanted of an exception that leaves the code -/
structure Cx where
  prog : Program
  w : World
  K : PySem.W.Frag
  mg : Str → Option Value
  base : Heap
  A : Around
  N : List Str
  s₀ : Shared
  H₀ : Hp
  env : Env
  outer : List Env
  stack : List Env
  ex : List Addr
  fn : Str → Bool
  calm : Bool
  pn : List (Addr × Obj)
  xe : Value → Shared → Prop
/-- the callers' frames -/
def frs (l : List Env) : List Addr := l.filterMap (·.frame)
abbrev Cx.fs (X : Cx) : List Addr := frs X.outer

def Vis (sc : Scope) (x : Str) : Prop := sc.names.lookup x = some .local ∨ sc.names.lookup x = some .cell ∨ sc.names.lookup x = some .free
def Loc (sc : Scope) (x : Str) : Prop := sc.names.lookup x = some .local ∨ sc.names.lookup x = some .cell
def Look (env : Env) (h : Heap) (m : Str → Option Value) (x : Str) (u : Value) : Prop :=
  (env.kindOf x = some .local ∧ m x = some u) ∨ ((env.kindOf x = some .cell ∨ env.kindOf x = some .free) ∧ ∃ c, env.cells.lookup x = some c ∧ h.IsCell c (some u))

structure Cx.Ok (X : Cx) : Prop where
  mod : Mod X.K X.mg X.base
  kind : X.env.scope.kind = .function
  glob : X.env.globals = mainGlobals
  blt : X.env.builtins = builtinsNs
  above : X.s₀.heap.objs.size ≤ X.env.locals
  inj : ∀ x y c, X.env.cells.lookup x = some c → X.env.cells.lookup y = some c → x = y
  has : ∀ x, (X.env.kindOf x = some .cell ∨ X.env.kindOf x = some .free) → ∃ c, X.env.cells.lookup x = some c
  cab : ∀ x c, X.fn x = true → X.env.cells.lookup x = some c → X.s₀.heap.objs.size ≤ c
  hd : X.calm = true → X.A.handled = none
  frames : X.A.frames = some X.stack
  stk : X.stack = X.outer ∨ (X.stack = X.env :: X.outer ∧ X.env.frame = some X.env.locals)
  exf : ∀ b ∈ X.ex, b ≠ X.env.locals ∧ ∀ x c, X.env.cells.lookup x = some c → c ≠ b
  bs : ∀ b o, X.base.get? b = some o → X.s₀.heap.get? b = some o ∧ X.H₀ b = none
  bsz : X.base.objs.size ≤ X.s₀.heap.objs.size
  noex : ∀ b o, X.base.get? b = some o → b ∉ X.ex
  exfs : ∀ b ∈ X.ex, b ∉ X.fs
  funs : X.s₀.heap.FunFrames X.base X.outer
  frf : ∀ b ∈ X.fs, X.H₀ b = none

structure Inv (X : Cx) (pins : List (Addr × Obj)) (σ : List (Option V)) (H : Hp) (s : Shared) : Prop where
  ok : X.Ok
  os : s.os = X.s₀.os
  bare : AllBare s.gens
  base : Un X.fs X.ex X.H₀ H X.s₀.heap s.heap
  loc : ∃ m, s.heap.Ns X.env.locals m ∧ ∀ (i : Nat) (x : Str) (v : V), X.N[i]? = some x → σ[i]? = some (some v) → Vis X.env.scope x → ∃ u, RelV v u ∧ Look X.env s.heap m x u
  cell : ∀ x c, X.env.cells.lookup x = some c → ∃ v, s.heap.IsCell c v
  free : H X.env.locals = none
  freeC : ∀ x c, X.env.cells.lookup x = some c → H c = none
  pin : ∀ p ∈ X.pn ++ pins, s.heap.get? p.1 = some p.2 ∧ H p.1 = none ∧ p.1 ≠ X.env.locals ∧ p.1 ∉ X.fs ∧ ∀ v, p.2.data ≠ .cell v
  hok : HOk X.prog X.w H s.heap
  len : σ.length = X.N.length

section
variable {X : Cx} {pins : List (Addr × Obj)} {σ : List (Option V)} {H H' : Hp} {s : Shared} {h' : Heap}

theorem Cx.Ok.nofr (ok : X.Ok) {b : Addr} {o : Obj} (e : X.base.get? b = some o) : b ∉ X.fs := fun hb => by
  have := (ok.funs.mem hb).1
  rw [e] at this; cases this
theorem Inv.bs (I : Inv X pins σ H s) : ∀ b o, X.base.get? b = some o → s.heap.get? b = some o ∧ H b = none := fun b o e =>
  ⟨I.base.keep b o (I.ok.bs b o e).1 (I.ok.bs b o e).2 (I.ok.nofr e) (I.ok.noex b o e), I.base.free b o (I.ok.bs b o e).1 (I.ok.bs b o e).2 (I.ok.noex b o e)⟩
theorem Inv.bk (I : Inv X pins σ H s) : ∀ b o, X.base.get? b = some o → s.heap.get? b = some o := fun b o e => (I.bs b o e).1
theorem Inv.mod (I : Inv X pins σ H s) : Mod X.K X.mg X.base := I.ok.mod
theorem Inv.kIn (I : Inv X pins σ H s) : X.K.In s.heap := I.ok.mod.kin.keeps I.bk
theorem Inv.lt (I : Inv X pins σ H s) : X.env.locals < s.heap.objs.size := let ⟨_, hn, _⟩ := I.loc; hn.lt
theorem Inv.sz (I : Inv X pins σ H s) : X.s₀.heap.objs.size ≤ s.heap.objs.size := Nat.le_trans I.ok.above (Nat.le_of_lt I.lt)
theorem Inv.nofs (I : Inv X pins σ H s) {a : Addr} (h : s.heap.objs.size ≤ a) : a ∉ X.fs := fun hb => by
  obtain ⟨_, o, ho, _⟩ := I.ok.funs.mem hb
  exact absurd (Nat.lt_of_lt_of_le (Heap.lt_size ho) (Nat.le_trans I.sz h)) (Nat.lt_irrefl _)
theorem Inv.cne (I : Inv X pins σ H s) : ∀ x c, X.env.cells.lookup x = some c → c ≠ X.env.locals := fun x c e z => by
  obtain ⟨v, o, ho, hd⟩ := I.cell x c e
  obtain ⟨m, ⟨o', es, ep, ho', hd', _⟩, _⟩ := I.loc
  rw [z, ho'] at ho; cases ho; rw [hd'] at hd; cases hd
theorem Inv.funs (I : Inv X pins σ H s) : s.heap.FunFrames X.base X.outer := by
  have all : ∀ (l : List Env), (∀ b ∈ frs l, b ∈ X.fs) → X.s₀.heap.FunFrames X.base l → s.heap.FunFrames X.base l := by
    intro l
    induction l with
    | nil => intro _ _; trivial
    | cons env r ih =>
      intro hs hl
      obtain ⟨hk, ⟨L, o, hf, hn, ho, hd⟩, hr⟩ := hl
      have hL : L ∈ X.fs := hs L (by unfold frs; rw [List.filterMap_cons, hf]; exact List.mem_cons_self)
      obtain ⟨sl, e⟩ := I.base.slot L o ho (I.ok.frf L hL) hL fun z => I.ok.exfs L z hL
      exact ⟨hk, ⟨L, _, hf, hn, e, hd⟩, ih (fun b hb => hs b (by unfold frs; rw [List.filterMap_cons, hf]; exact List.mem_cons_of_mem _ hb)) hr⟩
  exact all X.outer (fun _ hb => hb) I.ok.funs

/-- the frames that run, for a call -/
theorem Inv.stack (I : Inv X pins σ H s) : s.heap.FunFrames X.base X.stack := by
  rcases I.ok.stk with e | ⟨e, hf⟩
  · rw [e]; exact I.funs
  · rw [e]
    obtain ⟨m, hn, _⟩ := I.loc
    refine .cons (by rw [I.ok.kind]; decide) hf hn ?_ I.funs
    exact Heap.get?_none_of_le (Nat.le_trans I.ok.bsz I.ok.above)
theorem Inv.stkSub (I : Inv X pins σ H s) : ∀ b ∈ frs X.stack, b ∈ X.env.locals :: X.fs := fun b hb => by
  rcases I.ok.stk with e | ⟨e, hf⟩
  · rw [e] at hb; exact List.mem_cons_of_mem _ hb
  · rw [e] at hb
    unfold frs at hb
    rw [List.filterMap_cons, hf] at hb
    exact hb
theorem Inv.stkFree (I : Inv X pins σ H s) : ∀ b ∈ frs X.stack, H b = none := fun b hb => by
  rcases List.mem_cons.mp (I.stkSub b hb) with e | hb
  · rw [e]; exact I.free
  · obtain ⟨_, o, ho, _⟩ := I.ok.funs.mem hb
    exact I.base.free b o ho (I.ok.frf b hb) fun z => I.ok.exfs b z hb

/-- THE STEP: the untracked objects but the frame and the records at ch are kept (the callers' frames up to slots), the frame's map is kept, the new abstract heap is held -/
theorem Inv.step {g' : Array GenState} {t' : Nat} {d' : Drawn} {ch : List Addr} (I : Inv X pins σ H s)
    (hch : ∀ b ∈ ch, (b ∈ X.ex ∨ X.s₀.heap.objs.size ≤ b) ∧ b ≠ X.env.locals ∧ (∀ x c, X.env.cells.lookup x = some c → c ≠ b) ∧ ∀ p ∈ X.pn ++ pins, p.1 ≠ b)
    (keep : ∀ b o, b ≠ X.env.locals → b ∉ X.fs → b ∉ ch → s.heap.get? b = some o → H b = none → h'.get? b = some o)
    (slot : ∀ b o, b ≠ X.env.locals → b ∈ X.fs → b ∉ ch → s.heap.get? b = some o → H b = none → ∃ sl, h'.get? b = some { o with slots := sl }) (free : ∀ b o, b ∉ ch → s.heap.get? b = some o → H b = none → H' b = none)
    (there : ∀ b o, b ∉ ch → s.heap.get? b = some o → ∃ o', h'.get? b = some o')
    (tups : ∀ b xs, H b = some (.tup xs) → H' b = some (.tup xs)) (frzs : ∀ b o u, H b = some (.frz o u) → H' b = some (.frz o u)) (tbls : ∀ b ps, H b = some (.tbl ps) → ∃ more, H' b = some (.tbl (ps ++ more)))
    (ns : ∀ m, s.heap.Ns X.env.locals m → h'.Ns X.env.locals m) (hok : HOk X.prog X.w H' h') (hg : AllBare g') :
    Inv X pins σ H' { s with heap := h', gens := g', drawn := d', toks := t' } := by
  have neL : ∀ b o, X.s₀.heap.get? b = some o → b ≠ X.env.locals := fun b o e => Nat.ne_of_lt (Nat.lt_of_lt_of_le (Heap.lt_size e) I.ok.above)
  have neC : ∀ b o, X.s₀.heap.get? b = some o → b ∉ X.ex → b ∉ ch := fun b o e hx hb => by
    rcases (hch b hb).1 with z | z
    · exact hx z
    · exact absurd (Nat.lt_of_lt_of_le (Heap.lt_size e) z) (Nat.lt_irrefl _)
  have cellK : ∀ x c, X.env.cells.lookup x = some c → ∀ v, s.heap.IsCell c v → h'.IsCell c v := fun x c e v ⟨o, ho, hd⟩ => by
    have nch : c ∉ ch := fun z => (hch c z).2.2.1 x c e rfl
    by_cases hc : c ∈ X.fs
    · obtain ⟨sl, q⟩ := slot c o (I.cne x c e) hc nch ho (I.freeC x c e)
      exact ⟨_, q, hd⟩
    · exact ⟨o, keep c o (I.cne x c e) hc nch ho (I.freeC x c e), hd⟩
  refine ⟨I.ok, I.os, hg, ⟨fun b o e n hb hx => ?_, fun b o e n hb hx => ?_, fun b o e n hx => ?_, fun b o e hx => ?_, fun b xs e => tups b xs (I.base.tups b xs e), fun b o xs e => frzs b o xs (I.base.frzs b o xs e), fun b ps e => ?_⟩, ?_, fun x c e => ?_, ?_, fun x c e => ?_, fun p hp => ?_, hok, I.len⟩
  · exact keep b o (neL b o e) hb (neC b o e hx) (I.base.keep b o e n hb hx) (I.base.free b o e n hx)
  · obtain ⟨sl, e1⟩ := I.base.slot b o e n hb hx
    obtain ⟨sl', e2⟩ := slot b _ (neL b o e) hb (neC b o e hx) e1 (I.base.free b o e n hx)
    exact ⟨sl', e2⟩
  · obtain ⟨o', e1⟩ := I.base.there b o e hx
    exact free b o' (neC b o e hx) e1 (I.base.free b o e n hx)
  · obtain ⟨o', e1⟩ := I.base.there b o e hx
    exact there b o' (neC b o e hx) e1
  · obtain ⟨m1, e1⟩ := I.base.tbls b ps e
    obtain ⟨m2, e2⟩ := tbls b _ e1
    exact ⟨m1 ++ m2, by rw [e2, Array.append_assoc]⟩
  · obtain ⟨m, hn, hl⟩ := I.loc
    refine ⟨m, ns m hn, fun i x v e1 e2 e3 => ?_⟩
    obtain ⟨u, r, l⟩ := hl i x v e1 e2 e3
    refine ⟨u, r, ?_⟩
    rcases l with l | ⟨k, c, e, z⟩
    · exact .inl l
    · exact .inr ⟨k, c, e, cellK x c e _ z⟩
  · obtain ⟨v, z⟩ := I.cell x c e
    exact ⟨v, cellK x c e v z⟩
  · obtain ⟨m, ⟨o, _, _, ho, _⟩, _⟩ := I.loc
    exact free _ o (fun z => (hch _ z).2.1 rfl) ho I.free
  · obtain ⟨v, o, ho, hd⟩ := I.cell x c e
    exact free c o (fun z => (hch c z).2.2.1 x c e rfl) ho (I.freeC x c e)
  · obtain ⟨e, n, ne, nf, d⟩ := I.pin p hp
    have nch : p.1 ∉ ch := fun z => (hch p.1 z).2.2.2 p hp rfl
    exact ⟨keep p.1 p.2 ne nf nch e n, free p.1 p.2 nch e n, ne, nf, d⟩
/-- .. where the frame's own object is kept too -/
theorem Inv.un {t' : Nat} (I : Inv X pins σ H s) (u : Un X.fs [] H H' s.heap h') (hok : HOk X.prog X.w H' h') : Inv X pins σ H' { s with heap := h', toks := t' } := by
  obtain ⟨m, ⟨o, es, ep, ho, r⟩, _⟩ := id I.loc
  obtain ⟨sl, hL⟩ := u.any ho I.free (by simp)
  exact I.step (g' := s.gens) (d' := s.drawn) (ch := []) (fun _ z => nomatch z) (fun b o _ hb _ e n => u.keep b o e n hb (by simp)) (fun b o _ hb _ e n => u.slot b o e n hb (by simp)) (fun b o _ e n => u.free b o e n (by simp)) (fun b o _ e => u.there b o e (by simp)) u.tups u.frzs u.tbls (fun m' hm => by
    obtain ⟨o', es', ep', ho', r'⟩ := hm
    rw [ho] at ho'; cases ho'
    exact ⟨_, es', ep', hL, r'⟩) hok I.bare
/-- behind a call (or a comprehension's block): the slots of this frame may have changed too, the records at ch may have turned -/
theorem Inv.call {g' : Array GenState} {t' : Nat} {d' : Drawn} {ch : List Addr} (I : Inv X pins σ H s) (u : Un (frs X.stack) ch H H' s.heap h') (hok : HOk X.prog X.w H' h') (hg : AllBare g')
    (hch : ∀ b ∈ ch, (b ∈ X.ex ∨ X.s₀.heap.objs.size ≤ b) ∧ b ≠ X.env.locals ∧ (∀ x c, X.env.cells.lookup x = some c → c ≠ b) ∧ ∀ p ∈ X.pn ++ pins, p.1 ≠ b) :
    Inv X pins σ H' { s with heap := h', gens := g', drawn := d', toks := t' } := by
  obtain ⟨m, ⟨o, es, ep, ho, r⟩, _⟩ := id I.loc
  obtain ⟨sl, hL⟩ := u.any ho I.free fun z => (hch _ z).2.1 rfl
  exact I.step (ch := ch) hch (fun b o hL hb hc e n => u.keep b o e n (fun z => (List.mem_cons.mp (I.stkSub b z)).elim hL hb) hc) (fun b o _ _ hc e n => u.any e n hc) (fun b o hc e n => u.free b o e n hc) (fun b o hc e => u.there b o e hc) u.tups u.frzs u.tbls (fun m' hm => by
    obtain ⟨o', es', ep', ho', r'⟩ := hm
    rw [ho] at ho'; cases ho'
    exact ⟨_, es', ep', hL, r'⟩) hok hg
/-- an untracked record of ours (an iterator) has turned -/
theorem Inv.turned {t' : Nat} {it : Addr} (I : Inv X pins σ H s) (k : ∀ b o, b ≠ it → s.heap.get? b = some o → h'.get? b = some o) (hn : H it = none) (hL : it ≠ X.env.locals)
    (h1 : it ∈ X.ex ∨ X.s₀.heap.objs.size ≤ it) (h2 : ∀ x c, X.env.cells.lookup x = some c → c ≠ it) (h3 : ∀ p ∈ X.pn ++ pins, p.1 ≠ it) : Inv X pins σ H { s with heap := h', toks := t' } := by
  have nit : ∀ b u, H b = some u → b ≠ it := fun b u e z => by rw [z, hn] at e; cases e
  refine I.step (g' := s.gens) (d' := s.drawn) (ch := [it]) (fun b hb => ?_) (fun b o _ _ hc e _ => k b o (fun z => hc (by simp [z])) e) (fun b o _ _ hc e _ => ⟨o.slots, k b o (fun z => hc (by simp [z])) e⟩) (fun _ _ _ _ n => n)
    (fun b o hc e => ⟨o, k b o (fun z => hc (by simp [z])) e⟩) (fun _ _ e => e) (fun _ _ _ e => e) (fun b ps e => ⟨#[], by rw [e]; simp⟩) (fun m hm => ?_) (fun b u e => ?_) I.bare
  · have e : b = it := by simpa using hb
    subst e
    exact ⟨h1, hL, h2, h3⟩
  · obtain ⟨o, es, ep, ho, r⟩ := hm
    exact ⟨o, es, ep, k _ o (Ne.symm hL) ho, r⟩
  · refine (I.hok b u e).stay (fun c v hc q => k c v ?_ q) (fun _ q => q) fun _ _ q => q
    rcases hc with z | z
    · rw [z]; exact nit b u e
    · exact nit c _ z
theorem Inv.tok (I : Inv X pins σ H s) (t : Nat) : Inv X pins σ H { s with toks := t } := I.un (h' := s.heap) (t' := t) Un.refl I.hok
/-- all objects kept -/
theorem Inv.kept {t' : Nat} (I : Inv X pins σ H s) (k : ∀ b u, s.heap.get? b = some u → h'.get? b = some u) : Inv X pins σ H { s with heap := h', toks := t' } := I.un (Un.kept k) (I.hok.kept k)
/-- a new object laid and tracked -/
theorem Inv.laid {a : Addr} {o : HO} {t' : Nat} (I : Inv X pins σ H s) (k : ∀ b u, s.heap.get? b = some u → h'.get? b = some u) (hp : s.heap.objs.size ≤ a) (new : ObjOk X.prog X.w (upd H a o) h' a o) :
    Inv X pins σ (upd H a o) { s with heap := h', toks := t' } := I.un (Un.laid k hp (I.hok.fresh hp)) (I.hok.laid k hp new)
/-- an object written -/
theorem Inv.write {x e : Addr} {o : HO} {t' : Nat} (I : Inv X pins σ H s) (mu : Mut (H x)) (he : e = x ∨ H e = some (.own x)) (k : ∀ b u, b ≠ e → s.heap.get? b = some u → h'.get? b = some u) (heo : ∃ u, h'.get? e = some u)
    (new : ObjOk X.prog X.w (upd H x o) h' x o) : Inv X pins σ (upd H x o) { s with heap := h', toks := t' } := I.un (Un.write mu he k heo) (I.hok.write mu he k heo new)
theorem Inv.pins_of {pins' : List (Addr × Obj)} (I : Inv X pins σ H s) (h : ∀ p ∈ pins', s.heap.get? p.1 = some p.2 ∧ H p.1 = none ∧ p.1 ≠ X.env.locals ∧ p.1 ∉ X.fs ∧ ∀ v, p.2.data ≠ .cell v) : Inv X pins' σ H s :=
  ⟨I.ok, I.os, I.bare, I.base, I.loc, I.cell, I.free, I.freeC, fun p hp => (List.mem_append.mp hp).elim (fun z => I.pin p (List.mem_append_left _ z)) (h p), I.hok, I.len⟩

theorem nodup_ix {N : List Str} (hN : N.Nodup) {i j : Nat} {x : Str} (a : N[i]? = some x) (b : N[j]? = some x) : i = j := by
  obtain ⟨h1, e1⟩ := List.getElem?_eq_some_iff.mp a
  obtain ⟨h2, e2⟩ := List.getElem?_eq_some_iff.mp b
  exact (List.getElem_inj hN).mp (e1.trans e2.symm)

/-- a name is stored; what changed -/
theorem store_ok2 {M : Model} {A : Around} {E : Value → Shared → Prop} {i : Nat} {x : Str} {v : V} {u : Value} {Q : Unit → Shared → Prop} (I : Inv X pins σ H s) (hN : X.N.Nodup) (hi : X.N[i]? = some x) (hx : Loc X.env.scope x) (r : RelV v u)
    (h : ∀ s', Inv X pins (σ.set i (some v)) H s' → (∃ a, Heap.SameBut a s.heap s'.heap ∧ (a = X.env.locals ∨ X.env.cells.lookup x = some a)) → Q () s') (hf : X.fn x = true ∨ X.env.scope.names.lookup x = some .local := by first | exact .inl rfl | exact .inr rfl | assumption) : wpAny M A (storeName X.env x u) Q E s := by
  obtain ⟨m, hn, hl⟩ := id I.loc
  have hcls : (X.env.scope.kind == .class || (X.env.scope.kind == .module && X.env.locals != X.env.globals)) = false := by rw [I.ok.kind]; rfl
  have hiσ : i < σ.length := by rw [I.len]; exact (List.getElem?_eq_some_iff.mp hi).1
  have cne := I.cne
  have tracked : ∀ {a : Addr} {h' : Heap}, (∃ o, s.heap.get? a = some o ∧ H a = none) → Heap.SameBut a s.heap h' → HOk X.prog X.w H h' := fun {a h'} ha hs b ob e => by
    obtain ⟨_, _, hfree⟩ := ha
    refine (I.hok b ob e).stay (fun c w' hc q => (hs.2 c ?_).trans q) (fun _ q => q) fun _ _ q => q
    rintro rfl
    rcases hc with rfl | hc
    · rw [hfree] at e; cases e
    · rw [hfree] at hc; cases hc
  rcases hx with hk | hk
  · refine wpAny_storeName_local hk hn (fun h' hn' hs => ?_) hcls
    obtain ⟨oL, _, _, hoL, _⟩ := id hn
    refine h _ ⟨I.ok, I.os, I.bare, ⟨fun b o e n hb hx => ?_, fun b o e n hb hx => ?_, I.base.free, fun b o e hx => ?_, I.base.tups, I.base.frzs, I.base.tbls⟩, ⟨_, hn', fun j y v' e1 e2 e3 => ?_⟩, fun y c e => ?_, I.free, I.freeC, fun p hp => ?_, tracked ⟨oL, hoL, I.free⟩ hs, by simpa using I.len⟩ ⟨_, hs, .inl rfl⟩
    · exact (hs.2 b (Nat.ne_of_lt (Nat.lt_of_lt_of_le (Heap.lt_size e) I.ok.above))).trans (I.base.keep b o e n hb hx)
    · obtain ⟨sl, e1⟩ := I.base.slot b o e n hb hx
      exact ⟨sl, (hs.2 b (Nat.ne_of_lt (Nat.lt_of_lt_of_le (Heap.lt_size e) I.ok.above))).trans e1⟩
    · obtain ⟨o', e1⟩ := I.base.there b o e hx
      exact ⟨o', (hs.2 b (Nat.ne_of_lt (Nat.lt_of_lt_of_le (Heap.lt_size e) I.ok.above))).trans e1⟩
    · by_cases hj : j = i
      · subst hj
        rw [hi] at e1; cases e1
        rw [List.getElem?_set_self hiσ] at e2
        cases e2
        exact ⟨u, r, .inl ⟨hk, by simp⟩⟩
      · rw [List.getElem?_set_ne (Ne.symm hj)] at e2
        obtain ⟨u', r', q⟩ := hl j y v' e1 e2 e3
        refine ⟨u', r', ?_⟩
        rcases q with ⟨k, e⟩ | ⟨k, c, e, z⟩
        · refine .inl ⟨k, ?_⟩
          have : y ≠ x := fun e => hj (nodup_ix hN e1 (e ▸ hi))
          simp [this, e]
        · exact .inr ⟨k, c, e, z.sameBut hs (cne y c e)⟩
    · obtain ⟨w', z⟩ := I.cell y c e
      exact ⟨w', z.sameBut hs (cne y c e)⟩
    · obtain ⟨e, n, ne, nf, d⟩ := I.pin p hp
      exact ⟨(hs.2 p.1 ne).trans e, n, ne, nf, d⟩
  · have hfn : X.fn x = true := by
      rcases hf with z | z
      · exact z
      · rw [z] at hk; cases hk
    obtain ⟨c, hc⟩ := I.ok.has x (.inl hk)
    obtain ⟨w', z⟩ := I.cell x c hc
    refine wpAny_storeName_cell I.ok.kind hk hc z (fun h' hc' hs => ?_)
    obtain ⟨oc, hoc, hocd⟩ := id z
    refine h { s with heap := h' } ⟨I.ok, I.os, I.bare, ⟨fun b o e n hb hx => ?_, fun b o e n hb hx => ?_, I.base.free, fun b o e hx => ?_, I.base.tups, I.base.frzs, I.base.tbls⟩, ⟨m, hn.sameBut hs (Ne.symm (cne x c hc)), fun j y v' e1 e2 e3 => ?_⟩, fun y c' e => ?_, I.free, I.freeC, fun p hp => ?_, tracked ⟨oc, hoc, I.freeC x c hc⟩ hs, by simpa using I.len⟩ ⟨c, hs, .inr hc⟩
    · exact (hs.2 b (Nat.ne_of_lt (Nat.lt_of_lt_of_le (Heap.lt_size e) (I.ok.cab x c hfn hc)))).trans (I.base.keep b o e n hb hx)
    · obtain ⟨sl, e1⟩ := I.base.slot b o e n hb hx
      exact ⟨sl, (hs.2 b (Nat.ne_of_lt (Nat.lt_of_lt_of_le (Heap.lt_size e) (I.ok.cab x c hfn hc)))).trans e1⟩
    · obtain ⟨o', e1⟩ := I.base.there b o e hx
      exact ⟨o', (hs.2 b (Nat.ne_of_lt (Nat.lt_of_lt_of_le (Heap.lt_size e) (I.ok.cab x c hfn hc)))).trans e1⟩
    · by_cases hj : j = i
      · subst hj
        rw [hi] at e1; cases e1
        rw [List.getElem?_set_self hiσ] at e2
        cases e2
        exact ⟨u, r, .inr ⟨.inl hk, c, hc, hc'⟩⟩
      · rw [List.getElem?_set_ne (Ne.symm hj)] at e2
        obtain ⟨u', r', q⟩ := hl j y v' e1 e2 e3
        refine ⟨u', r', ?_⟩
        rcases q with q | ⟨k, c', e, z'⟩
        · exact .inl q
        · refine .inr ⟨k, c', e, z'.sameBut hs ?_⟩
          rintro rfl
          exact hj (nodup_ix hN e1 (I.ok.inj _ _ _ e hc ▸ hi))
    · by_cases hcc : c' = c
      · subst hcc; exact ⟨_, hc'⟩
      · obtain ⟨w2, z2⟩ := I.cell y c' e
        exact ⟨w2, z2.sameBut hs hcc⟩
    · obtain ⟨e, n, ne, nf, d⟩ := I.pin p hp
      refine ⟨(hs.2 p.1 ?_).trans e, n, ne, nf, d⟩
      intro q
      rw [q, hoc] at e
      have q' : oc = p.2 := Option.some.inj e
      exact d w' (by rw [← q']; exact hocd)
theorem store_ok {M : Model} {A : Around} {E : Value → Shared → Prop} {i : Nat} {x : Str} {v : V} {u : Value} {Q : Unit → Shared → Prop} (I : Inv X pins σ H s) (hN : X.N.Nodup) (hi : X.N[i]? = some x) (hx : Loc X.env.scope x) (r : RelV v u)
    (h : ∀ s', Inv X pins (σ.set i (some v)) H s' → Q () s') (hf : X.fn x = true ∨ X.env.scope.names.lookup x = some .local := by first | exact .inl rfl | exact .inr rfl | assumption) : wpAny M A (storeName X.env x u) Q E s :=
  store_ok2 I hN hi hx r (fun s' I' _ => h s' I') hf
/-- behind a call or a block, the state as it is -/
theorem Inv.call' {s' : Shared} {ch : List Addr} (I : Inv X pins σ H s) (ho : s'.os = s.os) (u : Un (frs X.stack) ch H H' s.heap s'.heap) (hok : HOk X.prog X.w H' s'.heap) (hg : AllBare s'.gens)
    (hch : ∀ b ∈ ch, (b ∈ X.ex ∨ X.s₀.heap.objs.size ≤ b) ∧ b ≠ X.env.locals ∧ (∀ x c, X.env.cells.lookup x = some c → c ≠ b) ∧ ∀ p ∈ X.pn ++ pins, p.1 ≠ b) : Inv X pins σ H' s' := by
  obtain ⟨h', g', d', t', o'⟩ := s'
  have e : o' = s.os := ho
  subst e
  exact I.call (g' := g') (t' := t') (d' := d') u hok hg hch
end

/-! ### the judgements -/
/-- an exception: its class, its own dict's address (where it has one), the abstract heap behind it -/
abbrev XK := Value → Option Addr → Hp → Prop
abbrev St := List (Option V)
abbrev VK := V → Hp → Prop
/-- an expression's reading; a test's; an argument list's -/
abbrev TE := St → Hp → VK → Prop
abbrev TT := St → Hp → (Bool → Hp → Prop) → Prop
abbrev TA := St → Hp → (List V → Hp → Prop) → Prop
/-- what is wanted behind a statement -/
structure Ends where
  nx : St → Hp → Prop
  rt : VK
  bk : St → Hp → Prop := fun _ _ => False
  ct : St → Hp → Prop := fun _ _ => False
abbrev TS := Ends → St → Hp → Prop

def EP (X : Cx) (pins : List (Addr × Obj)) (σ : St) (Q : VK) (u : Value) (s' : Shared) : Prop := ∃ v H', Inv X pins σ H' s' ∧ RelV v u ∧ Q v H'
def TP (X : Cx) (pins : List (Addr × Obj)) (σ : St) (Q : Bool → Hp → Prop) (b : Bool) (s' : Shared) : Prop := ∃ H', Inv X pins σ H' s' ∧ Q b H'
def AP (X : Cx) (pins : List (Addr × Obj)) (σ : St) (Q : List V → Hp → Prop) (us : List Value) (s' : Shared) : Prop := ∃ vs H', Inv X pins σ H' s' ∧ Vals vs us ∧ Q vs H'
def SP (X : Cx) (pins : List (Addr × Obj)) (D : Ends) (f : Flow) (s' : Shared) : Prop :=
  match f with
  | .next => ∃ σ' H', Inv X pins σ' H' s' ∧ D.nx σ' H'
  | .brk => ∃ σ' H', Inv X pins σ' H' s' ∧ D.bk σ' H'
  | .cont => ∃ σ' H', Inv X pins σ' H' s' ∧ D.ct σ' H'
  | .ret u => ∃ v σ' H', Inv X pins σ' H' s' ∧ RelV v u ∧ D.rt v H'

def PE (X : Cx) (e : Expr) (t : TE) : Prop :=
  ∀ (pins : List (Addr × Obj)) (s : Shared) (σ : St) (H : Hp) (Q : VK), Inv X pins σ H s → t σ H Q → wpAny (model X.prog X.w) X.A (eval e X.env) (EP X pins σ Q) X.xe s
def PT (X : Cx) (e : Expr) (t : TT) : Prop :=
  ∀ (pins : List (Addr × Obj)) (s : Shared) (σ : St) (H : Hp) (Q : Bool → Hp → Prop), Inv X pins σ H s → t σ H Q → wpAny (model X.prog X.w) X.A (isTrue e X.env (eval e X.env)) (TP X pins σ Q) X.xe s
/-- a test whatever its 'whole' is (and, or) -/
def PW (X : Cx) (e : Expr) (t : TT) : Prop :=
  ∀ (whole : Sem Value) (pins : List (Addr × Obj)) (s : Shared) (σ : St) (H : Hp) (Q : Bool → Hp → Prop), Inv X pins σ H s → t σ H Q → wpAny (model X.prog X.w) X.A (isTrue e X.env whole) (TP X pins σ Q) X.xe s
theorem PW.pt {X : Cx} {e : Expr} {t : TT} (h : PW X e t) : PT X e t := h _
/-- an argument list (no star), from the left -/
def PA (X : Cx) (es : List Expr) (t : TA) : Prop :=
  ∀ (pos : Pos) (pins : List (Addr × Obj)) (s : Shared) (σ : St) (H : Hp) (Q : List V → Hp → Prop), Inv X pins σ H s → t σ H Q → wpAny (model X.prog X.w) X.A (spliced (backTo pos (starEach es X.env))) (AP X pins σ Q) X.xe s
def PS (X : Cx) (st : Stmt) (t : TS) : Prop :=
  ∀ (pins : List (Addr × Obj)) (s : Shared) (σ : St) (H : Hp) (D : Ends), Inv X pins σ H s → t D σ H → wpAny (model X.prog X.w) X.A (exec st X.env) (SP X pins D) X.xe s
def PSs (X : Cx) (st : List Stmt) (t : TS) : Prop :=
  ∀ (pins : List (Addr × Obj)) (s : Shared) (σ : St) (H : Hp) (D : Ends), Inv X pins σ H s → t D σ H → wpAny (model X.prog X.w) X.A (execs st X.env) (SP X pins D) X.xe s
/-- weaken the end -/
theorem thn {α : Type} {t : Sem α} {Q Q' : α → Shared → Prop} {M : Model} {A : Around} {E : Value → Shared → Prop} {s : Shared} (h : wpAny M A t Q E s) (hQ : ∀ a s, Q a s → Q' a s) : wpAny M A t Q' E s := wpAny_mono h hQ fun _ _ x => x
end L2

namespace L2
open PySem PySem.Spec PyProof.Rows
section
variable {X : Cx}

/-- two expressions in a row -/
theorem bin {a b : Expr} {ta tb : TE} (ha : PE X a ta) (hb : PE X b tb) {pins : List (Addr × Obj)} {s : Shared} {σ : St} {H : Hp} {R : V → V → Hp → Prop} (I : Inv X pins σ H s) (h : ta σ H fun x H1 => tb σ H1 fun y H2 => R x y H2)
    {α : Type} {Q : α → Shared → Prop} {f : Value → Value → Sem α}
    (hf : ∀ v u s2 x y H2, Inv X pins σ H2 s2 → RelV x v → RelV y u → R x y H2 → wpAny (model X.prog X.w) X.A (f v u) Q X.xe s2) :
    wpAny (model X.prog X.w) X.A (eval a X.env) (fun v s₁ => wpAny (model X.prog X.w) X.A (eval b X.env) (fun u s₂ => wpAny (model X.prog X.w) X.A (f v u) Q X.xe s₂) X.xe s₁) X.xe s := by
  refine thn (ha pins s σ H _ I h) fun v s1 ⟨x, H1, I1, r1, q1⟩ => ?_
  refine thn (hb pins s1 σ H1 _ I1 q1) fun u s2 ⟨y, H2, I2, r2, q2⟩ => ?_
  exact hf v u s2 x y H2 I2 r1 r2 q2

/-! ### names and constants -/
def tVar (i : Nat) : TE := fun σ H Q => ∃ v, σ[i]? = some (some v) ∧ Q v H
def tC (v : V) : TE := fun _ H Q => Q v H
theorem pe_var {i : Nat} {x : Str} {pos : Pos} (hN : X.N[i]? = some x) (hv : Vis X.env.scope x) (hd : (x == ("__debug__" : Str)) = false := by decide) (hcd : (x == ("__classdict__" : Str)) = false := by decide) : PE X (.Name x pos) (tVar i) := by
  intro pins s σ H Q I h
  obtain ⟨v, e, h⟩ := h
  obtain ⟨m, hn, hl⟩ := I.loc
  obtain ⟨u, r, l⟩ := hl i x v hN e hv
  have fin : EP X pins σ Q u s := ⟨v, H, I, r, h⟩
  rcases l with ⟨hk, hm⟩ | ⟨hk, c, hc, hcell⟩
  · exact wpAny_Name (wpAny_loadName_local I.ok.kind hk hn hm fin) hd
  · rcases hk with hk | hk
    · exact wpAny_Name (wpAny_loadName_cell I.ok.kind hk hc hcell fin) hd
    · exact wpAny_Name (wpAny_loadName_free I.ok.kind hk hc hcell fin hcd) hd
theorem pe_int {i j pos} : PE X (.Constant (.int i) j pos) (tC (.int i)) := fun _ _ _ H _ I h => wpAny_Constant_int ⟨.int i, H, I.tok _, ⟨_, rfl⟩, h⟩
theorem pe_bl {b j pos} : PE X (.Constant (.bool b) j pos) (tC (.bl b)) := fun _ _ _ H _ I h => Constant_bool ⟨.bl b, H, I, rfl, h⟩
theorem pe_non {j pos} : PE X (.Constant .none j pos) (tC .non) := fun _ _ _ H _ I h => Constant_none ⟨.non, H, I, rfl, h⟩
theorem pe_str {x j pos} : PE X (.Constant (.str x) j pos) (tC (.str x)) := fun _ _ _ H _ I h => Calls.Constant_str ⟨.str x, H, I.tok _, ⟨_, rfl⟩, h⟩

/-- a global name of the def -/
def Gl (X : Cx) (x : Str) : Prop := X.env.kindOf x = some .globalImplicit
theorem ld_glob {E : Value → Shared → Prop} {pins : List (Addr × Obj)} {s : Shared} {σ : St} {H : Hp} {x : Str} {u : Value} {pos : Pos} {Q : Value → Shared → Prop} (I : Inv X pins σ H s) (hg : Gl X x) (hm : X.mg x = some u) (h : Q u s)
    (hd : (x == ("__debug__" : Str)) = false := by decide) : wpAny (model X.prog X.w) X.A (eval (.Name x pos) X.env) Q E s :=
  Calls.Name_function_global I.ok.kind hg (Calls.loadGlobal_global (by rw [I.ok.glob]; exact I.mod.glob.keeps I.bk) hm h) hd
theorem ld_blt {E : Value → Shared → Prop} {pins : List (Addr × Obj)} {s : Shared} {σ : St} {H : Hp} {x : Str} {u : Value} {pos : Pos} {Q : Value → Shared → Prop} (I : Inv X pins σ H s) (hg : Gl X x) (hm : X.mg x = none) (hv : bootBuiltins x = some u) (h : Q u s)
    (hn : x ≠ "__name__" := by decide) (hd : (x == ("__debug__" : Str)) = false := by decide) : wpAny (model X.prog X.w) X.A (eval (.Name x pos) X.env) Q E s := by
  obtain ⟨mb, h1, h2⟩ := I.mod.blt
  exact Calls.Name_function_global I.ok.kind hg (Calls.loadGlobal_builtin (by rw [I.ok.glob]; exact I.mod.glob.keeps I.bk) hm (by rw [I.ok.blt]; exact h1.keeps I.bk) ((h2 x hn).trans hv) h) hd
/-- a module's constant, a class, a function, as a value -/
theorem pe_glob {x : Str} {v : V} {u : Value} {pos : Pos} (hg : Gl X x) (hm : X.mg x = some u) (r : RelV v u) (hd : (x == ("__debug__" : Str)) = false := by decide) : PE X (.Name x pos) (tC v) :=
  fun _ _ _ H _ I h => ld_glob I hg hm ⟨v, H, I, r, h⟩ hd
theorem pe_bltn {x : Str} {v : V} {u : Value} {pos : Pos} (hg : Gl X x) (hm : X.mg x = none) (hv : bootBuiltins x = some u) (r : RelV v u) (hn : x ≠ "__name__" := by decide) (hd : (x == ("__debug__" : Str)) = false := by decide) : PE X (.Name x pos) (tC v) :=
  fun _ _ _ H _ I h => ld_blt I hg hm hv ⟨v, H, I, r, h⟩ hn hd

/-! ### arithmetic -/
variable {a b : Expr} {ta tb : TE} {pos : Pos}

/-! ### comparisons -/
def PC (X : Cx) (op : CmpOp) (a b : Expr) (t : TE) : Prop :=
  ∀ (pins : List (Addr × Obj)) (s : Shared) (σ : St) (H : Hp) (Q : VK), Inv X pins σ H s → t σ H Q →
    wpAny (model X.prog X.w) X.A (eval a X.env) (fun v s₁ => wpAny (model X.prog X.w) X.A (eval b X.env) (fun u s₂ => wpAny (model X.prog X.w) X.A (compareOp op v u) (EP X pins σ Q) X.xe s₂) X.xe s₁) X.xe s
/-- a comparison as a value, as a test -/
def tB (t : TE) : TT := fun σ H Q => t σ H fun x H1 => ∃ c, x = .bl c ∧ Q c H1
theorem pt_cmp {op : CmpOp} {t : TE} (h : PC X op a b t) (h1 : behindInMarks op b = false := by first | exact nobehind _ (by decide) (by decide) | rfl) : PT X (.Compare a [op] [b] pos) (tB t) := by
  intro pins s σ H Q I hw
  refine wpAny_isTrue_Compare1 (thn (h pins s σ H _ I hw) fun v s1 h1 => thn h1 fun u s2 h2 => thn h2 fun c s3 ⟨x, H1, I1, r1, q1⟩ => ?_) h1
  obtain ⟨d, rfl, q⟩ := q1
  cases r1
  exact wpAny_truthy_bool ⟨H1, I1, q⟩
/-- an expression whose value is a bool, as a test -/
theorem pt_val {e : Expr} {t : TE} (h : PE X e t) (he : ∀ whole, isTrue e X.env whole = (do let v ← whole; standAt e.pos; holding [v] (truthy v)) := by intro _; rfl) : PT X e (tB t) := by
  intro pins s σ H Q I hw
  refine isTrue_plain (thn (h pins s σ H _ I hw) fun v s1 ⟨x, H1, I1, r1, q1⟩ => ?_) (he _)
  obtain ⟨d, rfl, q⟩ := q1
  cases r1
  exact wpAny_truthy_bool ⟨H1, I1, q⟩

/-! ### and, or, not -/
variable {tA tB' : TT} {rest : List Expr}
def tAnd (t u : TT) : TT := fun σ H Q => t σ H fun c H1 => if c = true then u σ H1 Q else Q false H1
def tOr (t u : TT) : TT := fun σ H Q => t σ H fun c H1 => if c = true then Q true H1 else u σ H1 Q
def tNot (t : TT) : TT := fun σ H Q => t σ H fun c H1 => Q (!c) H1
theorem pw_and1 (ha : PT X a tA) : PW X (.BoolOp .And [a] pos) tA := by
  intro wh pins s σ H Q I h
  refine isTrue_and (thn (ha pins s σ H Q I h) fun c s1 e => ?_)
  cases c with
  | true => exact isTrue_and_nil e
  | false => exact e
theorem pw_or1 (ha : PT X a tA) : PW X (.BoolOp .Or [a] pos) tA := by
  intro wh pins s σ H Q I h
  refine isTrue_or (thn (ha pins s σ H Q I h) fun c s1 e => ?_)
  cases c with
  | false => exact isTrue_or_nil e
  | true => exact e
theorem pw_and (ha : PT X a tA) (hb : PW X (.BoolOp .And (b :: rest) pos) tB') : PW X (.BoolOp .And (a :: b :: rest) pos) (tAnd tA tB') := by
  intro wh pins s σ H Q I h
  refine isTrue_and (thn (ha pins s σ H _ I h) fun c s1 ⟨H1, I1, q1⟩ => ?_)
  cases c with
  | true => exact hb wh pins s1 σ H1 Q I1 q1
  | false => exact ⟨H1, I1, q1⟩
theorem pw_or (ha : PT X a tA) (hb : PW X (.BoolOp .Or (b :: rest) pos) tB') : PW X (.BoolOp .Or (a :: b :: rest) pos) (tOr tA tB') := by
  intro wh pins s σ H Q I h
  refine isTrue_or (thn (ha pins s σ H _ I h) fun c s1 ⟨H1, I1, q1⟩ => ?_)
  cases c with
  | true => exact ⟨H1, I1, q1⟩
  | false => exact hb wh pins s1 σ H1 Q I1 q1
theorem pt_not (ha : PT X a tA) : PT X (.UnaryOp .Not a pos) (tNot tA) := by
  intro pins s σ H Q I h
  exact isTrue_not (ha pins s σ H (fun c H1 => Q (!c) H1) I h)
/-- .. as values (bools) -/
def tAndV (ta tb : TE) : TE := fun σ H Q => ta σ H fun x H1 => ∃ c, x = .bl c ∧ if c = true then tb σ H1 Q else Q (.bl false) H1
def tNotV (ta : TE) : TE := fun σ H Q => ta σ H fun x H1 => ∃ c, x = .bl c ∧ Q (.bl (!c)) H1
theorem pe_one {op} {t : TE} (h : PE X a t) : PE X (.BoolOp op [a] pos) t := fun pins s σ H Q I hw => BoolOp_one (h pins s σ H Q I hw)
theorem pe_and (ha : PE X a ta) (hb : PE X (.BoolOp .And (b :: rest) pos) tb) : PE X (.BoolOp .And (a :: b :: rest) pos) (tAndV ta tb) := by
  intro pins s σ H Q I h
  refine BoolOp_and (thn (ha pins s σ H _ I h) fun v s1 ⟨x, H1, I1, r1, q1⟩ => ?_)
  obtain ⟨c, rfl, q1⟩ := q1
  cases r1
  refine wpAny_truthy_bool ?_
  cases c with
  | true => exact hb pins s1 σ H1 Q I1 q1
  | false => exact ⟨.bl false, H1, I1, rfl, q1⟩
theorem pe_not (ha : PE X a ta) : PE X (.UnaryOp .Not a pos) (tNotV ta) := by
  intro pins s σ H Q I h
  refine UnaryOp_ (thn (ha pins s σ H _ I h) fun v s1 ⟨x, H1, I1, r1, q1⟩ => ?_)
  obtain ⟨c, rfl, q1⟩ := q1
  cases r1
  exact not_of (wpAny_truthy_bool ⟨.bl (!c), H1, I1, rfl, q1⟩)
end
end L2

namespace L2
open PySem PySem.Spec PyProof.Rows

/-! ### a list, a tuple that is read: tracked, frozen, or an object of the module -/
def SqL (K : PySem.W.Frag) (H : Hp) (a : Addr) (xs : List V) : Prop :=
  Rd H a (.lst xs) ∨
    ∃ (o : Obj) (its : Array Value) (n : Nat), K.lookup a = some o ∧ o.cls = .type "list" ∧ o.dict = none ∧ o.data = .seq its n ∧ its.size ≤ sizeLine ∧ Vals xs its.toList
def SqT (K : PySem.W.Frag) (H : Hp) (a : Addr) (xs : List V) : Prop :=
  Rd H a (.tup xs) ∨
    ∃ (o : Obj) (its : Array Value) (n : Nat), K.lookup a = some o ∧ o.cls = .type "tuple" ∧ o.data = .seq its n ∧ its.size ≤ sizeLine ∧ Vals xs its.toList
def absV : Value → Option V
  | .none => some .non
  | .bool b => some (.bl b)
  | .int i _ => some (.int i)
  | .str x _ => some (.str x)
  | .bytes b _ => some (.byt b)
  | .float b _ => some (.flt b)
  | .ref a => some (.ref a)
  | .type n => some (.ty n)
  | _ => none
theorem RelV.abs {x : V} {u : Value} (r : RelV x u) : absV u = some x := by
  cases x with
  | non => cases r; rfl
  | bl _ => cases r; rfl
  | int _ => obtain ⟨t, rfl⟩ := r; rfl
  | str _ => obtain ⟨t, rfl⟩ := r; rfl
  | byt _ => obtain ⟨t, rfl⟩ := r; rfl
  | flt _ => obtain ⟨t, rfl⟩ := r; rfl
  | ref _ => cases r; rfl
  | ty _ => cases r; rfl
theorem RelV.inj {x y : V} {u : Value} (r : RelV x u) (q : RelV y u) : x = y := Option.some.inj (r.abs.symm.trans q.abs)
theorem Vals.inj : ∀ {xs ys : List V} {us : List Value}, Vals xs us → Vals ys us → xs = ys
  | _, _, _, .nil, .nil => rfl
  | _, _, _, .cons r t, .cons r' t' => by rw [r.inj r', Vals.inj t t']
section
variable {X : Cx} {pins : List (Addr × Obj)} {σ : St} {H : Hp} {s : Shared} {a : Addr} {xs ys : List V}
theorem SqL.of {K : PySem.W.Frag} (h : H a = some (.lst xs)) : SqL K H a xs := .inl (.inl h)
theorem SqT.of {K : PySem.W.Frag} (h : H a = some (.tup xs)) : SqT K H a xs := .inl (.inl h)
theorem Inv.list (I : Inv X pins σ H s) (h : SqL X.K H a xs) : ∃ its : List Value, Vals xs its ∧ PlainL s.heap a its.toArray ∧ xs.length ≤ sizeLine := by
  rcases h with h | ⟨o, its, n, hk, hc, hd, hs, hz, r⟩
  · obtain ⟨z, its, n, r, e⟩ := h.ok I.hok
    exact ⟨its, r, ⟨_, n, e, rfl, rfl, rfl⟩, z⟩
  · refine ⟨its.toList, r, ⟨o, n, I.kIn a o hk, hc, hd, by simpa using hs⟩, ?_⟩
    have e := r.length
    simp only [Array.length_toList] at e
    omega
theorem Inv.tuple (I : Inv X pins σ H s) (h : SqT X.K H a xs) : ∃ its : List Value, Vals xs its ∧ IsTup s.heap a its.toArray ∧ xs.length ≤ sizeLine := by
  rcases h with h | ⟨o, its, n, hk, hc, hs, hz, r⟩
  · obtain ⟨z, its, r, p⟩ := h.ok I.hok
    exact ⟨its, r, p, z⟩
  · refine ⟨its.toList, r, ⟨o, I.kIn a o hk, hc, n, by simpa using hs⟩, ?_⟩
    have e := r.length
    simp only [Array.length_toList] at e
    omega
theorem Inv.list_inj (I : Inv X pins σ H s) (h : SqL X.K H a xs) (h' : SqL X.K H a ys) : xs = ys := by
  obtain ⟨its, r, ⟨o, n, e, _, _, d⟩, _⟩ := I.list h
  obtain ⟨its', r', ⟨o', n', e', _, _, d'⟩, _⟩ := I.list h'
  rw [e] at e'; cases e'
  rw [d] at d'
  injection d' with d1 _
  have : its = its' := by simpa using congrArg Array.toList d1
  subst this
  exact r.inj r'
theorem Inv.tuple_inj (I : Inv X pins σ H s) (h : SqT X.K H a xs) (h' : SqT X.K H a ys) : xs = ys := by
  obtain ⟨its, r, ⟨o, e, _, n, d⟩, _⟩ := I.tuple h
  obtain ⟨its', r', ⟨o', e', _, n', d'⟩, _⟩ := I.tuple h'
  rw [e] at e'; cases e'
  rw [d] at d'
  injection d' with d1 _
  have : its = its' := by simpa using congrArg Array.toList d1
  subst this
  exact r.inj r'
end

/-! ### another wish about exceptions -/
abbrev Cx.wish (X : Cx) (E : Value → Shared → Prop) : Cx := { X with xe := E }
/-- no exception leaves -/
abbrev Cx.nox (X : Cx) : Cx := X.wish fun _ _ => False
theorem Cx.Ok.wish {X : Cx} (ok : X.Ok) (E : Value → Shared → Prop) : (X.wish E).Ok :=
  ⟨ok.mod, ok.kind, ok.glob, ok.blt, ok.above, ok.inj, ok.has, ok.cab, ok.hd, ok.frames, ok.stk, ok.exf, ok.bs, ok.bsz, ok.noex, ok.exfs, ok.funs, ok.frf⟩
theorem Cx.Ok.unwish {X : Cx} {E : Value → Shared → Prop} (ok : (X.wish E).Ok) : X.Ok :=
  ⟨ok.mod, ok.kind, ok.glob, ok.blt, ok.above, ok.inj, ok.has, ok.cab, ok.hd, ok.frames, ok.stk, ok.exf, ok.bs, ok.bsz, ok.noex, ok.exfs, ok.funs, ok.frf⟩
section
variable {X : Cx} {pins : List (Addr × Obj)} {σ : St} {H : Hp} {s : Shared} {E : Value → Shared → Prop}
theorem Inv.wish (I : Inv X pins σ H s) (E : Value → Shared → Prop) : Inv (X.wish E) pins σ H s := ⟨I.ok.wish E, I.os, I.bare, I.base, I.loc, I.cell, I.free, I.freeC, I.pin, I.hok, I.len⟩
theorem Inv.unwish (I : Inv (X.wish E) pins σ H s) : Inv X pins σ H s := ⟨I.ok.unwish, I.os, I.bare, I.base, I.loc, I.cell, I.free, I.freeC, I.pin, I.hok, I.len⟩
theorem SP.unwish {D : Ends} {f : Flow} {s' : Shared} (h : SP (X.wish E) pins D f s') : SP X pins D f s' := by
  cases f with
  | next => obtain ⟨σ', H', I, q⟩ := h; exact ⟨σ', H', I.unwish, q⟩
  | brk => obtain ⟨σ', H', I, q⟩ := h; exact ⟨σ', H', I.unwish, q⟩
  | cont => obtain ⟨σ', H', I, q⟩ := h; exact ⟨σ', H', I.unwish, q⟩
  | ret u => obtain ⟨v, σ', H', I, r, q⟩ := h; exact ⟨v, σ', H', I.unwish, r, q⟩
theorem PSs.nox {st : List Stmt} {t : TS} (h : PSs X.nox st t) : PSs X st t := fun pins s σ H D I hw =>
  wpAny_mono (h pins s σ H D (I.wish _) hw) (fun _ _ q => q.unwish) fun _ _ z => False.elim z
end

/-! ### blocks and small statements -/
section
variable {X : Cx} {st : Stmt} {rest : List Stmt} {t u : TS} {e : Expr} {te : TE} {pos : Pos}
def tNext : TS := fun D σ H => D.nx σ H
def tSeq (t u : TS) : TS := fun D σ H => t { D with nx := u D } σ H
theorem pss_nil : PSs X [] tNext := fun _ _ σ H _ I h => wpAny_execs_nil ⟨σ, H, I, h⟩
theorem pss_cons (h1 : PS X st t) (h2 : PSs X rest u) : PSs X (st :: rest) (tSeq t u) := by
  intro pins s σ H D I h
  refine wpAny_execs_cons (thn (h1 pins s σ H { D with nx := u D } I h) fun f s1 q => ?_)
  cases f with
  | next =>
    obtain ⟨σ', H', I', q⟩ := q
    exact h2 pins s1 σ' H' D I' q
  | ret v => exact q
  | brk => exact q
  | cont => exact q
theorem pss_one (h1 : PS X st t) : PSs X [st] t := by
  intro pins s σ H D I h
  refine wpAny_execs_cons (thn (h1 pins s σ H D I h) fun f s1 q => ?_)
  cases f with
  | next => exact wpAny_execs_nil q
  | ret v => exact q
  | brk => exact q
  | cont => exact q
/-- in a def's body nothing is shown -/
theorem Inv.quiet {pins : List (Addr × Obj)} {σ : St} {H : Hp} {s : Shared} (I : Inv X pins σ H s) : interactive X.env = false := by simp [interactive, I.ok.kind]
/-- an expression whose value is dropped -/
def tDrop (te : TE) : TS := fun D σ H => te σ H fun _ H1 => D.nx σ H1
theorem ps_expr (he : PE X e te) (hs : swapsWith e none pos.line X.env = pure false := by rfl) : PS X (.Expr e pos) (tDrop te) := by
  intro pins s σ H D I h
  exact wpAny_Expr_any (thn (he pins s σ H _ I h) fun v s1 ⟨x, H1, I1, r1, q1⟩ => ⟨σ, H1, I1, q1⟩) I.quiet hs
def tRet (te : TE) : TS := fun D σ H => te σ H D.rt
theorem ps_ret (he : PE X e te) : PS X (.Return (some e) pos) (tRet te) := by
  intro pins s σ H D I h
  exact wpAny_Return_some (thn (he pins s σ H _ I h) fun v s1 ⟨x, H1, I1, r1, q1⟩ => ⟨x, σ, H1, I1, r1, q1⟩)
def tIfS (c : TT) (t u : TS) : TS := fun D σ H => c σ H fun b H1 => if b = true then t D σ H1 else u D σ H1
theorem ps_if {c : Expr} {a b : List Stmt} {tc : TT} (hc : PT X c tc) (ha : PSs X a t) (hb : PSs X b u) : PS X (.If c a b pos) (tIfS tc t u) := by
  intro pins s σ H D I h
  refine wpAny_If (thn (hc pins s σ H _ I h) fun d s1 ⟨H1, I1, q1⟩ => ?_)
  cases d with
  | true => exact ha pins s1 σ H1 D I1 q1
  | false => exact hb pins s1 σ H1 D I1 q1
/-- code that the proof never comes to -/
def tNever : TS := fun _ _ _ => False
theorem ps_never : PS X st tNever := fun _ _ _ _ _ _ h => h.elim
end

/-! ### targets -/
abbrev TG := V → St → Hp → (St → Hp → Prop) → Prop
abbrev TGs := List V → St → Hp → (St → Hp → Prop) → Prop
def PG (X : Cx) (target : Expr) (t : TG) : Prop :=
  ∀ (pins : List (Addr × Obj)) (s : Shared) (σ : St) (H : Hp) (v : V) (u : Value) (Q : St → Hp → Prop), Inv X pins σ H s → RelV v u → t v σ H Q →
    wpAny (model X.prog X.w) X.A (assign target X.env u) (fun _ s' => ∃ σ' H', Inv X pins σ' H' s' ∧ Q σ' H') X.xe s
/-- several targets, one after another -/
def PGs (X : Cx) (ts : List Expr) (t : TGs) : Prop :=
  ∀ (pins : List (Addr × Obj)) (s : Shared) (σ : St) (H : Hp) (vs : List V) (us : List Value) (Q : St → Hp → Prop), Inv X pins σ H s → Vals vs us → t vs σ H Q →
    wpAny (model X.prog X.w) X.A (assignInOrder ((assignEach ts X.env).map (·.2)) us) (fun _ s' => ∃ σ' H', Inv X pins σ' H' s' ∧ Q σ' H') X.xe s
/-- o[i] = v, by values -/
abbrev TSet := V → V → V → Hp → (Hp → Prop) → Prop
def PSet (X : Cx) (t : TSet) : Prop :=
  ∀ (pins : List (Addr × Obj)) (s : Shared) (σ : St) (H : Hp) (o i v : V) (ov iv u : Value) (Q : Hp → Prop), Inv X pins σ H s → RelV o ov → RelV i iv → RelV v u → t o i v H Q →
    wpAny (model X.prog X.w) X.A (setItem ov iv u) (fun _ s' => ∃ H', Inv X pins σ H' s' ∧ Q H') X.xe s
/-- a op= b, by values -/
abbrev TIp := V → V → Hp → VK → Prop
def PIp (X : Cx) (op : Operator) (t : TIp) : Prop :=
  ∀ (pins : List (Addr × Obj)) (s : Shared) (σ : St) (H : Hp) (x y : V) (v u : Value) (Q : VK), Inv X pins σ H s → RelV x v → RelV y u → t x y H Q →
    wpAny (model X.prog X.w) X.A (inplaceOp op v u) (EP X pins σ Q) X.xe s
section
variable {X : Cx} {pos : Pos}
def gName (i : Nat) : TG := fun v σ H Q => Q (σ.set i (some v)) H
theorem pg_name {i : Nat} {x : Str} (hN : X.N.Nodup) (hi : X.N[i]? = some x) (hx : Loc X.env.scope x) (hf : X.fn x = true ∨ X.env.scope.names.lookup x = some .local := by first | exact .inl rfl | exact .inr rfl | assumption) : PG X (.Name x pos) (gName i) := by
  intro pins s σ H v u Q I r h
  exact wpAny_assign_Name (store_ok I hN hi hx r (fun s' I' => ⟨_, H, I', h⟩) hf)
def gNil : TGs := fun vs σ H Q => vs = [] ∧ Q σ H
def gCons (t : TG) (u : TGs) : TGs := fun vs σ H Q => ∃ v r, vs = v :: r ∧ t v σ H fun σ' H' => u r σ' H' Q
theorem pgs_nil : PGs X [] gNil := by
  intro pins s σ H vs us Q I r h
  obtain ⟨e, h⟩ := h
  subst e
  cases r
  exact assignInOrder_nil ⟨σ, H, I, h⟩
theorem pgs_cons {e : Expr} {es : List Expr} {t : TG} {u : TGs} (h1 : PG X e t) (h2 : PGs X es u)
    (hs : (assignEach (e :: es) X.env).map (·.2) = assign e X.env :: (assignEach es X.env).map (·.2) := by rfl) : PGs X (e :: es) (gCons t u) := by
  intro pins s σ H vs us Q I r h
  obtain ⟨v, vr, e1, h⟩ := h
  subst e1
  cases r with
  | cons r rr =>
    rw [hs]
    refine assignInOrder_cons (thn (h1 pins s σ H _ _ _ I r h) fun _ s1 ⟨σ1, H1, I1, q1⟩ => ?_)
    exact h2 pins s1 σ1 H1 _ _ Q I1 rr q1
/-- (a, b, ..) = a tuple of that length -/
def gTup (K : PySem.W.Frag) (n : Nat) (t : TGs) : TG := fun v σ H Q => ∃ a xs, v = .ref a ∧ SqT K H a xs ∧ xs.length = n ∧ t xs σ H Q
theorem pg_tup {es : List Expr} {k : Nat} {t : TGs} {n : Nat} (hc : X.calm = true) (h : PGs X es t)
    (hn : (assignEach es X.env).length = n := by rfl) (hst : (assignEach es X.env).findIdx? (·.1) = none := by rfl) : PG X (.Tuple es k pos) (gTup X.K n t) := by
  intro pins s σ H v u Q I r hw
  obtain ⟨a, xs, e1, hq, hl, hw⟩ := hw
  subst e1
  cases r
  obtain ⟨its, rv, ht, hz⟩ := I.tuple hq
  refine assign_Tuple_tuple (I.ok.hd hc) ht (by simp [hn, ← hl, rv.length]) hst fun h' hx => ?_
  have I1 : Inv X pins σ H { s with heap := h' } := I.kept (t' := s.toks) fun b o e => hx b o (Nat.ne_of_lt (Heap.lt_size e)) e
  exact h pins _ σ H xs _ Q I1 (by simpa using rv) hw
/-- o[i] = .. -/
def gSub (to ti : TE) (t : TSet) : TG := fun v σ H Q => to σ H fun o H1 => ti σ H1 fun i H2 => t o i v H2 fun H3 => Q σ H3
theorem pg_sub {o i : Expr} {to ti : TE} {t : TSet} (ho : PE X o to) (hi : PE X i ti) (hs : PSet X t)
    (ha : ∀ v, assign (.Subscript o i pos) X.env v = (do
      let ov ← holding [v] (eval o X.env)
      let iv ← holding [v, ov] (eval i X.env)
      standAt pos
      holding [v, ov, iv] (setItem ov iv v)
      release [v, ov, iv] []) := by intro _; rfl) : PG X (.Subscript o i pos) (gSub to ti t) := by
  intro pins s σ H v u Q I r h
  rw [ha]
  refine wpAny_bind (wpAny_holding (thn (ho pins s σ H _ I h) fun ov s1 ⟨x, H1, I1, r1, q1⟩ => ?_))
  refine wpAny_bind (wpAny_holding (thn (hi pins s1 σ H1 _ I1 q1) fun iv s2 ⟨y, H2, I2, r2, q2⟩ => ?_))
  refine wpAny_bind (wpAny_standAt (wpAny_bind (wpAny_holding (thn (hs pins s2 σ H2 x y v ov iv u _ I2 r1 r2 r q2) fun _ s3 ⟨H3, I3, q3⟩ => ?_))))
  exact wpAny_release ⟨σ, H3, I3, q3⟩
/-- target = value -/
def tAsg (te : TE) (g : TG) : TS := fun D σ H => te σ H fun x H1 => g x σ H1 D.nx
theorem ps_asg {tg e : Expr} {te : TE} {g : TG} (he : PE X e te) (hg : PG X tg g) (hs : swapsWithSole [tg] e pos.line X.env = pure false := by rfl) (hw : swappedStores [tg] e X.env = pure none := by rfl)
    (h1 : (assignEach [tg] X.env).map (·.2) = [assign tg X.env] := by rfl) : PS X (.Assign [tg] e pos) (tAsg te g) := by
  intro pins s σ H D I h
  refine wpAny_Assign_stores (thn (he pins s σ H _ I h) fun v s1 ⟨x, H1, I1, r1, q1⟩ => ?_) hs hw
  rw [h1]
  exact thn (hg pins s1 σ H1 x v _ I1 r1 q1) fun _ s2 q => q
/-- name = value -/
theorem ps_set {i : Nat} {x : Str} {e : Expr} {te : TE} {pos' : Pos} (hN : X.N.Nodup) (hi : X.N[i]? = some x) (hx : Loc X.env.scope x) (he : PE X e te) (hs : swapsWith e (some (.Name x pos')) pos.line X.env = pure false := by rfl) (hf : X.fn x = true ∨ X.env.scope.names.lookup x = some .local := by first | exact .inl rfl | exact .inr rfl | assumption) :
    PS X (.Assign [.Name x pos'] e pos) (tAsg te (gName i)) := by
  intro pins s σ H D I h
  refine wpAny_Assign_Name (thn (he pins s σ H _ I h) fun v s1 ⟨y, H1, I1, r1, q1⟩ => ?_) hs
  exact store_ok I1 hN hi hx r1 (fun s2 I2 => ⟨_, H1, I2, q1⟩) hf
/-- a, b = x, y with plain local names: stored from the right; the pair itself is not tracked (the opening rows as in PyProof/Rows/TupAssign.lean:23) -/
def tPar (i j : Nat) (ta : TA) : TS := fun D σ H => ta σ H fun vs H1 => ∃ v w, vs = [v, w] ∧ D.nx ((σ.set i (some v)).set j (some w)) H1
theorem ps_par {i j : Nat} {x y : Str} {a b : Expr} {ta : TA} {px py pt : Pos} {kt k2 pt2} (hc : X.calm = true) (hN : X.N.Nodup) (hi : X.N[i]? = some x) (hj : X.N[j]? = some y) (hij : i ≠ j)
    (hx : X.env.scope.names.lookup x = some .local) (hy : X.env.scope.names.lookup y = some .local) (ha : PA X [a, b] ta)
    (hw : swappedStores [.Tuple [.Name x px, .Name y py] kt pt] (.Tuple [a, b] k2 pt2) X.env = pure (some [x, y]))
    (hs : swapsWithSole [.Tuple [.Name x px, .Name y py] kt pt] (.Tuple [a, b] k2 pt2) pos.line X.env = pure false := by rfl) :
    PS X (.Assign [.Tuple [.Name x px, .Name y py] kt pt] (.Tuple [a, b] k2 pt2) pos) (tPar i j ta) := by
  intro pins s σ H D I h
  rw [exec_Assign_arm]
  refine wpAny_bind (wpAny_standAt ?_)
  rw [hs]
  refine wpAny_bind (wpAny_pure ?_)
  rw [if_neg (by decide)]
  refine wpAny_bind (Tuple_ (thn (ha _ pins s σ H _ I h) fun us s1 ⟨vs, H1, I1, r1, q1⟩ => ?_))
  obtain ⟨v, w, e1, q1⟩ := q1
  subst e1
  obtain ⟨u1, u2, rfl, rv, rw'⟩ : ∃ u1 u2, us = [u1, u2] ∧ RelV v u1 ∧ RelV w u2 := by
    cases r1 with
    | cons p q =>
      cases q with
      | cons p' q' =>
        cases q'
        exact ⟨_, _, rfl, p, p'⟩
  refine wpAny_newObj_type ?_ (by show 2 ≤ sizeLine; decide)
  have I2 : Inv X pins σ H1 { s1 with heap := s1.heap.push { cls := .type "tuple", data := .seq [u1, u2].toArray } } := I1.kept (t' := s1.toks) fun b o e => Heap.get?_push_of_some _ e
  rw [hw]
  refine wpAny_bind (wpAny_pure ?_)
  show wpAny (model X.prog X.w) X.A (do rule "assign.swapped-stores"; let items ← unpackItems (.ref s1.heap.objs.size) 2 none; assignInOrder [fun v => bindName X.env y v, fun v => bindName X.env x v] items.reverse; pure Flow.next) _ _ _
  refine wpAny_bind (wpAny_rule (wpAny_bind (unpackItems_tuple (items := #[u1, u2]) (I.ok.hd hc) (IsTup.new s1.heap _) fun h' hx' => ?_)))
  have I3 := I2.kept (h' := h') (t' := s1.toks) fun b o e => hx' b o (Nat.ne_of_lt (Heap.lt_size e)) e
  show wpAny _ _ (assignInOrder [fun v => bindName X.env y v, fun v => bindName X.env x v] [u2, u1] >>= fun _ => pure Flow.next) _ _ _
  refine wpAny_bind (assignInOrder_cons (wpAny_bindName (store_ok I3 hN hj (.inl hy) rw' (fun s2 I4 => ?_) (.inr hy))))
  refine assignInOrder_cons (wpAny_bindName (store_ok I4 hN hi (.inl hx) rv (fun s3 I5 => assignInOrder_nil (wpAny_pure ?_)) (.inr hx)))
  rw [List.set_comm _ _ (Ne.symm hij)] at I5
  exact ⟨_, H1, I5, q1⟩
/-- o[i] op= e -/
def tAugS (to ti te : TE) (tget : V → V → Hp → VK → Prop) (tip : TIp) (tset : TSet) : TS := fun D σ H => to σ H fun o H1 => ti σ H1 fun i H2 => tget o i H2 fun x H3 => te σ H3 fun y H4 => tip x y H4 fun z H5 => tset o i z H5 fun H6 => D.nx σ H6
/-- o[i], by values -/
def PGet (X : Cx) (t : V → V → Hp → VK → Prop) : Prop :=
  ∀ (pins : List (Addr × Obj)) (s : Shared) (σ : St) (H : Hp) (o i : V) (ov iv : Value) (Q : VK), Inv X pins σ H s → RelV o ov → RelV i iv → t o i H Q →
    wpAny (model X.prog X.w) X.A (getItem ov iv) (EP X pins σ Q) X.xe s
theorem ps_augS {o i e : Expr} {to ti te : TE} {tget : V → V → Hp → VK → Prop} {tip : TIp} {tset : TSet} {op : Operator} {tpos : Pos} (ho : PE X o to) (hi : PE X i ti) (hg : PGet X tget) (he : PE X e te) (hp : PIp X op tip) (hs : PSet X tset)
    (ha : ∀ ov iv new, augStore i ov iv new = (do holding [new, ov, iv] (setItem ov iv new); release [new, ov, iv] []; pure .next) := by intros; rfl) : PS X (.AugAssign (.Subscript o i tpos) op e pos) (tAugS to ti te tget tip tset) := by
  intro pins s σ H D I h
  refine wpAny_AugAssign_SubscriptAny (thn (ho pins s σ H _ I h) fun ov s1 ⟨x1, H1, I1, r1, q1⟩ => ?_) ha
  refine thn (hi pins s1 σ H1 _ I1 q1) fun iv s2 ⟨x2, H2, I2, r2, q2⟩ => ?_
  refine thn (hg pins s2 σ H2 x1 x2 ov iv _ I2 r1 r2 q2) fun old s3 ⟨x3, H3, I3, r3, q3⟩ => ?_
  refine thn (he pins s3 σ H3 _ I3 q3) fun v s4 ⟨x4, H4, I4, r4, q4⟩ => ?_
  refine thn (hp pins s4 σ H4 x3 x4 old v _ I4 r3 r4 q4) fun new s5 ⟨x5, H5, I5, r5, q5⟩ => ?_
  exact thn (hs pins s5 σ H5 x1 x2 x5 ov iv new _ I5 r1 r2 r5 q5) fun _ s6 ⟨H6, I6, q6⟩ => ⟨σ, H6, I6, q6⟩
/-- ints -/
def ipI (f : Int → Int → Int) : TIp := fun x y H Q => ∃ i j, x = .int i ∧ y = .int j ∧ Q (.int (f i j)) H
theorem ip_add : PIp X .Add (ipI fun i j => i + j) := by
  intro pins s σ H x y v u Q I r1 r2 h
  obtain ⟨i, j, e1, e2, q⟩ := h
  subst e1; subst e2
  obtain ⟨t, rfl⟩ := r1
  obtain ⟨t', rfl⟩ := r2
  exact iadd_int ⟨.int _, H, I.tok _, ⟨_, rfl⟩, q⟩
end

/-! ### while -/
section
variable {X : Cx} {pos : Pos}
end

/-! ### what a loop or a comprehension walks -/
/-- at turn i: it yields x (the heap may grow), or it stops -/
structure It where
  go : Nat → Hp → Prop
  yld : Nat → Hp → V → Hp → Prop
  stop : Nat → Hp → Prop
/-- the iterator's own objects may turn: they are not the frame's, not pinned, younger than the entry (or a comprehension's own) -/
def FpOk (X : Cx) (pins : List (Addr × Obj)) (H : Hp) (b : Addr) : Prop :=
  H b = none ∧ b ≠ X.env.locals ∧ b ∉ X.fs ∧ (b ∈ X.ex ∨ X.s₀.heap.objs.size ≤ b) ∧ (∀ x c, X.env.cells.lookup x = some c → c ≠ b) ∧ ∀ p ∈ X.pn ++ pins, p.1 ≠ b
theorem Inv.fpOk {X : Cx} {pins : List (Addr × Obj)} {σ : St} {H H' : Hp} {s : Shared} {b : Addr} (I : Inv X pins σ H s) (hb : s.heap.objs.size ≤ b) (hn : H' b = none) : FpOk X pins H' b := by
  refine ⟨hn, Nat.ne_of_gt (Nat.lt_of_lt_of_le I.lt hb), I.nofs hb, .inr (Nat.le_trans I.sz hb), fun x c e z => ?_, fun p hp z => ?_⟩
  · obtain ⟨v, q⟩ := I.cell x c e
    exact absurd (Nat.lt_of_lt_of_le q.lt (by rw [z]; exact hb)) (Nat.lt_irrefl _)
  · exact absurd (Nat.lt_of_lt_of_le (Heap.lt_size (I.pin p hp).1) (by rw [z]; exact hb)) (Nat.lt_irrefl _)
structure Turn (P : Program) (w : World) (K : PySem.W.Frag) (tg : Expr) (J : It) (fp : List Addr) (it : Addr) (tn : Nat → Heap → Prop) : Prop where
  mem : it ∈ fp
  obj : ∀ i h, tn i h → ∀ b ∈ fp, ∃ o, h.get? b = some o ∧ ∀ v, o.data ≠ .cell v
  keep : ∀ i h h', tn i h → (∀ b ∈ fp, ∀ o, h.get? b = some o → h'.get? b = some o) → tn i h'
  item : ∀ (X : Cx), X.prog = P → X.w = w → X.K = K → X.calm = true → ∀ (i : Nat) (pins : List (Addr × Obj)) (s : Shared) (σ : St) (H : Hp) (E : Value → Shared → Prop), Inv X pins σ H s → (∀ b ∈ fp, FpOk X pins H b) → tn i s.heap → J.go i H →
    wpAny (model P w) X.A (pyNext (.ref it)) (fun r s1 => ∃ u, r = some u ∧
      wpAny (model P w) X.A (letOwnedTupleGo tg (.ref it) u) (fun _ s2 => ∃ x H', Inv X pins σ H' s2 ∧ RelV x u ∧ J.yld i H x H' ∧ tn (i + 1) s2.heap ∧ ∀ b ∈ fp, H' b = none) E s1) E s
  done : ∀ (X : Cx), X.prog = P → X.w = w → X.K = K → X.calm = true → ∀ (i : Nat) (pins : List (Addr × Obj)) (s : Shared) (σ : St) (H : Hp) (E : Value → Shared → Prop), Inv X pins σ H s → (∀ b ∈ fp, FpOk X pins H b) → tn i s.heap → J.stop i H →
    wpAny (model P w) X.A (pyNext (.ref it)) (fun r s1 => r = none ∧ Inv X pins σ H s1) E s
  self : ∀ (A : Around) (i : Nat) (s : Shared) (Q : Value → Shared → Prop) (E : Value → Shared → Prop), tn i s.heap → Q (.ref it) s → wpAny (model P w) A (pyIter (.ref it)) Q E s
abbrev TI := St → Hp → (It → Hp → Prop) → Prop
/-- an iterator has come -/
def PIE (X : Cx) (pins : List (Addr × Obj)) (σ : St) (tg : Expr) (R : It → Hp → Prop) (itv : Value) (s2 : Shared) : Prop :=
  ∃ (it : Addr) (fp : List Addr) (tn : Nat → Heap → Prop) (J : It) (H' : Hp), itv = .ref it ∧ Inv X pins σ H' s2 ∧ Turn X.prog X.w X.K tg J fp it tn ∧ tn 0 s2.heap ∧ (∀ b ∈ fp, FpOk X pins H' b) ∧ R J H'
def PI (X : Cx) (tg iter : Expr) (wi : TI) : Prop :=
  ∀ (pins : List (Addr × Obj)) (s : Shared) (σ : St) (H : Hp) (R : It → Hp → Prop), Inv X pins σ H s → wi σ H R →
    wpAny (model X.prog X.w) X.A (eval iter X.env) (fun v s1 => wpAny (model X.prog X.w) X.A (pyIter v) (PIE X pins σ tg R) X.xe s1) X.xe s

/-- the step ahead of the store is nothing for an iterator that keeps no tuple -/
theorem go_of {M : Model} {A : Around} {E : Value → Shared → Prop} {s : Shared} {tg : Expr} {it : Addr} {u : Value} {o : Obj} {n : String} {vs : Array Value} {Q : Unit → Shared → Prop} (ho : s.heap.get? it = some o) (hc : o.cls = .type n) (hd : o.data = .fields vs)
    (hn : ["enumerate", "zip", "dict_itemiterator", "dict_reverseitemiterator", "odict_iterator", "itertools.zip_longest", "itertools.pairwise"].contains n = false) (hQ : Q () s) : wpAny M A (letOwnedTupleGo tg (.ref it) u) Q E s := by
  unfold letOwnedTupleGo
  cases tg <;> first
    | exact wpAny_pure hQ
    | (cases u <;> first
        | exact wpAny_pure hQ
        | (refine wpAny_bind (wpAny_load ho ?_)
           rw [hc, hd]
           show wpAny M A (if (["enumerate", "zip", "dict_itemiterator", "dict_reverseitemiterator", "odict_iterator", "itertools.zip_longest", "itertools.pairwise"].contains n && vs[0]? == some (rawInt _)) = true then _ else _) Q E s
           rw [if_neg (by intro h; rw [hn, Bool.false_and] at h; cases h)]
           exact wpAny_pure hQ))

/-- the list at a, as it stands at each turn (a loop may append to it) -/
def Itl (K : PySem.W.Frag) (a : Addr) : It :=
  ⟨fun i H => ∃ xs x, SqL K H a xs ∧ xs[i]? = some x, fun i H x H' => H' = H ∧ ∀ xs, SqL K H a xs → xs[i]? = some x, fun i H => ∃ xs, SqL K H a xs ∧ xs.length ≤ i⟩
def Itt (K : PySem.W.Frag) (a : Addr) : It :=
  ⟨fun i H => ∃ xs x, SqT K H a xs ∧ xs[i]? = some x, fun i H x H' => H' = H ∧ ∀ xs, SqT K H a xs → xs[i]? = some x, fun i H => ∃ xs, SqT K H a xs ∧ xs.length ≤ i⟩
/-- lo, lo + 1, .. (n of them) -/
def Itr (lo : Int) (n : Nat) : It := ⟨fun i _ => i < n, fun i H x H' => H' = H ∧ x = .int (lo + i), fun i _ => n ≤ i⟩
theorem turn_list {P : Program} {w : World} {K : PySem.W.Frag} {tg : Expr} (a it : Addr) : Turn P w K tg (Itl K a) [it] it (fun i h => h.IsListIter it a i) where
  mem := by simp
  obj := fun i h st b hb => by
    have e : b = it := by simpa using hb
    subst e
    obtain ⟨o, e, c, d⟩ := st
    exact ⟨o, e, fun v z => by rw [d] at z; cases z⟩
  keep := fun i h h' st k => st.at fun o e => k it (by simp) o e
  item := by
    intro X hP hw hK hc i pins s σ H E I hf st hg
    subst hP hw hK
    obtain ⟨xs, x, hq, hx⟩ := hg
    obtain ⟨its, rv, p, hz⟩ := I.list hq
    obtain ⟨u, hu, ru⟩ := rv.get hx
    obtain ⟨f0, f1, f2, f3, f4, f5⟩ := hf it (by simp)
    refine wpAny_pyNext_list_item st p.isList (x := u) (by simpa using hu) fun h' st' sb => ?_
    have I1 : Inv X pins σ H { s with heap := h' } := I.turned (t' := s.toks) (fun b o hb e => (sb.2 b hb).trans e) f0 f1 f3 f4 f5
    obtain ⟨o, e, c, d⟩ := id st'
    exact ⟨u, rfl, go_of (s := { s with heap := h' }) e c d (by decide) ⟨x, H, I1, ru, ⟨rfl, fun ys hy => by rw [I.list_inj hy hq]; exact hx⟩, st', fun b hb => (hf b hb).1⟩⟩
  done := by
    intro X hP hw hK hc i pins s σ H E I hf st hg
    subst hP hw hK
    obtain ⟨xs, hq, hx⟩ := hg
    obtain ⟨its, rv, p, hz⟩ := I.list hq
    obtain ⟨f0, f1, f2, f3, f4, f5⟩ := hf it (by simp)
    have hl := rv.length
    exact wpAny_pyNext_list_end (I.ok.hd hc) st p.isList (by simp; omega) fun h' eb => ⟨rfl, I.turned (t' := s.toks) (fun b o hb e => eb b o hb e) f0 f1 f3 f4 f5⟩
  self := fun _ _ _ _ _ st h => wpAny_pyIter_listiter st h
theorem turn_tuple {P : Program} {w : World} {K : PySem.W.Frag} {tg : Expr} (a it : Addr) : Turn P w K tg (Itt K a) [it] it (fun i h => h.IsTupleIter it a i) where
  mem := by simp
  obj := fun i h st b hb => by
    have e : b = it := by simpa using hb
    subst e
    obtain ⟨o, e, c, d⟩ := st
    exact ⟨o, e, fun v z => by rw [d] at z; cases z⟩
  keep := fun i h h' st k => st.at fun o e => k it (by simp) o e
  item := by
    intro X hP hw hK hc i pins s σ H E I hf st hg
    subst hP hw hK
    obtain ⟨xs, x, hq, hx⟩ := hg
    obtain ⟨its, rv, p, hz⟩ := I.tuple hq
    obtain ⟨u, hu, ru⟩ := rv.get hx
    obtain ⟨f0, f1, f2, f3, f4, f5⟩ := hf it (by simp)
    refine wpAny_pyNext_tuple_item st (show s.heap.IsTuple a its.toArray from p) (x := u) (by simpa using hu) fun h' st' sb => ?_
    have I1 : Inv X pins σ H { s with heap := h' } := I.turned (t' := s.toks) (fun b o hb e => (sb.2 b hb).trans e) f0 f1 f3 f4 f5
    obtain ⟨o, e, c, d⟩ := id st'
    exact ⟨u, rfl, go_of (s := { s with heap := h' }) e c d (by decide) ⟨x, H, I1, ru, ⟨rfl, fun ys hy => by rw [I.tuple_inj hy hq]; exact hx⟩, st', fun b hb => (hf b hb).1⟩⟩
  done := by
    intro X hP hw hK hc i pins s σ H E I hf st hg
    subst hP hw hK
    obtain ⟨xs, hq, hx⟩ := hg
    obtain ⟨its, rv, p, hz⟩ := I.tuple hq
    obtain ⟨f0, f1, f2, f3, f4, f5⟩ := hf it (by simp)
    have hl := rv.length
    exact wpAny_pyNext_tuple_end (I.ok.hd hc) st (show s.heap.IsTuple a its.toArray from p) (by simp; omega) fun h' eb => ⟨rfl, I.turned (t' := s.toks) (fun b o hb e => eb b o hb e) f0 f1 f3 f4 f5⟩
  self := fun _ _ _ _ _ st h => wpAny_pyIter_tupleiter st h
theorem turn_range {P : Program} {w : World} {K : PySem.W.Frag} {tg : Expr} (it : Addr) (lo : Int) (n : Nat) : Turn P w K tg (Itr lo n) [it] it (fun i h => IsRangeIter h it (lo + (i : Nat) * 1) ((n : Int) - (i : Nat)) 1) where
  mem := by simp
  obj := fun i h st b hb => by
    have e : b = it := by simpa using hb
    subst e
    exact ⟨_, st, fun v z => by
      have z' : Data.fields _ = Data.cell v := z
      cases z'⟩
  keep := fun i h h' st k => k it (by simp) _ st
  item := by
    intro X hP hw hK hc i pins s σ H E I hf st hg
    subst hP hw hK
    obtain ⟨f0, f1, f2, f3, f4, f5⟩ := hf it (by simp)
    have W := Walks.range (prog := X.prog) (w := X.w) (I.ok.hd hc) it lo 1 n
    refine W.item i s _ _ hg st fun v h' tk hv st' kk => ?_
    obtain ⟨t, rfl⟩ := hv
    have I1 : Inv X pins σ H { s with heap := h', toks := tk } := I.turned (fun b o hb e => kk b o (by simpa using hb) e) f0 f1 f3 f4 f5
    refine ⟨_, rfl, go_of (s := { s with heap := h', toks := tk }) (n := "range_iterator") st' rfl rfl (by decide) ⟨.int (lo + i), H, I1, ⟨t, ?_⟩, ⟨rfl, rfl⟩, st', fun b hb => (hf b hb).1⟩⟩
    rw [Int.mul_one]
  done := by
    intro X hP hw hK hc i pins s σ H E I hf st hg
    subst hP hw hK
    obtain ⟨f0, f1, f2, f3, f4, f5⟩ := hf it (by simp)
    exact wpAny_pyNext_range_end (I.ok.hd hc) st (by have : n ≤ i := hg; omega) fun h' eb => ⟨rfl, I.turned (t' := s.toks) (fun b o hb e => eb b o hb e) f0 f1 f3 f4 f5⟩
  self := fun _ _ _ _ _ st h => wpAny_pyIter_rangeiter st h
end L2

namespace L2
open PySem PySem.Spec PyProof.Rows
section
variable {X : Cx} {tg : Expr}
def iList (K : PySem.W.Frag) (tl : TE) : TI := fun σ H R => tl σ H fun x H1 => ∃ a, x = .ref a ∧ (∃ xs, SqL K H1 a xs) ∧ R (Itl K a) H1
def iTup (K : PySem.W.Frag) (tl : TE) : TI := fun σ H R => tl σ H fun x H1 => ∃ a, x = .ref a ∧ (∃ xs, SqT K H1 a xs) ∧ R (Itt K a) H1
theorem pi_list {l : Expr} {tl : TE} (hl : PE X l tl) : PI X tg l (iList X.K tl) := by
  intro pins s σ H R I h
  refine thn (hl pins s σ H _ I h) fun v s1 ⟨x, H1, I1, r1, q1⟩ => ?_
  obtain ⟨a, e, ⟨xs, hq⟩, q⟩ := q1
  subst e
  cases r1
  obtain ⟨its, rv, p, hz⟩ := I1.list hq
  refine wpAny_pyIter_list p.isList ?_
  refine ⟨s1.heap.objs.size, [s1.heap.objs.size], _, _, H1, rfl, I1.kept (t' := s1.toks) fun b o e => Heap.get?_push_of_some _ e, turn_list a _, ⟨_, Heap.get?_push_size _ rfl, rfl, rfl⟩, fun b hb => ?_, q⟩
  have e : b = s1.heap.objs.size := by simpa using hb
  subst e
  exact I1.fpOk (Nat.le_refl _) (I1.hok.fresh (Nat.le_refl _))
theorem pi_tup {l : Expr} {tl : TE} (hl : PE X l tl) : PI X tg l (iTup X.K tl) := by
  intro pins s σ H R I h
  refine thn (hl pins s σ H _ I h) fun v s1 ⟨x, H1, I1, r1, q1⟩ => ?_
  obtain ⟨a, e, ⟨xs, hq⟩, q⟩ := q1
  subst e
  cases r1
  obtain ⟨its, rv, p, hz⟩ := I1.tuple hq
  refine wpAny_pyIter_tuple (show s1.heap.IsTuple a its.toArray from p) ?_
  refine ⟨s1.heap.objs.size, [s1.heap.objs.size], _, _, H1, rfl, I1.kept (t' := s1.toks) fun b o e => Heap.get?_push_of_some _ e, turn_tuple a _, ⟨_, Heap.get?_push_size _ rfl, rfl, rfl⟩, fun b hb => ?_, q⟩
  have e : b = s1.heap.objs.size := by simpa using hb
  subst e
  exact I1.fpOk (Nat.le_refl _) (I1.hok.fresh (Nat.le_refl _))
/-- a range object just made, walked -/
theorem range_it {pins : List (Addr × Obj)} {σ : St} {H : Hp} {s : Shared} {R : It → Hp → Prop} {E : Value → Shared → Prop} {lo hi : Int} {t u v : Tok} {tk : Nat} (I : Inv X pins σ H s) (h1 : -(2 ^ 62) ≤ lo) (h2 : lo < 2 ^ 62) (h3 : -(2 ^ 62) ≤ hi) (h4 : hi < 2 ^ 62)
    (q : R (Itr lo (hi - lo).toNat) H) : wpAny (model X.prog X.w) X.A (pyIter (.ref s.heap.objs.size)) (PIE X pins σ tg R) E { s with heap := s.heap.push { cls := .type "range", data := .fields #[.int lo t, .int hi u, .int 1 v] }, toks := tk } := by
  refine wpAny_pyIter_range (IsRange.new ..) (small_one h1 h2 h3 h4) ?_
  have I1 : Inv X pins σ H { s with heap := s.heap.push { cls := .type "range", data := .fields #[.int lo t, .int hi u, .int 1 v] }, toks := tk } := I.kept fun b o e => Heap.get?_push_of_some _ e
  refine ⟨(s.heap.push { cls := .type "range", data := .fields #[.int lo t, .int hi u, .int 1 v] }).objs.size, [(s.heap.push { cls := .type "range", data := .fields #[.int lo t, .int hi u, .int 1 v] }).objs.size], _, _, H, rfl,
    I1.kept (t' := tk) fun b o e => Heap.get?_push_of_some _ e, turn_range _ lo (hi - lo).toNat, ?_, fun b hb => ?_, q⟩
  · have e1 : lo + ((0 : Nat) : Int) * 1 = lo := by simp
    have e2 : (((hi - lo).toNat : Nat) : Int) - ((0 : Nat) : Int) = Builtin.Range.rangeSize lo hi 1 := by rw [rangeSize_one]; split <;> omega
    show IsRangeIter _ _ (lo + ((0 : Nat) : Int) * 1) ((((hi - lo).toNat : Nat) : Int) - ((0 : Nat) : Int)) 1
    rw [e1, e2]
    exact Heap.get?_push_size _ rfl
  · have e : b = (s.heap.push { cls := .type "range", data := .fields #[.int lo t, .int hi u, .int 1 v] }).objs.size := by simpa using hb
    subst e
    exact I1.fpOk (Nat.le_refl _) (I1.hok.fresh (Nat.le_refl _))
def iRng1 (ta : TA) : TI := fun σ H R => ta σ H fun vs H1 => ∃ j : Int, vs = [.int j] ∧ -(2 ^ 62) ≤ j ∧ j < 2 ^ 62 ∧ R (Itr 0 j.toNat) H1
theorem pi_range1 {a : Expr} {ta : TA} {p pos : Pos} (hg : Gl X "range") (hm : X.mg "range" = none) (ha : PA X [a] ta) (hs : starEach [a] X.env = [(false, eval a X.env)] := by rfl) : PI X tg (.Call (.Name "range" p) [a] [] pos) (iRng1 ta) := by
  intro pins s σ H R I h
  refine Call_ (ld_blt I hg hm boot_range (PyProof.Rows.callWith_type1 (thn (ha pos pins s σ H _ I h) fun us s1 ⟨vs, H1, I1, r1, q1⟩ => ?_) hs rfl))
  obtain ⟨j, e, q1, q2, q⟩ := q1
  subst e
  cases r1 with
  | cons r rr =>
    cases rr
    obtain ⟨t, rfl⟩ := r
    exact call_range_1 (range_it I1 (by omega) (by omega) q1 q2 (by simpa using q))

/-! ### for -/
/-- W: the invariant by the turn and a measure; N: what the body is to reach -/
def tFor (wi : TI) (g : TG) (tb : TS) : TS := fun D σ H => wi σ H fun J H1 => ∃ W : Nat → Nat → St → Hp → Prop, (∃ m, W 0 m σ H1) ∧ ∀ i m σ H, W i m σ H →
  (J.stop i H ∧ D.nx σ H) ∨ (J.go i H ∧ ∃ N : St → Hp → Prop, (∀ σ' H', N σ' H' → ∃ m', m' < m ∧ W (i + 1) m' σ' H') ∧ ∀ x H', J.yld i H x H' → g x σ H' fun σ2 H2 => tb { D with nx := N, ct := N, bk := D.nx } σ2 H2)
/-- the records at fp as they stand -/
def pinsAt (fp : List Addr) (h : Heap) : List (Addr × Obj) := fp.filterMap fun b => (h.get? b).map fun o => (b, o)
theorem mem_pinsAt {fp : List Addr} {h : Heap} {b : Addr} {o : Obj} (hb : b ∈ fp) (e : h.get? b = some o) : (b, o) ∈ pinsAt fp h := List.mem_filterMap.mpr ⟨b, hb, by rw [e]; rfl⟩
theorem of_pinsAt {fp : List Addr} {h : Heap} {p : Addr × Obj} (hp : p ∈ pinsAt fp h) : p.1 ∈ fp ∧ h.get? p.1 = some p.2 := by
  obtain ⟨b, hb, e⟩ := List.mem_filterMap.mp hp
  cases q : h.get? b with
  | none => rw [q] at e; cases e
  | some o =>
    rw [q] at e
    have e' : (b, o) = p := Option.some.inj e
    subst e'
    exact ⟨hb, q⟩
theorem Inv.pinned {pins : List (Addr × Obj)} {σ : St} {H : Hp} {s : Shared} {fp : List Addr} (I : Inv X pins σ H s) (hf : ∀ b ∈ fp, FpOk X pins H b) (ho : ∀ b ∈ fp, ∃ o, s.heap.get? b = some o ∧ ∀ v, o.data ≠ .cell v) : Inv X (pins ++ pinsAt fp s.heap) σ H s :=
  I.pins_of fun p hp => (List.mem_append.mp hp).elim (fun z => I.pin p (List.mem_append_right _ z)) fun z => by
    obtain ⟨hb, e⟩ := of_pinsAt z
    obtain ⟨f0, f1, f2, _⟩ := hf p.1 hb
    obtain ⟨o, e', d⟩ := ho p.1 hb
    rw [e] at e'; cases e'
    exact ⟨e, f0, f1, f2, d⟩
theorem Inv.unpinned {pins pl : List (Addr × Obj)} {σ : St} {H : Hp} {s : Shared} (I : Inv X (pins ++ pl) σ H s) : Inv X pins σ H s := I.pins_of fun p hp => I.pin p (List.mem_append_right _ (List.mem_append_left _ hp))
theorem ps_for {iter : Expr} {body : List Stmt} {wi : TI} {g : TG} {tb : TS} {pos : Pos} (hp : PassesOwn (model X.prog X.w) X.A X.env X.xe) (hc : X.calm = true) (hi : PI X tg iter wi) (hg : PG X tg g) (hb : PSs X body tb)
    (hs : ∀ x, foldedSetIterable iter X.env x = pure x := by intro _; rfl) : PS X (.For tg iter body [] pos) (tFor wi g tb) := by
  intro pins s σ H D I h
  refine wpAny_For (thn (hi pins s σ H _ I h) fun v s1 h1 => thn h1 fun itv s2 h2 => ?_) hs
  obtain ⟨it, fp, tn, J, H2, e, I2, T, st2, f2, W, ⟨m0, w0⟩, turn⟩ := h2
  subst e
  -- what stays true of the iterator's objects through the loop
  have stat : ∀ {H' : Hp}, (∀ b ∈ fp, H' b = none) → ∀ b ∈ fp, FpOk X pins H' b := fun hn b hb => ⟨hn b hb, (f2 b hb).2⟩
  refine codeAny_forLoop_any (fun n s' => ∃ i σ' H', Inv X pins σ' H' s' ∧ tn i s'.heap ∧ (∀ b ∈ fp, H' b = none) ∧ W i n σ' H') ?_ m0 ⟨0, σ, H2, I2, st2, fun b hb => (f2 b hb).1, w0⟩
  rintro n s3 ⟨i, σ3, H3, I3, st3, fr3, w3⟩
  rcases turn i n σ3 H3 w3 with ⟨stop, qn⟩ | ⟨go, N, hN, step⟩
  · refine wpAny_passesOwn hp (thn (T.done X rfl rfl rfl hc i pins s3 σ3 H3 X.xe I3 (stat fr3) st3 stop) fun r s4 ⟨hr, I4⟩ => ?_)
    subst hr
    exact wpAny_execs_nil ⟨σ3, H3, I4, qn⟩
  · refine wpAny_passesOwn hp (thn (T.item X rfl rfl rfl hc i pins s3 σ3 H3 X.xe I3 (stat fr3) st3 go) fun r s4 ⟨u, hr, h4⟩ => ?_)
    subst hr
    refine wpAny_passesOwn hp (thn h4 fun _ s5 ⟨x, H5, I5, r5, y5, st5, fr5⟩ => ?_)
    have I5' := I5.pinned (stat fr5) (T.obj _ _ st5)
    refine wpAny_passesOwn hp (thn (hg _ s5 σ3 H5 x u _ I5' r5 (step x H5 y5)) fun _ s6 ⟨σ6, H6, I6, q6⟩ => ?_)
    refine wpAny_passesOwn hp (thn (hb _ s6 σ6 H6 _ I6 q6) fun f s7 q7 => ?_)
    have again : ∀ {σ7 : St} {H7 : Hp}, Inv X (pins ++ pinsAt fp s5.heap) σ7 H7 s7 → N σ7 H7 → ∃ m, m < n ∧ ∃ i σ' H', Inv X pins σ' H' s7 ∧ tn i s7.heap ∧ (∀ b ∈ fp, H' b = none) ∧ W i m σ' H' := fun {σ7 H7} I7 n7 => by
      obtain ⟨m', hm, w7⟩ := hN σ7 H7 n7
      refine ⟨m', hm, i + 1, σ7, H7, I7.unpinned, T.keep _ _ _ st5 fun b hb o e => (I7.pin (b, o) (List.mem_append_right _ (List.mem_append_right _ (mem_pinsAt hb e)))).1, fun b hb => ?_, w7⟩
      obtain ⟨o, e, d⟩ := T.obj _ _ st5 b hb
      exact (I7.pin (b, o) (List.mem_append_right _ (List.mem_append_right _ (mem_pinsAt hb e)))).2.1
    cases f with
    | next => obtain ⟨σ7, H7, I7, n7⟩ := q7; exact again I7 n7
    | cont => obtain ⟨σ7, H7, I7, n7⟩ := q7; exact again I7 n7
    | brk => obtain ⟨σ7, H7, I7, q7⟩ := q7; exact ⟨σ7, H7, I7.unpinned, q7⟩
    | ret v => obtain ⟨x7, σ7, H7, I7, r7, q7⟩ := q7; exact ⟨x7, σ7, H7, I7.unpinned, r7, q7⟩
end

/-! ### the forms one uses -/
/-- over a list that the body leaves as it is -/
theorem for_list {K : PySem.W.Frag} {a : Addr} {xs : List V} {g : TG} {tb : TS} {D : Ends} {σ : St} {H : Hp} (Pv : Nat → St → Hp → Prop) (h0 : Pv 0 σ H) (hl : ∀ i σ H, i ≤ xs.length → Pv i σ H → SqL K H a xs)
    (hs : ∀ i x σ H, xs[i]? = some x → Pv i σ H → g x σ H fun σ2 H2 => tb { D with nx := Pv (i + 1), ct := Pv (i + 1), bk := D.nx } σ2 H2) (hd : ∀ σ H, Pv xs.length σ H → D.nx σ H) :
    ∃ W : Nat → Nat → St → Hp → Prop, (∃ m, W 0 m σ H) ∧ ∀ i m σ H, W i m σ H →
      ((Itl K a).stop i H ∧ D.nx σ H) ∨ ((Itl K a).go i H ∧ ∃ N : St → Hp → Prop, (∀ σ' H', N σ' H' → ∃ m', m' < m ∧ W (i + 1) m' σ' H') ∧ ∀ x H', (Itl K a).yld i H x H' → g x σ H' fun σ2 H2 => tb { D with nx := N, ct := N, bk := D.nx } σ2 H2) := by
  refine ⟨fun i m σ H => m = xs.length - i ∧ i ≤ xs.length ∧ Pv i σ H, ⟨xs.length, by simp, Nat.zero_le _, h0⟩, ?_⟩
  rintro i m σ H ⟨rfl, hi, p⟩
  have q := hl i σ H hi p
  by_cases hlt : i < xs.length
  · refine .inr ⟨⟨xs, xs[i], q, by simp [hlt]⟩, Pv (i + 1), fun σ' H' p' => ⟨xs.length - (i + 1), by omega, rfl, hlt, p'⟩, fun x H' y => ?_⟩
    obtain ⟨e, y⟩ := y
    subst e
    exact hs i x σ _ (y xs q) p
  · have e : i = xs.length := by omega
    subst e
    exact .inl ⟨⟨xs, q, Nat.le_refl _⟩, hd σ H p⟩
theorem for_tup {K : PySem.W.Frag} {a : Addr} {xs : List V} {g : TG} {tb : TS} {D : Ends} {σ : St} {H : Hp} (Pv : Nat → St → Hp → Prop) (h0 : Pv 0 σ H) (hl : ∀ i σ H, i ≤ xs.length → Pv i σ H → SqT K H a xs)
    (hs : ∀ i x σ H, xs[i]? = some x → Pv i σ H → g x σ H fun σ2 H2 => tb { D with nx := Pv (i + 1), ct := Pv (i + 1), bk := D.nx } σ2 H2) (hd : ∀ σ H, Pv xs.length σ H → D.nx σ H) :
    ∃ W : Nat → Nat → St → Hp → Prop, (∃ m, W 0 m σ H) ∧ ∀ i m σ H, W i m σ H →
      ((Itt K a).stop i H ∧ D.nx σ H) ∨ ((Itt K a).go i H ∧ ∃ N : St → Hp → Prop, (∀ σ' H', N σ' H' → ∃ m', m' < m ∧ W (i + 1) m' σ' H') ∧ ∀ x H', (Itt K a).yld i H x H' → g x σ H' fun σ2 H2 => tb { D with nx := N, ct := N, bk := D.nx } σ2 H2) := by
  refine ⟨fun i m σ H => m = xs.length - i ∧ i ≤ xs.length ∧ Pv i σ H, ⟨xs.length, by simp, Nat.zero_le _, h0⟩, ?_⟩
  rintro i m σ H ⟨rfl, hi, p⟩
  have q := hl i σ H hi p
  by_cases hlt : i < xs.length
  · refine .inr ⟨⟨xs, xs[i], q, by simp [hlt]⟩, Pv (i + 1), fun σ' H' p' => ⟨xs.length - (i + 1), by omega, rfl, hlt, p'⟩, fun x H' y => ?_⟩
    obtain ⟨e, y⟩ := y
    subst e
    exact hs i x σ _ (y xs q) p
  · have e : i = xs.length := by omega
    subst e
    exact .inl ⟨⟨xs, q, Nat.le_refl _⟩, hd σ H p⟩
theorem for_range {lo : Int} {n : Nat} {g : TG} {tb : TS} {D : Ends} {σ : St} {H : Hp} (Pv : Nat → St → Hp → Prop) (h0 : Pv 0 σ H)
    (hs : ∀ i σ H, i < n → Pv i σ H → g (.int (lo + i)) σ H fun σ2 H2 => tb { D with nx := Pv (i + 1), ct := Pv (i + 1), bk := D.nx } σ2 H2) (hd : ∀ σ H, Pv n σ H → D.nx σ H) :
    ∃ W : Nat → Nat → St → Hp → Prop, (∃ m, W 0 m σ H) ∧ ∀ i m σ H, W i m σ H →
      ((Itr lo n).stop i H ∧ D.nx σ H) ∨ ((Itr lo n).go i H ∧ ∃ N : St → Hp → Prop, (∀ σ' H', N σ' H' → ∃ m', m' < m ∧ W (i + 1) m' σ' H') ∧ ∀ x H', (Itr lo n).yld i H x H' → g x σ H' fun σ2 H2 => tb { D with nx := N, ct := N, bk := D.nx } σ2 H2) := by
  refine ⟨fun i m σ H => m = n - i ∧ i ≤ n ∧ Pv i σ H, ⟨n, by simp, Nat.zero_le _, h0⟩, ?_⟩
  rintro i m σ H ⟨rfl, hi, p⟩
  by_cases hlt : i < n
  · refine .inr ⟨hlt, Pv (i + 1), fun σ' H' p' => ⟨n - (i + 1), by omega, rfl, hlt, p'⟩, fun x H' y => ?_⟩
    obtain ⟨e, y⟩ := y
    subst e y
    exact hs i σ _ hlt p
  · have e : i = n := by omega
    subst e
    exact .inl ⟨Nat.le_refl _, hd σ H p⟩
end L2

namespace L2
open PySem PySem.Spec PyProof.Rows

abbrev R2 := V → V → Hp → VK → Prop
/-- a two-place operation on values: f is binaryOp op, inplaceOp op or compareOp op -/
def OpR (X : Cx) (f : Value → Value → Sem Value) (r : R2) : Prop :=
  ∀ (pins : List (Addr × Obj)) (s : Shared) (σ : St) (H : Hp) (x y : V) (v u : Value) (Q : VK), Inv X pins σ H s → RelV x v → RelV y u → r x y H Q →
    wpAny (model X.prog X.w) X.A (f v u) (EP X pins σ Q) X.xe s
/-- a one-place operation -/
def UnR (X : Cx) (f : Value → Sem Value) (r : V → Hp → VK → Prop) : Prop :=
  ∀ (pins : List (Addr × Obj)) (s : Shared) (σ : St) (H : Hp) (x : V) (v : Value) (Q : VK), Inv X pins σ H s → RelV x v → r x H Q →
    wpAny (model X.prog X.w) X.A (f v) (EP X pins σ Q) X.xe s
/-- a call of a value that is known (a builtin, a type) with values -/
def CallR (X : Cx) (f : Value) (r : List V → Hp → VK → Prop) : Prop :=
  ∀ (pins : List (Addr × Obj)) (s : Shared) (σ : St) (H : Hp) (xs : List V) (us : List Value) (Q : VK), Inv X pins σ H s → Vals xs us → r xs H Q →
    wpAny (model X.prog X.w) X.A (call f us) (EP X pins σ Q) X.xe s

def tOp (r : R2) (ta tb : TE) : TE := fun σ H Q => ta σ H fun x H1 => tb σ H1 fun y H2 => r x y H2 Q
def tUn (r : V → Hp → VK → Prop) (ta : TE) : TE := fun σ H Q => ta σ H fun x H1 => r x H1 Q
/-- ints in, under C, and a value out -/
def rI (C : Int → Int → Prop) (g : Int → Int → V) : R2 := fun x y H Q => ∃ i j, x = .int i ∧ y = .int j ∧ C i j ∧ Q (g i j) H
def rI0 (g : Int → Int → V) : R2 := fun x y H Q => ∃ i j, x = .int i ∧ y = .int j ∧ Q (g i j) H
def rU (g : Int → V) : V → Hp → VK → Prop := fun x H Q => ∃ i, x = .int i ∧ Q (g i) H

section
variable {X : Cx} {a b c : Expr} {ta tb tc : TE} {pos : Pos}

theorem binT (ha : PE X a ta) (hb : PE X b tb) {pins : List (Addr × Obj)} {s : Shared} {σ : St} {H : Hp} {R : V → V → Hp → Prop} (I : Inv X pins σ H s)
    (h : ta σ H fun x H1 => tb σ H1 fun y H2 => R x y H2) {Q : Value → Shared → Prop} {f : Value → Value → Sem Value}
    (hf : ∀ v u s2 x y H2, Inv X pins σ H2 s2 → RelV x v → RelV y u → R x y H2 → wpAny (model X.prog X.w) X.A (f v u) Q X.xe s2) :
    wpAny (model X.prog X.w) X.A (eval a X.env) (fun v s₁ => wpAny (model X.prog X.w) X.A (eval b X.env) (fun u s₂ => wpAny (model X.prog X.w) X.A (f v u) Q X.xe s₂) X.xe s₁) X.xe s := by
  refine thn (ha pins s σ H _ I h) fun v s1 ⟨x, H1, I1, r1, q1⟩ => ?_
  refine thn (hb pins s1 σ H1 _ I1 q1) fun u s2 ⟨y, H2, I2, r2, q2⟩ => ?_
  exact hf v u s2 x y H2 I2 r1 r2 q2

theorem pe_op {op : Operator} {r : R2} (ho : OpR X (binaryOp op) r) (ha : PE X a ta) (hb : PE X b tb) : PE X (.BinOp a op b pos) (tOp r ta tb) := by
  intro pins s σ H Q I h
  exact wpAny_BinOp (binT ha hb I h fun v u s2 x y H2 I2 rx ry q => ho pins s2 σ H2 x y v u Q I2 rx ry q)
theorem pe_un {op : UnaryOp} {r : V → Hp → VK → Prop} (ho : UnR X (unaryOp op) r) (ha : PE X a ta) : PE X (.UnaryOp op a pos) (tUn r ta) := by
  intro pins s σ H Q I h
  exact UnaryOp_ (thn (ha pins s σ H _ I h) fun v s1 ⟨x, H1, I1, r1, q1⟩ => ho pins s1 σ H1 x v Q I1 r1 q1)

/-! ### ints -/
theorem opI {f : Value → Value → Sem Value} {C : Int → Int → Prop} {g : Int → Int → Int}
    (rule : ∀ (i j : Int) (t u : Tok) (s : Shared) (Q : Value → Shared → Prop) (E : Value → Shared → Prop), C i j → Q (.int (g i j) s.toks) { s with toks := s.toks + 1 } → wpAny (model X.prog X.w) X.A (f (.int i t) (.int j u)) Q E s) :
    OpR X f (rI C fun i j => .int (g i j)) := by
  intro pins s σ H x y v u Q I rx ry h
  obtain ⟨i, j, rfl, rfl, hc, q⟩ := h
  obtain ⟨t, rfl⟩ := rx
  obtain ⟨t', rfl⟩ := ry
  exact rule i j t t' s _ _ hc ⟨.int (g i j), H, I.tok _, ⟨_, rfl⟩, q⟩
theorem opI0 {f : Value → Value → Sem Value} {g : Int → Int → Int}
    (rule : ∀ (i j : Int) (t u : Tok) (s : Shared) (Q : Value → Shared → Prop) (E : Value → Shared → Prop), Q (.int (g i j) s.toks) { s with toks := s.toks + 1 } → wpAny (model X.prog X.w) X.A (f (.int i t) (.int j u)) Q E s) :
    OpR X f (rI0 fun i j => .int (g i j)) := by
  intro pins s σ H x y v u Q I rx ry h
  obtain ⟨i, j, rfl, rfl, q⟩ := h
  obtain ⟨t, rfl⟩ := rx
  obtain ⟨t', rfl⟩ := ry
  exact rule i j t t' s _ _ ⟨.int (g i j), H, I.tok _, ⟨_, rfl⟩, q⟩
theorem opB0 {f : Value → Value → Sem Value} {g : Int → Int → Bool}
    (rule : ∀ (i j : Int) (t u : Tok) (s : Shared) (Q : Value → Shared → Prop) (E : Value → Shared → Prop), Q (.bool (g i j)) s → wpAny (model X.prog X.w) X.A (f (.int i t) (.int j u)) Q E s) :
    OpR X f (rI0 fun i j => .bl (g i j)) := by
  intro pins s σ H x y v u Q I rx ry h
  obtain ⟨i, j, rfl, rfl, q⟩ := h
  obtain ⟨t, rfl⟩ := rx
  obtain ⟨t', rfl⟩ := ry
  exact rule i j t t' s _ _ ⟨.bl (g i j), H, I, rfl, q⟩

def CDiv (i j : Int) : Prop := 0 < j ∧ j < 1073741824
def CPow (i j : Int) : Prop := 0 ≤ j ∧ j ≤ 1000000 ∧ i.natAbs < 2 ^ 64
def CMul (i j : Int) : Prop := (-(2 ^ 64) < i ∧ i < 2 ^ 64) ∨ (-(2 ^ 64) < j ∧ j < 2 ^ 64)
theorem CMul.ok {i j : Int} (h : CMul i j) : IntMulOk i j := by
  rcases h with ⟨h1, h2⟩ | ⟨h1, h2⟩
  · exact .of_left (intBits_le_64 h1 h2)
  · exact .of_right (intBits_le_64 h1 h2)

theorem op_add : OpR X (binaryOp .Add) (rI0 fun i j => .int (i + j)) := opI0 fun _ _ _ _ _ _ _ q => add_int q
theorem op_sub : OpR X (binaryOp .Sub) (rI0 fun i j => .int (i - j)) := opI0 fun _ _ _ _ _ _ _ q => sub_int q
theorem op_mul : OpR X (binaryOp .Mult) (rI CMul fun i j => .int (i * j)) := opI fun _ _ _ _ _ _ _ hc q => mul_int q hc.ok
/-- // by a positive divisor -/
theorem op_fdiv : OpR X (binaryOp .FloorDiv) (rI CDiv fun i j => .int (i / j)) := opI fun i j _ _ _ _ _ hc q => by
  have h1 : (0 : Int) < j := hc.1
  have h2 : j < 1073741824 := hc.2
  exact floordiv_int (by omega) (by rw [Int.fdiv_eq_ediv_of_nonneg i (by omega)]; exact q) (.inl (PyProof.noPylong_small (by omega)))
/-- % by a positive divisor of any size -/
theorem op_mod : OpR X (binaryOp .Mod) (rI (fun _ j => 0 < j) fun i j => .int (i % j)) := opI fun i j _ _ _ _ _ hc q => by
  have h1 : (0 : Int) < j := hc
  exact mod_int' (by omega) (by rw [Int.fmod_eq_emod_of_nonneg i (by omega)]; exact q)
theorem op_pow : OpR X (binaryOp .Pow) (rI CPow fun i j => .int (i ^ j.toNat)) := opI fun _ _ _ _ _ _ _ hc q => pow_int_small hc.1 hc.2.1 hc.2.2 q


theorem unI {f : Value → Sem Value} {g : Int → Int}
    (rule : ∀ (i : Int) (t : Tok) (s : Shared) (Q : Value → Shared → Prop) (E : Value → Shared → Prop), Q (.int (g i) s.toks) { s with toks := s.toks + 1 } → wpAny (model X.prog X.w) X.A (f (.int i t)) Q E s) :
    UnR X f (rU fun i => .int (g i)) := by
  intro pins s σ H x v Q I rx h
  obtain ⟨i, rfl, q⟩ := h
  obtain ⟨t, rfl⟩ := rx
  exact rule i t s _ _ ⟨.int (g i), H, I.tok _, ⟨_, rfl⟩, q⟩
theorem un_neg : UnR X (unaryOp .USub) (rU fun i => .int (-i)) := unI fun _ _ _ _ _ q => neg_int q

/-! ### bools among ints: n += (a < b) -/
end

/-! ### comparisons -/
/-- the scalars that == tells apart as data does -/
def scal : V → V → Bool
  | .non, .non => true | .non, .int _ => true | .int _, .non => true | .non, .bl _ => true | .bl _, .non => true | .non, .str _ => true | .str _, .non => true
  | .int _, .int _ => true | .bl _, .bl _ => true | .str _, .str _ => true | .byt _, .byt _ => true
  | .int _, .str _ => true | .str _, .int _ => true | .bl _, .str _ => true | .str _, .bl _ => true
  | _, _ => false
def rEq : R2 := fun x y H Q => scal x y = true ∧ Q (.bl (decide (x = y))) H
def rNe : R2 := fun x y H Q => scal x y = true ∧ Q (.bl (!decide (x = y))) H

theorem dec_int {i j : Int} : decide (V.int i = V.int j) = (i == j) := by
  rw [Bool.eq_iff_iff]
  simp
theorem dec_bl {i j : Bool} : decide (V.bl i = V.bl j) = (i == j) := by
  rw [Bool.eq_iff_iff]
  simp
theorem dec_str {i j : Str} : decide (V.str i = V.str j) = (i == j) := by
  rw [Bool.eq_iff_iff]
  simp
theorem dec_byt {i j : Array UInt8} : decide (V.byt i = V.byt j) = (i.toList == j.toList) := by
  rw [Bool.eq_iff_iff]
  cases i
  cases j
  simp

section
variable {X : Cx} {a b c : Expr} {ta tb tc : TE} {pos : Pos}
theorem fin_bl {pins : List (Addr × Obj)} {σ : St} {H : Hp} {s : Shared} {Q : VK} {k k' : Bool} (I : Inv X pins σ H s) (q : Q (.bl k) H) (e : k = k') : EP X pins σ Q (.bool k') s := by
  subst e
  exact ⟨.bl k, H, I, rfl, q⟩
theorem op_eq : OpR X (compareOp .Eq) rEq := by
  intro pins s σ H x y v u Q I rx ry h
  obtain ⟨hs, q⟩ := h
  cases x with
  | non =>
    cases rx
    cases y with
    | non => cases ry; exact PySem.EqNone.eq_none_none (fin_bl I q (by simp))
    | bl j => cases ry; exact PySem.EqNone.eq_none_bool (fin_bl I q (by simp))
    | int j => obtain ⟨t', rfl⟩ := ry; exact PySem.EqNone.eq_none_int (fin_bl I q (by simp))
    | str j => obtain ⟨t', rfl⟩ := ry; exact PySem.EqNone.eq_none_str (fin_bl I q (by simp))
    | _ => exact absurd (show false = true from hs) Bool.false_ne_true
  | bl i =>
    cases rx
    cases y with
    | non => cases ry; exact PySem.EqNone.eq_bool_none (fin_bl I q (by simp))
    | bl j => cases ry; exact eq_bool (fin_bl I q dec_bl)
    | str j => obtain ⟨t', rfl⟩ := ry; exact PySem.EqMixed.eq_bool_str (fin_bl I q (by simp))
    | _ => exact absurd (show false = true from hs) Bool.false_ne_true
  | int i =>
    obtain ⟨t, rfl⟩ := rx
    cases y with
    | non => cases ry; exact PySem.EqNone.eq_int_none (fin_bl I q (by simp))
    | int j => obtain ⟨t', rfl⟩ := ry; exact eq_int (fin_bl I q dec_int)
    | str j => obtain ⟨t', rfl⟩ := ry; exact PySem.EqMixed.eq_int_str (fin_bl I q (by simp))
    | _ => exact absurd (show false = true from hs) Bool.false_ne_true
  | str i =>
    obtain ⟨t, rfl⟩ := rx
    cases y with
    | non => cases ry; exact PySem.EqNone.eq_str_none (fin_bl I q (by simp))
    | bl j => cases ry; exact PySem.EqMixed.eq_str_bool (fin_bl I q (by simp))
    | int j => obtain ⟨t', rfl⟩ := ry; exact PySem.EqMixed.eq_str_int (fin_bl I q (by simp))
    | str j => obtain ⟨t', rfl⟩ := ry; exact eq_str (fin_bl I q dec_str)
    | _ => exact absurd (show false = true from hs) Bool.false_ne_true
  | byt i =>
    obtain ⟨t, rfl⟩ := rx
    cases y with
    | byt j => obtain ⟨t', rfl⟩ := ry; exact PySem.W.eq_bytes (fin_bl I q dec_byt)
    | _ => exact absurd (show false = true from hs) Bool.false_ne_true
  | _ => cases y <;> exact absurd (show false = true from hs) Bool.false_ne_true
theorem op_ne : OpR X (compareOp .NotEq) rNe := by
  intro pins s σ H x y v u Q I rx ry h
  obtain ⟨hs, q⟩ := h
  cases x with
  | non =>
    cases rx
    cases y with
    | non => cases ry; exact PySem.EqNone.ne_none_none (fin_bl I q (by simp))
    | bl j => cases ry; exact PySem.EqNone.ne_none_bool (fin_bl I q (by simp))
    | int j => obtain ⟨t', rfl⟩ := ry; exact PySem.EqNone.ne_none_int (fin_bl I q (by simp))
    | str j => obtain ⟨t', rfl⟩ := ry; exact PySem.EqNone.ne_none_str (fin_bl I q (by simp))
    | _ => exact absurd (show false = true from hs) Bool.false_ne_true
  | bl i =>
    cases rx
    cases y with
    | non => cases ry; exact PySem.EqNone.ne_bool_none (fin_bl I q (by simp))
    | bl j => cases ry; exact ne_bool (fin_bl I q (congrArg not dec_bl))
    | str j => obtain ⟨t', rfl⟩ := ry; exact PySem.EqMixed.ne_bool_str (fin_bl I q (by simp))
    | _ => exact absurd (show false = true from hs) Bool.false_ne_true
  | int i =>
    obtain ⟨t, rfl⟩ := rx
    cases y with
    | non => cases ry; exact PySem.EqNone.ne_int_none (fin_bl I q (by simp))
    | int j => obtain ⟨t', rfl⟩ := ry; exact ne_int (fin_bl I q (congrArg not dec_int))
    | str j => obtain ⟨t', rfl⟩ := ry; exact PySem.EqMixed.ne_int_str (fin_bl I q (by simp))
    | _ => exact absurd (show false = true from hs) Bool.false_ne_true
  | str i =>
    obtain ⟨t, rfl⟩ := rx
    cases y with
    | non => cases ry; exact PySem.EqNone.ne_str_none (fin_bl I q (by simp))
    | bl j => cases ry; exact PySem.EqMixed.ne_str_bool (fin_bl I q (by simp))
    | int j => obtain ⟨t', rfl⟩ := ry; exact PySem.EqMixed.ne_str_int (fin_bl I q (by simp))
    | str j => obtain ⟨t', rfl⟩ := ry; exact ne_str (fin_bl I q (congrArg not dec_str))
    | _ => exact absurd (show false = true from hs) Bool.false_ne_true
  | byt i =>
    obtain ⟨t, rfl⟩ := rx
    cases y with
    | byt j => obtain ⟨t', rfl⟩ := ry; exact PySem.W.ne_bytes (fin_bl I q (congrArg not dec_byt))
    | _ => exact absurd (show false = true from hs) Bool.false_ne_true
  | _ => cases y <;> exact absurd (show false = true from hs) Bool.false_ne_true

theorem op_lt : OpR X (compareOp .Lt) (rI0 fun i j => .bl (decide (i < j))) := opB0 fun _ _ _ _ _ _ _ q => lt_int q
theorem op_le : OpR X (compareOp .LtE) (rI0 fun i j => .bl (decide (i ≤ j))) := opB0 fun _ _ _ _ _ _ _ q => le_int q
theorem op_gt : OpR X (compareOp .Gt) (rI0 fun i j => .bl (decide (j < i))) := opB0 fun _ _ _ _ _ _ _ q => gt_int q
theorem op_ge : OpR X (compareOp .GtE) (rI0 fun i j => .bl (decide (j ≤ i))) := opB0 fun _ _ _ _ _ _ _ q => ge_int q




theorem nomark (b : Expr) {op : CmpOp} (h : op ≠ .In := by decide) (h2 : op ≠ .NotIn := by decide) : behindInMarks op b = false := by
  have e1 : (op == CmpOp.In) = false := by cases op <;> first | rfl | exact absurd rfl h
  have e2 : (op == CmpOp.NotIn) = false := by cases op <;> first | rfl | exact absurd rfl h2
  cases b <;> simp [behindInMarks, e1, e2]
/-- a comparison as a value; hm: nomark b, or (for in, not in) by with_unfolding_all rfl -/
theorem pe_cmpR {op : CmpOp} {r : R2} (ho : OpR X (compareOp op) r) (ha : PE X a ta) (hb : PE X b tb) (hm : behindInMarks op b = false) : PE X (.Compare a [op] [b] pos) (tOp r ta tb) := by
  intro pins s σ H Q I h
  exact wpAny_Compare1 (binT ha hb I h fun v u s2 x y H2 I2 rx ry q => ho pins s2 σ H2 x y v u Q I2 rx ry q) hm
/-- a reading of a value as a test -/
def tTest (t : TE) : TT := fun σ H Q => t σ H fun x H' => ∃ k, x = .bl k ∧ Q k H'
theorem pt_cmpR {op : CmpOp} {r : R2} (ho : OpR X (compareOp op) r) (ha : PE X a ta) (hb : PE X b tb) (hm : behindInMarks op b = false) : PT X (.Compare a [op] [b] pos) (tTest (tOp r ta tb)) := by
  intro pins s σ H Q I h
  refine wpAny_isTrue_Compare1 (thn (ha pins s σ H _ I h) fun v s1 ⟨x, H1, I1, r1, q1⟩ => thn (hb pins s1 σ H1 _ I1 q1) fun u s2 ⟨y, H2, I2, r2, q2⟩ =>
    thn (ho pins s2 σ H2 x y v u _ I2 r1 r2 q2) fun c s3 ⟨z, H3, I3, r3, k, e, q3⟩ => ?_) hm
  subst e
  cases r3
  exact wpAny_truthy_bool ⟨H3, I3, q3⟩
/-- a op1 b op2 c -/
def tChain (r r' : R2) (ta tb tc : TE) : TE := fun σ H Q => ta σ H fun x H1 => tb σ H1 fun y H2 => r x y H2 fun z H3 => ∃ k, z = .bl k ∧
  (if k = true then tc σ H3 fun w' H4 => r' y w' H4 Q else Q (.bl false) H3)
theorem pe_chain {op op' : CmpOp} {r r' : R2} (ho : OpR X (compareOp op) r) (ho' : OpR X (compareOp op') r') (ha : PE X a ta) (hb : PE X b tb) (hc : PE X c tc)
    (hm : lastMarks [op, op'] [b, c] = false := by with_unfolding_all rfl) : PE X (.Compare a [op, op'] [b, c] pos) (tChain r r' ta tb tc) := by
  intro pins s σ H Q I h
  refine Compare_chain (thn (ha pins s σ H _ I h) fun v s1 ⟨x, H1, I1, r1, q1⟩ => chain_link (thn (hb pins s1 σ H1 _ I1 q1) fun u s2 ⟨y, H2, I2, r2, q2⟩ =>
    thn (ho pins s2 σ H2 x y v u _ I2 r1 r2 q2) fun d s3 ⟨z, H3, I3, r3, k, e, q3⟩ => ?_)) hm
  subst e
  cases r3
  refine wpAny_truthy_bool ?_
  cases k with
  | false => exact ite_ff ⟨.bl false, H3, I3, rfl, q3⟩
  | true => exact ite_tt (chain_last (thn (hc pins s3 σ H3 _ I3 q3) fun w' s4 ⟨z', H4, I4, r4, q4⟩ => ho' pins s4 σ H4 y z' u w' Q I4 r2 r4 q4))

/-! ### truth -/
theorem line63 : (sizeLine : Nat) < 2 ^ 63 := by rw [sizeLine_eq]; decide

/-! ### strs and bytes -/


/-! ### scalar builtins, by CallR -/
theorem vals1 {x : V} {us : List Value} (r : Vals [x] us) : ∃ u, us = [u] ∧ RelV x u := by
  cases r with
  | cons r1 r2 => cases r2; exact ⟨_, rfl, r1⟩
theorem vals2 {x y : V} {us : List Value} (r : Vals [x, y] us) : ∃ u w', us = [u, w'] ∧ RelV x u ∧ RelV y w' := by
  cases r with
  | cons r1 r2 =>
    cases r2 with
    | cons r3 r4 => cases r4; exact ⟨_, _, rfl, r1, r3⟩
theorem call_abs : CallR X (.builtin "abs") (fun xs H Q => ∃ i, xs = [.int i] ∧ Q (.int (if i < 0 then -i else i)) H) := by
  intro pins s σ H xs us Q I r h
  obtain ⟨i, rfl, q⟩ := h
  obtain ⟨u, rfl, t, rfl⟩ := vals1 r
  exact call_abs_int fun u tk => ⟨.int (if i < 0 then -i else i), H, I.tok _, ⟨_, rfl⟩, q⟩
theorem call_max2 (hc : X.calm = true) : CallR X (.builtin "max") (fun xs H Q => ∃ i j, xs = [.int i, .int j] ∧ Q (.int (if j > i then j else i)) H) := by
  intro pins s σ H xs us Q I r h
  obtain ⟨i, j, rfl, q⟩ := h
  obtain ⟨u, w', rfl, ⟨t, rfl⟩, ⟨t', rfl⟩⟩ := vals2 r
  refine max_two_ints (I.ok.hd hc) fun h' tk k => ⟨_, H, I.kept k, ?_, q⟩
  by_cases hj : j > i
  · rw [if_pos hj, if_pos hj]; exact ⟨_, rfl⟩
  · rw [if_neg hj, if_neg hj]; exact ⟨_, rfl⟩
theorem call_min2 (hc : X.calm = true) : CallR X (.builtin "min") (fun xs H Q => ∃ i j, xs = [.int i, .int j] ∧ Q (.int (if j < i then j else i)) H) := by
  intro pins s σ H xs us Q I r h
  obtain ⟨i, j, rfl, q⟩ := h
  obtain ⟨u, w', rfl, ⟨t, rfl⟩, ⟨t', rfl⟩⟩ := vals2 r
  refine min_two_ints (I.ok.hd hc) fun h' tk k => ⟨_, H, I.kept k, ?_, q⟩
  by_cases hj : j < i
  · rw [if_pos hj, if_pos hj]; exact ⟨_, rfl⟩
  · rw [if_neg hj, if_neg hj]; exact ⟨_, rfl⟩
theorem call_str_int : CallR X (.type "str") (fun xs H Q => ∃ i, xs = [.int i] ∧ i.natAbs.log2 < 1920 ∧ Q (.str (toString i)) H) := by
  intro pins s σ H xs us Q I r h
  obtain ⟨i, rfl, hz, q⟩ := h
  obtain ⟨u, rfl, t, rfl⟩ := vals1 r
  exact PySem.P.str_of_int hz ⟨.str _, H, I.tok _, ⟨_, rfl⟩, q⟩
end
end L2

namespace L2
open PySem PySem.Spec PyProof.Rows

/-! ### an instance, its attributes a map -/
structure ObjM (h : Heap) (x dx C : Addr) (mA : Str → Option Value) : Prop where
  obj : h.get? x = some (PySem.W.instObj C dx)
  ns : h.Ns1 dx mA
  ne : dx ≠ x

theorem lookIn_ns {h : Heap} {dx : Addr} {mA : Str → Option Value} (n : h.Ns1 dx mA) : ∃ od, h.get? dx = some od ∧ ∀ name, PySem.W.lookIn name od = some (mA name) := by
  obtain ⟨o, es, ep, ho, hd, hk, _, hm⟩ := n
  refine ⟨o, ho, fun name => ?_⟩
  have e := hm name
  unfold nsFind findBy at e
  rw [← Array.find?_toList] at e
  unfold PySem.W.lookIn
  rw [hd]
  dsimp only
  split
  · rename_i y q
    rw [q] at e
    exact congrArg some e
  · rename_i q
    rw [q] at e
    have a : es.toList.any (·.refKey) = false := by
      rw [List.any_eq_false]
      intro y hy
      obtain ⟨z, t, hkey⟩ := hk y (Array.mem_toList_iff.mp hy)
      simp [DictEntry.refKey, hkey]
    have a' : ¬ es.toList.any (·.refKey) = true := by rw [a]; exact Bool.false_ne_true
    rw [if_neg a']
    exact congrArg some e

theorem ObjM.look {h : Heap} {x dx C : Addr} {mA : Str → Option Value} (I : ObjM h x dx C mA) : ∃ od, PySem.W.InstAt h x (PySem.W.instObj C dx) C (some od) ∧ ∀ name, PySem.W.lookIn name od = some (mA name) :=
  let ⟨od, ho, hl⟩ := lookIn_ns I.ns
  ⟨od, ⟨I.obj, rfl, rfl, ho⟩, hl⟩

section
variable {prog : Program} {w : World} {A : Around} {E : Value → Shared → Prop} {s : Shared} {K : PySem.W.Frag} {x dx C f : Addr} {mA : Str → Option Value} {name : Str} {v : Value}





end

/-! ### the attributes as a list of pairs -/


section
variable {P : Program} {w : World} {H H' : Hp} {h h' : Heap} {a C dx : Addr} {fs fs' : List (Str × V)}
theorem ins_get (hok : HOk P w H h) (e : H a = some (.ins C dx fs)) : ∃ mA, ObjM h a dx C mA ∧ (∀ f, RelO (fs.lookup f) (mA f)) ∧ PySem.Within mA (fs.map (·.1)) ∧ fs.length ≤ 1000 ∧ H dx = some (.own a) := by
  obtain ⟨d, z, ne, ob, mA, n, r, q⟩ := (show ObjOk P w H h a (.ins C dx fs) from hok a _ e)
  exact ⟨mA, ⟨ob, n, ne⟩, r, q, z, d⟩
end

/-! ### what of the text a class must have -/
structure Cls (K : PySem.W.Frag) (C : Addr) : Prop where
  pg : PySem.W.plainGet K C Str.empty = true
  hd : PySem.W.hasDictIn K C = true
  po : PySem.W.plainOver K C = true
  sa : PySem.W.findIn K (.ref C) "__setattr__" = some (some (.builtin "object.__setattr__"))
theorem Cls.get {K : PySem.W.Frag} {C : Addr} (c : Cls K C) (f : Str) : PySem.W.plainGet K C f = true := c.pg

section
variable {X : Cx} {pins : List (Addr × Obj)} {σ : St} {H : Hp} {s : Shared} {a C dx : Addr} {fs : List (Str × V)} {f : Str} {v : V} {A : Around} {E : Value → Shared → Prop}






end

/-! ### readings and rules -/

section
variable {X : Cx} {o e value : Expr} {f : Str} {pos pos' tpos : Pos} {ta tv : TE}

end

/-! ### isinstance -/
section
variable {X : Cx} {pins : List (Addr × Obj)} {σ : St} {H : Hp} {s : Shared} {A : Around} {E : Value → Shared → Prop} {Q : Value → Shared → Prop} {c : Value} {b : Bool}
/-- the type of a value, as the fragment's deciders take it; for an instance its class -/
inductive TyOf (K : PySem.W.Frag) (H : Hp) : V → Value → Prop where
  | non : TyOf K H .non (.type "NoneType")
  | bl (x : Bool) : TyOf K H (.bl x) (.type "bool")
  | int (i : Int) : TyOf K H (.int i) (.type "int")
  | str (x : Str) : TyOf K H (.str x) (.type "str")
  | flt (x : UInt64) : TyOf K H (.flt x) (.type "float")
  | lst {a : Addr} {xs : List V} (e : H a = some (.lst xs)) : TyOf K H (.ref a) (.type "list")
  | frz {a : Addr} {o : Obj} {xs : List V} (e : H a = some (.frz o (.lst xs))) : TyOf K H (.ref a) (.type "list")
  | tup {a : Addr} {xs : List V} (e : H a = some (.tup xs)) : TyOf K H (.ref a) (.type "tuple")
  | dK {a : Addr} {kvs : List (Key × V)} (e : H a = some (.dK kvs)) : TyOf K H (.ref a) (.type "dict")
  | dT {a : Addr} {kvs : List (List Key × V)} (e : H a = some (.dT kvs)) : TyOf K H (.ref a) (.type "dict")
  | ins {a C dx : Addr} {fs : List (Str × V)} (e : H a = some (.ins C dx fs)) (cl : Cls K C) (ha : PySem.W.findIn K (.ref C) "__class__" = some (some (.builtin "object.__class__")))
      (hn : PySem.W.specialIn K (.builtin "object.__class__") "__get__" = some (some (.builtin "getset_descriptor.__get__"))) (htk : PySem.W.takesIn K (.builtin "object.__class__") = some true)
      (hm : PySem.W.mroIn K C (.type "object") = some true) : TyOf K H (.ref a) (.ref C)
/-- isinstance(x, c) for one class c, a built-in or an own one: kitOne's answer -/
theorem isinst_ok {x : V} {u t : Value} (I : Inv X pins σ H s) (rx : RelV x u) (ty : TyOf X.K H x t) (e : PySem.W.kitOne X.K t c = some b) (h : ∀ tk, Q (.bool b) { s with toks := tk }) :
    wpAny (model X.prog X.w) A (call (.builtin "isinstance") [u, c]) Q E s := by
  cases ty with
  | non => cases (show u = Value.none from rx); exact PySem.W.kia_one PySem.W.kitx_none I.kIn True.intro e (fun z => nomatch z) h
  | bl y => cases (show u = Value.bool y from rx); exact PySem.W.kia_one PySem.W.kitx_bool I.kIn True.intro e (fun z => nomatch z) h
  | int i => obtain ⟨t, q⟩ := (show ∃ t, u = Value.int i t from rx); cases q; exact PySem.W.kia_one PySem.W.kitx_int I.kIn True.intro e (fun z => nomatch z) h
  | str y => obtain ⟨t, q⟩ := (show ∃ t, u = Value.str y t from rx); cases q; exact PySem.W.kia_one PySem.W.kitx_str I.kIn True.intro e (fun z => nomatch z) h
  | flt y => obtain ⟨t, q⟩ := (show ∃ t, u = Value.float y t from rx); cases q; exact PySem.W.kia_one PySem.W.kitx_float I.kIn True.intro e (fun z => nomatch z) h
  | @lst a xs ea =>
    cases (show u = Value.ref a from rx)
    obtain ⟨_, _, n, _, h1⟩ := (show ObjOk X.prog X.w H s.heap a (.lst xs) from I.hok a _ ea)
    exact PySem.W.kia_one PySem.W.kitx_list I.kIn ⟨_, h1, rfl⟩ e (fun z => nomatch z) h
  | @frz a ob xs ea =>
    cases (show u = Value.ref a from rx)
    obtain ⟨_, _, _, n, _, h1⟩ := (show ObjOk X.prog X.w H s.heap a (.frz ob (.lst xs)) from I.hok a _ ea)
    exact PySem.W.kia_one PySem.W.kitx_list I.kIn ⟨_, h1, rfl⟩ e (fun z => nomatch z) h
  | @tup a xs ea =>
    cases (show u = Value.ref a from rx)
    obtain ⟨_, _, _, p⟩ := (show ObjOk X.prog X.w H s.heap a (.tup xs) from I.hok a _ ea)
    obtain ⟨o, h1, h2, _⟩ := p
    exact PySem.W.kia_one PySem.W.kitx_tuple I.kIn ⟨o, h1, h2⟩ e (fun z => nomatch z) h
  | @dK a kvs ea =>
    cases (show u = Value.ref a from rx)
    obtain ⟨_, _, vs, _, p⟩ := (show ObjOk X.prog X.w H s.heap a (.dK kvs) from I.hok a _ ea)
    obtain ⟨o, es, ep, h1, h2, _⟩ := p
    exact PySem.W.kia_one PySem.W.kitx_dict I.kIn ⟨o, h1, h2.1⟩ e (fun z => nomatch z) h
  | @dT a kvs ea =>
    cases (show u = Value.ref a from rx)
    obtain ⟨_, _, xs, _, o, es, ep, h1, h2, _⟩ := (show ObjOk X.prog X.w H s.heap a (.dT kvs) from I.hok a _ ea)
    exact PySem.W.kia_one PySem.W.kitx_dict I.kIn ⟨o, h1, h2.1⟩ e (fun z => nomatch z) h
  | @ins a C dx fs ea cl ha hn htk hm =>
    cases (show u = Value.ref a from rx)
    obtain ⟨mA, O, _⟩ := ins_get I.hok ea
    obtain ⟨od, J, _⟩ := O.look
    exact PySem.W.kia_one (PySem.W.kitx_own (cl.get _) cl.hd ha hn htk hm) I.kIn J e (fun z => nomatch z) h
end
end L2

namespace L2
open PySem PySem.Spec PyProof.Rows

/-! ### room -/
structure Room (k : Nat) (A : Around) : Prop where
  hd : A.handled = none
  dp : A.depth + 3 * k + 5 < recursionLimit
  un : A.units + 16 * k + 200 < cLine
  gd : A.guards = some []
theorem Room.mono {j k : Nat} {A : Around} (r : Room k A) (h : j ≤ k) : Room j A := ⟨r.hd, by have := r.dp; omega, by have := r.un; omega, r.gd⟩
theorem Room.deeper {k : Nat} {A : Around} (r : Room (k + 1) A) (env : Env) : Room k (A.deeper env) :=
  ⟨r.hd, by have := r.dp; show A.depth + 1 + 3 * k + 5 < _; omega, by have := r.un; show A.units + 3 + 16 * k + 200 < _; omega, r.gd⟩
theorem Room.depth {k : Nat} {A : Around} (r : Room k A) : A.depth < recursionLimit := by have := r.dp; omega

/-! ### argument lists and displays -/
def tNil : TA := fun _ H Q => Q [] H
def tCons (ta : TE) (tr : TA) : TA := fun σ H Q => ta σ H fun x H1 => tr σ H1 fun xs H2 => Q (x :: xs) H2
section
variable {X : Cx} {e : Expr} {es : List Expr} {te : TE} {t : TA} {pos : Pos}
theorem pa_nil : PA X [] tNil := fun _ _ _ _ H Q I h => Calls.spliced_nil ⟨[], H, I, .nil, h⟩
theorem pa_cons (ha : PE X e te) (hr : PA X es t) (hs : starEach (e :: es) X.env = (false, eval e X.env) :: starEach es X.env := by rfl) : PA X (e :: es) (tCons te t) := by
  intro pos pins s σ H Q I h
  rw [hs]
  show wpAny _ _ (spliced ((false, eval e X.env) :: backTo pos (starEach es X.env))) _ _ s
  refine Calls.spliced_cons (thn (ha pins s σ H _ I h) fun u s1 ⟨x, H1, I1, r1, q1⟩ => ?_)
  exact thn (hr pos pins s1 σ H1 _ I1 q1) fun us s2 ⟨xs, H2, I2, r2, q2⟩ => ⟨x :: xs, H2, I2, .cons r1 r2, q2⟩

/-- a tuple, a list of written items -/
def tTup (t : TA) : TE := fun σ H Q => t σ H fun xs H1 => xs.length ≤ sizeLine ∧ ∀ p, H1 p = none → Q (.ref p) (upd H1 p (.tup xs))
def tLst (t : TA) : TE := fun σ H Q => t σ H fun xs H1 => xs.length ≤ sizeLine ∧ ∀ p, H1 p = none → Q (.ref p) (upd H1 p (.lst xs))
theorem pe_tup {x1} (h : PA X es t) : PE X (.Tuple es x1 pos) (tTup t) := by
  intro pins s σ H Q I hq
  refine wpAny_Tuple_spliced (thn (h pos pins s σ H _ I hq) fun us s1 ⟨xs, H1, I1, r, z, q⟩ => ⟨by rw [← r.length]; exact z, ?_⟩)
  have hf : H1 s1.heap.objs.size = none := I1.hok.fresh (Nat.le_refl _)
  refine ⟨.ref s1.heap.objs.size, upd H1 s1.heap.objs.size (.tup xs), I1.laid (t' := s1.toks) (fun b u e => Heap.get?_push_of_some _ e) (Nat.le_refl _) ?_, rfl, q _ hf⟩
  exact ⟨z, us, r, ⟨_, Heap.get?_push_size _ rfl, rfl, _, rfl⟩⟩
theorem pe_lst (h : PA X es t) : PE X (.List es pos) (tLst t) := by
  intro pins s σ H Q I hq
  refine wpAny_List_spliced (thn (h pos pins s σ H _ I hq) fun us s1 ⟨xs, H1, I1, r, z, q⟩ => ⟨by rw [← r.length]; exact z, ?_⟩)
  have hf : H1 s1.heap.objs.size = none := I1.hok.fresh (Nat.le_refl _)
  refine ⟨.ref s1.heap.objs.size, upd H1 s1.heap.objs.size (.lst xs), I1.laid (t' := s1.toks) (fun b u e => Heap.get?_push_of_some _ e) (Nat.le_refl _) ?_, rfl, q _ hf⟩
  exact ⟨z, us, 0, r, Heap.get?_push_size _ rfl⟩
end

/-! ### what a def promises -/
/-- a def's promise: the bound arguments in the parameters' order, the heap, the wanted end, the wanted exception -/
abbrev Sp := List V → Hp → VK → XK → Prop
/-- how an exception lies behind a call (file 08 gives it): the callers' frames, abstract heap and state ahead of the call, the wish, the exception, the state -/
abbrev CXT := List Env → Hp → Shared → XK → Value → Shared → Prop

/-- the state at a call -/
structure Env0 (P : Program) (w : World) (K : PySem.W.Frag) (mg : Str → Option Value) (base : Heap) (A : Around) (outer : List Env) (s : Shared) (H : Hp) : Prop where
  frames : A.frames = some outer
  mod : Mod K mg base
  bs : ∀ b o, base.get? b = some o → s.heap.get? b = some o ∧ H b = none
  bsz : base.objs.size ≤ s.heap.objs.size
  funs : s.heap.FunFrames base outer
  frf : ∀ b ∈ frs outer, H b = none
  hok : HOk P w H s.heap
  bare : AllBare s.gens
/-- a call's end -/
def CE (outer : List Env) (P : Program) (w : World) (H : Hp) (s : Shared) (Q : VK) (u : Value) (s' : Shared) : Prop :=
  ∃ v H', s'.os = s.os ∧ AllBare s'.gens ∧ Un (frs outer) [] H H' s.heap s'.heap ∧ HOk P w H' s'.heap ∧ RelV v u ∧ Q v H'
def CR (CX : CXT) (outer : List Env) (P : Program) (w : World) (H : Hp) (s : Shared) (Q : VK) (E : XK) (r : Result) (s' : Shared) : Prop :=
  match r with
  | .ok (.ret u) => CE outer P w H s Q u s'
  | .ok _ => False
  | .error e => CX outer H s E e s'
structure FnOk (P : Program) (w : World) (K : PySem.W.Frag) (mg : Str → Option Value) (base : Heap) (CX : CXT) (k : Nat) (f : Addr) (fd : FuncData) (ps : List Str) (sp : Sp) : Prop where
  len : ∀ vs H Q E, sp vs H Q E → vs.length = ps.length
  run : ∀ (A : Around) (outer : List Env) (s : Shared) (H : Hp) (args : Args) (us : List Value) (vs : List V) (Q : VK) (E : XK), Room k A → Env0 P w K mg base A outer s H → BindsTo s fd args (ps.zip us) → Vals vs us → sp vs H Q E →
    codeAny (model P w) A (.call (.ref f) args) (CR CX outer P w H s Q E) s


section
variable {X : Cx} {pins : List (Addr × Obj)} {σ : St} {H : Hp} {s s' : Shared}
/-- from a body: what a callee wants -/
theorem Inv.env0 (I : Inv X pins σ H s) : Env0 X.prog X.w X.K X.mg X.base X.A X.stack s H :=
  ⟨I.ok.frames, I.ok.mod, I.bs, Nat.le_trans I.ok.bsz I.sz, I.stack, I.stkFree, I.hok, I.bare⟩
/-- behind a call -/
theorem Inv.after {Q : VK} {u : Value} (I : Inv X pins σ H s) (h : CE X.stack X.prog X.w H s Q u s') : EP X pins σ Q u s' := by
  obtain ⟨v, H', os, bare, un, hok, r, q⟩ := h
  obtain ⟨hh, g, d, t, os'⟩ := s'
  obtain rfl : os' = s.os := os
  exact ⟨v, H', I.call (h' := hh) (g' := g) (d' := d) (t' := t) (ch := []) un hok bare (fun b z => absurd z (by simp)), r, q⟩
end

/-! ### calls -/
/-- f(..): the written arguments, then the defaults dvs; E: what is wanted of an exception -/
def tCall (sp : Sp) (dvs : List V) (E : XK) (t : TA) : TE := fun σ H Q => t σ H fun vs H1 => sp (vs ++ dvs) H1 Q E

/-- how the parameters are bound: us the positional arguments, kw the keywords' values by name, ds the defaults that fill up -/
def Binds (K : PySem.W.Frag) (fd : FuncData) (ps : List Str) (ds : List Value) : Prop :=
  ∀ (s : Shared) (us : List Value), K.In s.heap → (us ++ ds).length = ps.length → BindsTo s fd ⟨us, []⟩ (ps.zip (us ++ ds))
/-- every parameter is given -/
theorem Binds.all {K : PySem.W.Frag} {fd : FuncData} {ps : List Str} (h : ∀ us : List Value, us.length = ps.length → bindArgs fd ⟨us, []⟩ = pure (ps.zip us)) : Binds K fd ps [] := fun s us _ hl => by
  rw [List.append_nil] at hl ⊢
  exact .of_eq (h us hl)

/-- an exception of a callee reaches what this body wants of exceptions -/
def Passes (CX : CXT) (X : Cx) (E : XK) : Prop := ∀ (pins : List (Addr × Obj)) (σ : St) (H : Hp) (s : Shared) (e : Value) (s' : Shared), Inv X pins σ H s → CX X.stack H s E e s' → X.xe e s'

section
variable {X : Cx} {CX : CXT} {k : Nat} {f C : Addr} {fd : FuncData} {ps : List Str} {sp : Sp} {dvs : List V} {ds : List Value} {E : XK} {x m : Str} {p pos apos : Pos} {e o : Expr} {es : List Expr} {ta : TE} {t : TA}

/-- the callee runs -/
theorem run_fn {pins : List (Addr × Obj)} {σ : St} {H : Hp} {s : Shared} {Q : VK} {us : List Value} {vs : List V} (F : FnOk X.prog X.w X.K X.mg X.base CX k f fd ps sp) (hr : Room k X.A) (hb : Binds X.K fd ps ds) (hd : Vals dvs ds) (hx : Passes CX X E)
    (I : Inv X pins σ H s) (r : Vals vs us) (h : sp (vs ++ dvs) H Q E) : wpAny (model X.prog X.w) X.A (call (.ref f) us) (EP X pins σ Q) X.xe s := by
  have r2 : Vals (vs ++ dvs) (us ++ ds) := r.append hd
  have hl : (us ++ ds).length = ps.length := by rw [← r2.length]; exact F.len _ _ _ _ h
  refine wpAny_call (codeAny_mono (F.run X.A X.stack s H ⟨us, []⟩ (us ++ ds) (vs ++ dvs) Q E hr I.env0 (hb s us I.kIn hl) r2 h) fun r s' hq => ?_)
  cases r with
  | error e => exact hx pins σ H s e s' I hq
  | ok fl =>
    cases fl with
    | ret u => exact I.after hq
    | next => exact False.elim hq
    | brk => exact False.elim hq
    | cont => exact False.elim hq

theorem pe_call (F : FnOk X.prog X.w X.K X.mg X.base CX k f fd ps sp) (hr : Room k X.A) (hg : Gl X x) (hm : X.mg x = some (.ref f)) (hk : PySem.W.keepIn X.K (.ref f) = true) (hb : Binds X.K fd ps ds) (hd : Vals dvs ds) (hx : Passes CX X E)
    (ha : PA X (e :: es) t) (hdb : (x == ("__debug__" : Str)) = false := by decide) (he : starEach (e :: es) X.env = (false, eval e X.env) :: starEach es X.env := by rfl) (hpl : (backTo pos (starEach es X.env)).any (·.1) = false := by rfl) :
    PE X (.Call (.Name x p) (e :: es) [] pos) (tCall sp dvs E t) := by
  intro pins s σ H Q I h
  refine wpAny_Call_Name_kw (ld_glob I hg hm ?_ hdb)
  refine PySem.W.callWith_K (h₀ := X.base) I.ok.mod.kin hk (thn (ha pos pins s σ H _ I h) fun us s1 ⟨vs, H1, I1, r, q⟩ => ⟨I1.kIn, ?_⟩) he hpl
  exact run_fn F hr hb hd hx I1 r q



end

/-! ### keywords -/
section
variable {X : Cx} {CX : CXT} {k : Nat} {f C : Addr} {fd : FuncData} {ps ks : List Str} {sp : Sp} {E : XK} {x m : Str} {p pos apos kpos : Pos} {e o : Expr} {es : List Expr} {kws : List Keyword} {te ta : TE} {t tk : TA} {nm : Option Str}

variable {g : List Value → List Value → List Value} {gV : List V → List V → List V}
end

/-! ### a def's body keeps its promise -/
/-- names: the parameters first -/
structure FnScope (N P : List Str) (sc : Scope) : Prop where
  kind : sc.kind = .function
  co : sc.isCoroutine = false
  gen : sc.isGenerator = false
  nd : N.Nodup
  pre : N.take P.length = P
  par : ∀ x ∈ P, sc.names.lookup x = some .local ∨ sc.names.lookup x = some .cell
  nofree : ∀ y ∈ sc.names, y.2 ≠ .free

theorem bindL_out {kindOf : Str → Option NameKind} {x : Str} : ∀ {binds : List (Str × Value)} {m : Str → Option Value}, (∀ v, (x, v) ∉ binds) → bindL kindOf binds m x = m x
  | [], _, _ => rfl
  | (n, v) :: r, m, h => by
    unfold bindL
    rw [bindL_out fun w hw => h w (List.mem_cons_of_mem _ hw)]
    split
    · have : x ≠ n := by rintro rfl; exact h v List.mem_cons_self
      simp [this]
    · rfl
theorem bindC_out {kindOf : Str → Option NameKind} {x : Str} : ∀ {binds : List (Str × Value)} {m : Str → Option Value}, (∀ v, (x, v) ∉ binds) → bindC kindOf binds m x = m x
  | [], _, _ => rfl
  | (n, v) :: r, m, h => by
    unfold bindC
    rw [bindC_out fun w hw => h w (List.mem_cons_of_mem _ hw)]
    split
    · rfl
    · have : x ≠ n := by rintro rfl; exact h v List.mem_cons_self
      simp [this]
theorem bindL_get {kindOf : Str → Option NameKind} {x : Str} {v : Value} : ∀ {P : List Str} {vs : List Value} {i : Nat} {m : Str → Option Value}, P.Nodup → P[i]? = some x → vs[i]? = some v → kindOf x = some .local →
    bindL kindOf (P.zip vs) m x = some v
  | [], _, _, _, _, h, _, _ => by simp at h
  | _ :: _, [], _, _, _, _, h, _ => by simp at h
  | p :: P, w :: vs, 0, m, nd, h1, h2, hk => by
    simp at h1 h2; subst h1; subst h2
    show bindL kindOf ((p, w) :: P.zip vs) m p = _
    unfold bindL
    rw [bindL_out fun v hv => (List.nodup_cons.mp nd).1 (List.of_mem_zip hv).1, if_pos hk]
    simp
  | p :: P, w :: vs, i + 1, m, nd, h1, h2, hk => by
    show bindL kindOf ((p, w) :: P.zip vs) m x = _
    unfold bindL
    exact bindL_get (i := i) (List.nodup_cons.mp nd).2 (by simpa using h1) (by simpa using h2) hk
theorem bindC_get {kindOf : Str → Option NameKind} {x : Str} {v : Value} : ∀ {P : List Str} {vs : List Value} {i : Nat} {m : Str → Option Value}, P.Nodup → P[i]? = some x → vs[i]? = some v → kindOf x ≠ some .local →
    bindC kindOf (P.zip vs) m x = some v
  | [], _, _, _, _, h, _, _ => by simp at h
  | _ :: _, [], _, _, _, _, h, _ => by simp at h
  | p :: P, w :: vs, 0, m, nd, h1, h2, hk => by
    simp at h1 h2; subst h1; subst h2
    show bindC kindOf ((p, w) :: P.zip vs) m p = _
    unfold bindC
    rw [bindC_out fun v hv => (List.nodup_cons.mp nd).1 (List.of_mem_zip hv).1, if_neg hk]
    simp
  | p :: P, w :: vs, i + 1, m, nd, h1, h2, hk => by
    show bindC kindOf ((p, w) :: P.zip vs) m x = _
    unfold bindC
    exact bindC_get (i := i) (List.nodup_cons.mp nd).2 (by simpa using h1) (by simpa using h2) hk

/-- the names' values at the entry -/
def start (N : List Str) (vs : List V) : St := vs.map some ++ List.replicate (N.length - vs.length) none

/-- the context of a def's body, at its entry; an exception leaves the frame, then lies as CX says -/
def cxOf (CX : CXT) (P : Program) (w : World) (K : PySem.W.Frag) (mg : Str → Option Value) (base : Heap) (N : List Str) (qual : Str) (scope : Scope) (f : Addr) (cd : Value) (A : Around) (outer : List Env) (s : Shared) (H : Hp) (E : XK) : Cx where
  prog := P
  w := w
  K := K
  mg := mg
  base := base
  A := A.deeper (envOfC qual scope s.heap.objs.size f cd)
  N := N
  s₀ := s
  H₀ := H
  env := envOfC qual scope s.heap.objs.size f cd
  outer := outer
  stack := envOfC qual scope s.heap.objs.size f cd :: outer
  ex := []
  calm := true
  fn := fun _ => true
  pn := []
  xe := fun e s' => wpAny (model P w) (A.deeper (envOfC qual scope s.heap.objs.size f cd)) (leaving (envOfC qual scope s.heap.objs.size f cd) e) (fun _ s'' => CX outer H s E e s'') (fun e' s'' => CX outer H s E e' s'') s'

theorem cell_has {sc : Scope} {n : Nat} {x : Str} (h : sc.names.lookup x = some .cell) : ∃ c, (cellsFrom n sc.names []).lookup x = some c := by
  have q := PySem.W.cellsFrom_some sc.names n [] (.inl h)
  exact Option.isSome_iff_exists.mp q

theorem inv_start {CX : CXT} {P : Program} {w : World} {K : PySem.W.Frag} {mg : Str → Option Value} {base : Heap} {N ps : List Str} {qual : Str} {scope : Scope} {f : Addr} {cd : Value} {A : Around} {outer : List Env} {s s1 : Shared} {H : Hp} {E : XK} {us : List Value} {vs : List V}
    (S : FnScope N ps scope) (hd : A.handled = none) (e0 : Env0 P w K mg base A outer s H) (hl : vs.length = ps.length) (r : Vals vs us)
    (x : InCallC s s.heap.objs.size (bindL (envOfC qual scope s.heap.objs.size f cd).kindOf (ps.zip us) fun _ => none) (cellsFrom (s.heap.objs.size + 1) scope.names []) (bindC (envOfC qual scope s.heap.objs.size f cd).kindOf (ps.zip us) fun _ => none) s1) :
    Inv (cxOf CX P w K mg base N qual scope f cd A outer s H E) [] (start N vs) H s1 := by
  have hpl : ps.length ≤ N.length := by have := congrArg List.length S.pre; rw [List.length_take] at this; omega
  obtain ⟨h1, tk, rfl, hk⟩ := x.done
  have noA : ∀ b : Addr, b ∉ (cxOf CX P w K mg base N qual scope f cd A outer s H E).ex := fun b z => absurd (show b ∈ ([] : List Addr) from z) (by simp)
  refine ⟨⟨e0.mod, S.kind, rfl, rfl, Nat.le_refl _, fun y z c h1 h2 => ?_, fun y hy => ?_, fun y c _ h => ?_, fun _ => hd, Around.frames_deeper e0.frames, .inr ⟨rfl, rfl⟩, fun b z => absurd z (noA b), e0.bs, e0.bsz, fun b _ _ => noA b, fun b z => absurd z (noA b), e0.funs, e0.frf⟩,
    rfl, e0.bare, Un.kept hk, ⟨_, x.toInCall.ns, fun i y v h1 h2 h3 => ?_⟩, fun y c h => ⟨_, x.cell y c h⟩, e0.hok.fresh (Nat.le_refl _), fun y c h => ?_, fun p hp => absurd (show p ∈ ([] : List (Addr × Obj)) from hp) (by simp), e0.hok.kept hk, ?_⟩
  · exact name_of_addr x.apart (PySem.mem_of_lookup h1) (PySem.mem_of_lookup h2)
  · have hy : scope.names.lookup y = some .cell ∨ scope.names.lookup y = some .free := hy
    rcases hy with hy | hy
    · exact cell_has hy
    · exact absurd rfl (S.nofree _ (PySem.mem_of_lookup hy))
  · exact Nat.le_of_lt (x.above y c (PySem.mem_of_lookup h))
  · have hi : i < vs.length := by
      unfold start at h2
      by_cases hi : i < vs.length
      · exact hi
      · rw [List.getElem?_append_right (by simpa using hi)] at h2
        rw [List.getElem?_replicate] at h2
        split at h2 <;> cases h2
    have ha : vs[i]? = some v := by
      unfold start at h2
      rw [List.getElem?_append_left (by simpa using hi), List.getElem?_map] at h2
      cases e : vs[i]? with
      | none => rw [e] at h2; cases h2
      | some a => rw [e] at h2; cases h2; rfl
    obtain ⟨u, hu, rv⟩ := r.get ha
    have hp : ps[i]? = some y := by
      rw [← S.pre, List.getElem?_take_of_lt (by omega)]; exact h1
    have ndP : ps.Nodup := by rw [← S.pre]; exact S.nd.sublist (List.take_sublist _ _)
    refine ⟨u, rv, ?_⟩
    rcases S.par y (List.mem_of_getElem? hp) with k | k
    · exact .inl ⟨k, bindL_get ndP hp hu k⟩
    · obtain ⟨c, e⟩ := cell_has (n := s.heap.objs.size + 1) k
      refine .inr ⟨.inl k, c, e, ?_⟩
      have q := x.cell y c e
      rw [bindC_get ndP hp hu (by show scope.names.lookup y ≠ _; rw [k]; decide)] at q
      exact q
  · exact e0.hok.fresh (Nat.le_of_lt (x.above y c (PySem.mem_of_lookup h)))
  · unfold start
    show _ = N.length
    rw [List.length_append, List.length_map, List.length_replicate]
    omega

/-- THE RULE: a def (or a method) of the text, by its body. The body's reading t is chosen for each entry; it is run at the parameters' values -/
theorem fn_of {CX : CXT} {P : Program} {w : World} {K : PySem.W.Frag} {mg : Str → Option Value} {base : Heap} {k : Nat} {f : Addr} {name qual : Str} {params : Arguments} {body : List Stmt} {scope : Scope} {dV kV doc pm cdv ct oc : Value} {an od : Option Addr}
    {osl : Array (Option Value)} {N ps : List Str} {sp : Sp} (lk : K.lookup f = some ⟨oc, od, .func (PySem.W.fnOf name qual params body scope dV kV doc pm an cdv ct), osl⟩) (hcd : PySem.W.codeIn K cdv qual = true) (S : FnScope N ps scope)
    (len : ∀ vs H Q E, sp vs H Q E → vs.length = ps.length)
    (hbody : ∀ (A : Around) (outer : List Env) (s : Shared) (H : Hp) (vs : List V) (Q : VK) (E : XK), Room k (A.deeper (envOfC qual scope s.heap.objs.size f cdv)) → sp vs H Q E →
      ∃ t, PSs (cxOf CX P w K mg base N qual scope f cdv A outer s H E) body t ∧ t { nx := fun _ H' => Q .non H', rt := Q } (start N vs) H) :
    FnOk P w K mg base CX (k + 1) f (PySem.W.fnOf name qual params body scope dV kV doc pm an cdv ct) ps sp := by
  refine ⟨len, fun A outer s H args us vs Q E hr e0 hb r hsp => ?_⟩
  have hl := len _ _ _ _ hsp
  have KX : K.In s.heap := e0.mod.kin.keeps fun b o e => (e0.bs b o e).1
  have lim : s.heap.NoLimit := e0.mod.nolimit.keeps fun b o e => (e0.bs b o e).1
  have hkind : ∀ y ∈ ps.zip us, scope.names.lookup y.1 = some .local ∨ (scope.names.lookup y.1 = some .cell ∧ ((cellsFrom (s.heap.objs.size + 1) scope.names []).lookup y.1).isSome = true) := fun ⟨n, v⟩ hy => by
    rcases S.par n (List.of_mem_zip hy).1 with q | q
    · exact .inl q
    · exact .inr ⟨q, PySem.W.cellsFrom_some _ _ _ (.inl q)⟩
  refine codeAny_call_function hr.depth (KX _ _ lk) rfl S.co S.gen rfl (PySem.W.codeRec_of KX hcd) (hb _ _ _ _ ?_)
  refine wpAny_newFunctionEnv_cells S.kind hkind fun env he s1 x => ?_
  subst he
  refine ⟨lim.keeps x.toInCall.keep, codeAny_func ?_⟩
  obtain ⟨t, ht, hq⟩ := hbody A outer s H vs Q E (hr.deeper _) hsp
  have I : Inv (cxOf CX P w K mg base N qual scope f cdv A outer s H E) [] (start N vs) H s1 := inv_start S hr.hd e0 hl r x
  refine wpAny_mono (ht [] s1 (start N vs) H _ I hq) (fun fl s' hs => ?_) fun e s' hs => hs
  have fin : ∀ {σ' : St} {H' : Hp} {v : V} {u : Value}, Inv (cxOf CX P w K mg base N qual scope f cdv A outer s H E) [] σ' H' s' → RelV v u → Q v H' → CE outer P w H s Q u s' :=
    fun {σ' H' v u} J rv q => ⟨v, H', J.os, J.bare, J.base, J.hok, rv, q⟩
  cases fl with
  | ret u =>
    obtain ⟨v, σ', H', J, rv, q⟩ := hs
    exact fin J rv q
  | next =>
    obtain ⟨σ', H', J, q⟩ := hs
    exact fin (v := V.non) (u := Value.none) J rfl q
  | brk =>
    obtain ⟨_, _, _, q⟩ := hs
    exact False.elim q
  | cont =>
    obtain ⟨_, _, _, q⟩ := hs
    exact False.elim q
end L2

namespace L2
open PySem PySem.Spec PyProof.Rows
section
variable {X : Cx} {x : Str} {p pos : Pos} {e : Expr} {es : List Expr} {t : TA} {id T : String} {r : List V → Hp → VK → Prop}

def tCB (r : List V → Hp → VK → Prop) (t : TA) : TE := fun σ H Q => t σ H fun vs H1 => r vs H1 Q
/-- f(e, ..), f a built-in function -/
theorem pe_callB (hc : CallR X (.builtin id) r) (hg : Gl X x) (hm : X.mg x = none) (hv : bootBuiltins x = some (.builtin id)) (ha : PA X (e :: es) t) (hn : x ≠ "__name__" := by decide) (hdb : (x == ("__debug__" : Str)) = false := by decide)
    (he : starEach (e :: es) X.env = (false, eval e X.env) :: starEach es X.env := by rfl) (hpl : (backTo pos (starEach es X.env)).any (·.1) = false := by rfl) : PE X (.Call (.Name x p) (e :: es) [] pos) (tCB r t) := by
  intro pins s σ H Q I h
  refine wpAny_Call_Name_kw (ld_blt I hg hm hv ?_ hn hdb)
  exact PyProof.Rows.callWith_builtin1 (thn (ha pos pins s σ H _ I h) fun us s1 ⟨vs, H1, I1, r1, q1⟩ => hc pins s1 σ H1 vs us Q I1 r1 q1) he hpl
/-- T(e, ..), T a built-in type -/
theorem pe_callTy (hc : CallR X (.type T) r) (hg : Gl X x) (hm : X.mg x = none) (hv : bootBuiltins x = some (.type T)) (ha : PA X (e :: es) t) (hn : x ≠ "__name__" := by decide) (hdb : (x == ("__debug__" : Str)) = false := by decide)
    (he : starEach (e :: es) X.env = (false, eval e X.env) :: starEach es X.env := by rfl) (hpl : (backTo pos (starEach es X.env)).any (·.1) = false := by rfl) : PE X (.Call (.Name x p) (e :: es) [] pos) (tCB r t) := by
  intro pins s σ H Q I h
  refine wpAny_Call_Name_kw (ld_blt I hg hm hv ?_ hn hdb)
  exact PyProof.Rows.callWith_type1 (thn (ha pos pins s σ H _ I h) fun us s1 ⟨vs, H1, I1, r1, q1⟩ => hc pins s1 σ H1 vs us Q I1 r1 q1) he hpl
end
end L2

namespace HT
open PySem PyProof.Rows

/-- t < u of tuples of ints -/
def lexLt : List Int → List Int → Bool
  | [], [] => false
  | [], _ :: _ => true
  | _ :: _, [] => false
  | x :: xs, y :: ys => if x = y then lexLt xs ys else decide (x < y)
theorem lexLt_cons (x y : Int) (xs ys : List Int) : lexLt (x :: xs) (y :: ys) = if x = y then lexLt xs ys else decide (x < y) := rfl


section
open PySem.SeqAt
open PySem.AutoSeq1 (wpAny_loadPart')
open PySem.MeetsSeq PySem.MeetsSeq2 PySem.MeetsSeq3

end

section
variable {prog : Program} {w : World} {A : Around} {E : Value → Shared → Prop} {s : Shared}


/-- t + u, t not empty -/
theorem cat_tup {t b : Addr} {vs ws : List Value} {Q : Value → Shared → Prop} (ht : IsTup s.heap t vs.toArray) (hb : IsTup s.heap b ws.toArray) (hv : vs ≠ [])
    (h1 : ws = [] → Q (.ref t) s) (h2 : ws ≠ [] → Q (.ref s.heap.objs.size) { s with heap := s.heap.push { cls := .type "tuple", data := .seq (vs ++ ws).toArray } })
    (hsz : vs.length + ws.length ≤ sizeLine) : wpAny (model prog w) A (binaryOp .Add (.ref t) (.ref b)) Q E s := by
  obtain ⟨⟨cls, dd, data, sl⟩, ho, hc, n, hd⟩ := id ht
  obtain ⟨⟨cls2, dd2, data2, sl2⟩, ho2, hc2, n2, hd2⟩ := id hb
  simp only at hc hd hc2 hd2
  subst hc hd hc2 hd2
  have e : vs.toArray ++ ws.toArray = (vs ++ ws).toArray := by simp
  by_cases hw : ws = []
  · exact concat_meets ⟨_, ho, rfl⟩ ⟨_, ho2, rfl⟩ noFill_tuple_add seq_tuple_add PySem.F.slot_tuple_add PySem.F.entry_tuple_add (PySem.F.args_tuple_add_2 _ _)
      (tuple_addW1 t b vs.toArray ws.toArray n n2 dd dd2 sl sl2 (by simpa using hv) (by simp [hw])) ⟨ho, ho2, h1 hw⟩
  · refine concat_meets ⟨_, ho, rfl⟩ ⟨_, ho2, rfl⟩ noFill_tuple_add seq_tuple_add PySem.F.slot_tuple_add PySem.F.entry_tuple_add (PySem.F.args_tuple_add_2 _ _)
      (tuple_addW2 t b vs.toArray ws.toArray n n2 dd dd2 sl sl2 (by simpa using hv) (by simpa using hw) (by rw [List.size_toArray, List.size_toArray]; exact hsz)) ⟨ho, ho2, ?_⟩
    rw [e]
    exact h2 hw

/-! ### t[a:b], not the whole -/
/-- a slice's bound as a place among n (d where it is left out) -/
def sIx (n d : Nat) : Option Int → Nat
  | none => d
  | some v => if v < 0 then (v + (n : Int)).toNat else min v.toNat n
theorem sIx_none (n d : Nat) : sIx n d none = d := rfl
theorem sIx_nat (n d k : Nat) : sIx n d (some (k : Int)) = min k n := by
  show (if (k : Int) < 0 then ((k : Int) + (n : Int)).toNat else min (k : Int).toNat n) = min k n
  rw [if_neg (by omega), Int.toNat_natCast]
theorem sIx_le (n d : Nat) (hd : d ≤ n) (o : Option Int) : sIx n d o ≤ n := by
  cases o with
  | none => exact hd
  | some v =>
    show (if v < 0 then (v + (n : Int)).toNat else min v.toNat n) ≤ n
    by_cases hv : v < 0
    · rw [if_pos hv]; omega
    · rw [if_neg hv]; exact Nat.min_le_right _ _
theorem clip_eq (v : Int) (n d : Nat) : (if v < 0 then max (v + (n : Int)) 0 else min v (n : Int)) = ((sIx n d (some v) : Nat) : Int) := by
  show (if v < 0 then max (v + (n : Int)) 0 else min v (n : Int)) = (((if v < 0 then (v + (n : Int)).toNat else min v.toNat n) : Nat) : Int)
  by_cases hv : v < 0
  · simp only [if_pos hv]; omega
  · simp only [if_neg hv]; omega
theorem adjust_gen (lo hi : Option Int) (n : Nat) : Builtin.Slice.sliceAdjust lo hi 1 (n : Int) = (((sIx n 0 lo : Nat) : Int), ((sIx n n hi : Nat) : Int)) := by
  have h1 : ¬ ((1 : Int) < 0) := by omega
  unfold Builtin.Slice.sliceAdjust
  simp only [h1, if_false]
  refine Prod.ext ?_ ?_
  · cases lo with
    | none => rfl
    | some v => exact clip_eq v n 0
  · cases hi with
    | none => rfl
    | some v => exact clip_eq v n n
theorem places_gen (i j : Nat) : Builtin.Slice.slicePlaces (i : Int) (j : Int) 1 = j - i := by
  unfold Builtin.Slice.slicePlaces
  have h1 : (1 : Int) > 0 := by omega
  simp only [h1, if_true, Int.ediv_one]
  split <;> omega
theorem slicePart_ {v : Value} {o : Option Int} {Q : Option Int → Shared → Prop} (p : IsPart v o) (h : Q o s) : wpAny (model prog w) A (Builtin.Slice.slicePartIndex v) Q E s := by
  cases p with
  | none => exact slicePart_none h
  | int i t => exact slicePart_int h
theorem sliceApplied_gen {sl : Addr} {vl vu : Value} {lo hi : Option Int} {n : Nat} {Q : Int × Int × Nat → Shared → Prop} (hs : s.heap.IsSliceOf sl vl vu .none) (pl : IsPart vl lo) (pu : IsPart vu hi)
    (h : Q (((sIx n 0 lo : Nat) : Int), 1, sIx n n hi - sIx n 0 lo) s) : wpAny (model prog w) A (Builtin.Slice.sliceApplied (.ref sl) (pure (n : Int))) Q E s := by
  obtain ⟨os, hos, hcs, hds⟩ := id hs
  unfold Builtin.Slice.sliceApplied Builtin.Slice.sliceFields
  refine wpAny_bind (wpAny_bind (wpAny_field hos hds (x := vl) rfl (wpAny_bind (wpAny_field hos hds (x := vu) rfl (wpAny_bind (wpAny_field hos hds (x := .none) rfl (wpAny_pure ?_)))))))
  refine wpAny_bind (slicePart_none ?_)
  show wpAny _ _ (if ((1 : Int) == 0) = true then _ else _) _ _ s
  rw [if_neg (by decide)]
  refine wpAny_bind (slicePart_ pl (wpAny_bind (slicePart_ pu (wpAny_bind (wpAny_pure ?_)))))
  show wpAny _ _ (match Builtin.Slice.sliceAdjust lo hi 1 (n : Int) with | (lo, hi) => pure (lo, (1 : Int), Builtin.Slice.slicePlaces lo hi 1)) _ _ s
  rw [adjust_gen lo hi n]
  show wpAny _ _ (pure (((sIx n 0 lo : Nat) : Int), (1 : Int), Builtin.Slice.slicePlaces ((sIx n 0 lo : Nat) : Int) ((sIx n n hi : Nat) : Int) 1)) _ _ s
  rw [places_gen]
  exact wpAny_pure h
theorem pick_gen (xs : Array Value) (i k : Nat) : ((List.range k).filterMap fun (m : Nat) => xs[((i : Int) + (m : Int) * 1).toNat]?).toArray = ((xs.toList.drop i).take k).toArray := by
  have e : (fun (m : Nat) => xs[((i : Int) + (m : Int) * 1).toNat]?) = fun m => xs[i + m]? := by
    funext m
    have : ((i : Int) + (m : Int) * 1).toNat = i + m := by omega
    rw [this]
  rw [e]
  have := pick_run xs i k
  rw [List.filterMap_map] at this
  have e2 : ((fun x => xs[x]?) ∘ fun x => i + x) = fun m => xs[i + m]? := rfl
  rw [e2] at this
  rw [this]

theorem getItem_tuple_cut {t sl : Addr} {items : Array Value} {vl vu : Value} {lo hi : Option Int} {Q : Value → Shared → Prop} (ht : IsTup s.heap t items) (hs : s.heap.IsSliceOf sl vl vu .none) (pl : IsPart vl lo) (pu : IsPart vu hi)
    (hw : ¬ (sIx items.size 0 lo = 0 ∧ sIx items.size items.size hi = items.size))
    (h : Q (.ref s.heap.objs.size) { s with heap := s.heap.push { cls := .type "tuple", data := .seq ((items.toList.drop (sIx items.size 0 lo)).take (sIx items.size items.size hi - sIx items.size 0 lo)).toArray } })
    (hsz : items.size ≤ sizeLine) : wpAny (model prog w) A (getItem (.ref t) (.ref sl)) Q E s := by
  have htake : sizeOk (.seq ((items.toList.drop (sIx items.size 0 lo)).take (sIx items.size items.size hi - sIx items.size 0 lo)).toArray) := by
    show ((items.toList.drop (sIx items.size 0 lo)).take (sIx items.size items.size hi - sIx items.size 0 lo)).toArray.size ≤ sizeLine
    rw [List.size_toArray, List.length_take, List.length_drop, Array.length_toList]
    omega
  have hj : sIx items.size items.size hi ≤ items.size := sIx_le _ _ (Nat.le_refl _) hi
  obtain ⟨os, hos, hcs, hds⟩ := id hs
  have hTs : s.TypeIs (.ref sl) "slice" := ⟨os, hos, hcs⟩
  unfold getItem
  try with_reducible refine wpAny_holding ?_
  first | refine wpAny_bind (wpAny_pure ?_) | skip
  refine wpAny_bind (wpAny_sequenceKey ht.typeIs (by decide) ?_)
  refine wpAny_bind (wpAny_callSpecial?_slot (name := Str.ofString "__getitem__") ht.typeIs PyProof.Rows.slot_tuple_getitem
    (wpAny_call_entry PyProof.Rows.slot_tuple_getitem ht.typeIs entry_tuple_getitem ?_ (args_tuple_getitem _ _)))
  show wpAny _ _ (Builtin.Tuple.tupleItemsOf (.ref t) >>= _) _ _ s
  refine wpAny_bind (tupleItemsOf_ ht ?_)
  refine wpAny_bind (wpAny_typeOf hTs ?_)
  rw [if_pos (by decide)]
  refine wpAny_bind (sliceApplied_gen hs pl pu ?_)
  have hno : ¬ ((((sIx items.size 0 lo : Nat) : Int) == 0 && (1 : Int) == 1 && (sIx items.size items.size hi - sIx items.size 0 lo) == items.size) = true) := by
    intro q
    rw [Bool.and_eq_true, Bool.and_eq_true] at q
    have q1 : ((sIx items.size 0 lo : Nat) : Int) = 0 := eq_of_beq q.1.1
    have q2 : sIx items.size items.size hi - sIx items.size 0 lo = items.size := eq_of_beq q.2
    exact hw ⟨by omega, by omega⟩
  show wpAny _ _ (if (((sIx items.size 0 lo : Nat) : Int) == 0 && (1 : Int) == 1 && (sIx items.size items.size hi - sIx items.size 0 lo) == items.size) = true then _ else _) _ _ s
  rw [if_neg hno, pick_gen]
  first
    | exact wpAny_bind (m := Builtin.Tuple.tupleExact _) (wpAny_newObj_type (wpAny_pure ⟨_, rfl, wpAny_pure h⟩) htake)
    | exact wpAny_bind (m := Builtin.Tuple.tupleExact _) (wpAny_newObj_type (wpAny_bind (wpAny_pure (wpAny_pure ⟨_, rfl, wpAny_pure h⟩))) htake)
    | exact wpAny_bind (wpAny_bind (m := Builtin.Tuple.tupleExact _) (wpAny_newObj_type (wpAny_pure (wpAny_pure ⟨_, rfl, wpAny_pure h⟩)) htake))
    | exact wpAny_bind (wpAny_bind (m := Builtin.Tuple.tupleExact _) (wpAny_newObj_type (wpAny_pure ⟨_, rfl, wpAny_pure h⟩) htake))
end
end HT

namespace L2
open PySem PySem.Spec PyProof.Rows

/-! ### the parts of a slice -/
abbrev TO := St → Hp → (Option Int → Hp → Prop) → Prop
/-- a slice's part (left out, or an int) -/
def PO (X : Cx) (e : Option Expr) (t : TO) : Prop :=
  ∀ (pins : List (Addr × Obj)) (s : Shared) (σ : St) (H : Hp) (Q : Option Int → Hp → Prop), Inv X pins σ H s → t σ H Q →
    wpAny (model X.prog X.w) X.A (evalPart e X.env) (fun u s' => ∃ o H', Inv X pins σ H' s' ∧ IsPart u o ∧ Q o H') X.xe s
def tNoPart : TO := fun _ H Q => Q none H
def tPart (t : TE) : TO := fun σ H Q => t σ H fun x H1 => ∃ i, x = .int i ∧ Q (some i) H1

theorem intsAre_of {ns : List Int} : ∀ {us : List Value}, Vals (ns.map V.int) us → IntsAre us ns := by
  induction ns with
  | nil => intro us r; rw [List.map_nil] at r; cases r; exact .nil
  | cons n ns ih =>
    intro us r
    rw [List.map_cons] at r
    cases r with
    | cons r1 r2 =>
      obtain ⟨t, e⟩ := r1
      subst e
      exact .cons n t (ih r2)

section
variable {X : Cx} {e : Expr} {te : TE} {lo hi : Option Expr} {tl th : TO} {pos p2 : Pos}

theorem po_none : PO X none tNoPart := by
  intro pins s σ H Q I h
  rw [evalPart_none]
  exact wpAny_pure ⟨none, H, I, .none, h⟩
theorem po_some (h : PE X e te) : PO X (some e) (tPart te) := by
  intro pins s σ H Q I hw
  rw [evalPart_some]
  refine thn (h pins s σ H _ I hw) fun u s1 ⟨x, H1, I1, r1, q1⟩ => ?_
  obtain ⟨i, rfl, q⟩ := q1
  obtain ⟨t, rfl⟩ := r1
  exact ⟨some i, H1, I1, .int i t, q⟩

/-- what a slice of a value is, by values: the slice object stands at sl -/
def SlR (X : Cx) (r : V → Option Int → Option Int → Hp → VK → Prop) : Prop :=
  ∀ (pins : List (Addr × Obj)) (s : Shared) (σ : St) (H : Hp) (x : V) (v vl vu : Value) (lo hi : Option Int) (sl : Addr) (Q : VK), Inv X pins σ H s → RelV x v → s.heap.IsSliceOf sl vl vu .none → IsPart vl lo → IsPart vu hi → r x lo hi H Q →
    ∃ T id, typeLookup (.type T) "__getitem__" = pure (some (.builtin id)) ∧ s.TypeIs v T ∧ wpAny (model X.prog X.w) X.A (getItem v (.ref sl)) (EP X pins σ Q) X.xe s
def tSl (r : V → Option Int → Option Int → Hp → VK → Prop) (te : TE) (tl th : TO) : TE := fun σ H Q => te σ H fun x H1 => tl σ H1 fun l H2 => th σ H2 fun u H3 => r x l u H3 Q
/-- a[lo:hi], any a -/
theorem pe_slice {r : V → Option Int → Option Int → Hp → VK → Prop} (hr : SlR X r) (he : PE X e te) (hl : PO X lo tl) (hu : PO X hi th) : PE X (.Subscript e (.Slice lo hi none p2) pos) (tSl r te tl th) := by
  intro pins s σ H Q I h
  refine Subscript_ (thn (he pins s σ H _ I h) fun v s1 ⟨x, H1, I1, r1, q1⟩ => ?_)
  refine wpAny_Slice (thn (hl pins s1 σ H1 _ I1 q1) fun vl s2 ⟨l, H2, I2, pl, q2⟩ => thn (hu pins s2 σ H2 _ I2 q2) fun vu s3 ⟨u, H3, I3, pu, q3⟩ => ?_)
  rw [evalPart_none]
  refine wpAny_pure ?_
  have I4 : Inv X pins σ H3 { s3 with heap := s3.heap.push { cls := .type "slice", data := .fields #[vl, vu, .none] } } := I3.kept (t' := s3.toks) fun b ob q => Heap.get?_push_of_some _ q
  obtain ⟨T, id, hT, ht, hg⟩ := hr pins { s3 with heap := s3.heap.push { cls := .type "slice", data := .fields #[vl, vu, .none] } } σ H3 x v vl vu l u s3.heap.objs.size Q I4 r1 (Heap.IsSliceOf.new ..) pl pu q3
  show wpAny (model X.prog X.w) X.A (subscriptTail e (.Slice lo hi none p2) v (.ref s3.heap.objs.size)) (EP X pins σ Q) X.xe { s3 with heap := s3.heap.push { cls := .type "slice", data := .fields #[vl, vu, .none] } }
  exact tail_any (ops := [.ref s3.heap.objs.size, v]) ht hT hg (by with_unfolding_all rfl)

/-- the items of xs[lo:hi] -/
def cutV (xs : List V) (lo hi : Option Int) : List V := (xs.drop (HT.sIx xs.length 0 lo)).take (HT.sIx xs.length xs.length hi - HT.sIx xs.length 0 lo)
theorem cutV_length (xs : List V) (lo hi : Option Int) : (cutV xs lo hi).length ≤ xs.length := by
  unfold cutV
  rw [List.length_take, List.length_drop]
  omega
/-- t[lo:hi], not the whole of it (the whole would be t itself) -/
def rSlT (K : PySem.W.Frag) : V → Option Int → Option Int → Hp → VK → Prop := fun x lo hi H Q => ∃ a xs, x = .ref a ∧ SqT K H a xs ∧
  ¬ (HT.sIx xs.length 0 lo = 0 ∧ HT.sIx xs.length xs.length hi = xs.length) ∧ ∀ p, H p = none → Q (.ref p) (upd H p (.tup (cutV xs lo hi)))
theorem sl_tup : SlR X (rSlT X.K) := by
  intro pins s σ H x v vl vu lo hi sl Q I rx hs pl pu h
  obtain ⟨a, xs, rfl, hx, hw, q⟩ := h
  cases rx
  obtain ⟨its, r, ht, hz⟩ := I.tuple hx
  have hlen : its.toArray.size = xs.length := by rw [List.size_toArray]; exact r.length.symm
  refine ⟨"tuple", _, PyProof.Rows.slot_tuple_getitem.lookup, ht.typeIs, ?_⟩
  refine HT.getItem_tuple_cut ht hs pl pu (by rw [hlen]; exact hw) ?_ (by rw [hlen]; exact hz)
  rw [hlen]
  refine ⟨.ref s.heap.objs.size, _, I.laid (t' := s.toks) (o := .tup (cutV xs lo hi)) (fun b ob q => Heap.get?_push_of_some _ q) (Nat.le_refl _) ?_, rfl, q _ (I.hok.fresh (Nat.le_refl _))⟩
  exact ⟨Nat.le_trans (cutV_length xs lo hi) hz, _, (r.drop (HT.sIx xs.length 0 lo)).take (HT.sIx xs.length xs.length hi - HT.sIx xs.length 0 lo), IsTup.new _ _⟩

/-! ### t < u, t + u -/
/-- t + u, t not empty: u empty gives t itself -/
def rCatT (K : PySem.W.Frag) : R2 := fun x y H Q => ∃ a b xs ys, x = .ref a ∧ y = .ref b ∧ SqT K H a xs ∧ SqT K H b ys ∧ xs ≠ [] ∧ xs.length + ys.length ≤ sizeLine ∧
  (ys = [] → Q (.ref a) H) ∧ (ys ≠ [] → ∀ p, H p = none → Q (.ref p) (upd H p (.tup (xs ++ ys))))
theorem Vals.nil_iff {xs : List V} {us : List Value} (r : Vals xs us) : us = [] ↔ xs = [] := by
  cases r with
  | nil => simp
  | cons _ _ => simp
theorem op_catT : OpR X (binaryOp .Add) (rCatT X.K) := by
  intro pins s σ H x y v u Q I rx ry h
  obtain ⟨a, b, xs, ys, rfl, rfl, ha, hb, hx, hz, q1, q2⟩ := h
  cases rx
  cases ry
  obtain ⟨its, r1, p1, _⟩ := I.tuple ha
  obtain ⟨its2, r2, p2, _⟩ := I.tuple hb
  refine HT.cat_tup p1 p2 (fun z => hx (r1.nil_iff.mp z)) (fun z => ⟨.ref a, H, I, rfl, q1 (r2.nil_iff.mp z)⟩) (fun z => ?_) (by rw [← r1.length, ← r2.length]; exact hz)
  refine ⟨.ref s.heap.objs.size, _, I.laid (t' := s.toks) (o := .tup (xs ++ ys)) (fun b ob q => Heap.get?_push_of_some _ q) (Nat.le_refl _) ?_, rfl, q2 (fun w => z (r2.nil_iff.mpr w)) _ (I.hok.fresh (Nat.le_refl _))⟩
  exact ⟨by rw [List.length_append]; exact hz, _, r1.append r2, IsTup.new _ _⟩
end
end L2

namespace L2
open PySem PySem.Spec PyProof.Rows

/-! ### places -/
/-- the place that an index of any sign means -/
def ixN (n : Nat) (i : Int) : Option Nat := if 0 ≤ i then (if i < n then some i.toNat else none) else if -(n : Int) ≤ i then some (i + n).toNat else none
def atI {α : Type} (xs : List α) (i : Int) : Option α := (ixN xs.length i).bind fun j => xs[j]?
theorem ixN_seq {n : Nat} {i : Int} {j : Nat} (h : ixN n i = some j) : seqIndex? i n = some j ∧ j < n ∧ -(n : Int) ≤ i ∧ i < n := by
  unfold ixN at h
  by_cases h0 : 0 ≤ i
  · rw [if_pos h0] at h
    by_cases h1 : i < n
    · rw [if_pos h1] at h
      have e : i.toNat = j := Option.some.inj h
      exact ⟨by rw [seqIndex_of h0 h1, e], by omega, by omega, h1⟩
    · rw [if_neg h1] at h; cases h
  · rw [if_neg h0] at h
    by_cases h1 : -(n : Int) ≤ i
    · rw [if_pos h1] at h
      have e : (i + n).toNat = j := Option.some.inj h
      exact ⟨by rw [seqIndex_neg (by omega) h1, e], by omega, h1, by omega⟩
    · rw [if_neg h1] at h; cases h
theorem atI_get {α : Type} {xs : List α} {i : Int} {v : α} (h : atI xs i = some v) : ∃ j, seqIndex? i xs.length = some j ∧ xs[j]? = some v ∧ j < xs.length ∧ -(xs.length : Int) ≤ i ∧ i < xs.length := by
  unfold atI at h
  cases e : ixN xs.length i with
  | none => rw [e] at h; cases h
  | some j =>
    rw [e] at h
    obtain ⟨h1, h2, h3, h4⟩ := ixN_seq e
    exact ⟨j, h1, h, h2, h3, h4⟩
theorem atI_nat {α : Type} {xs : List α} {j : Nat} {v : α} (h : xs[j]? = some v) : atI xs (j : Int) = some v := by
  have hj : j < xs.length := (List.getElem?_eq_some_iff.mp h).1
  have e : ixN xs.length (j : Int) = some j := by
    unfold ixN
    rw [if_pos (by omega), if_pos (by omega)]; simp
  unfold atI; rw [e]; exact h

/-! ### what may be subscripted -/
/-- what stands as an index of a plain subscript -/
def PlainIx (b : Expr) : Prop := ∀ o i, subscripted b false o i = operate [o, i] (getItem o i)
/-- a subscript by values -/
def IxR (X : Cx) (r : R2) : Prop :=
  ∀ (value slice : Expr) (pins : List (Addr × Obj)) (s : Shared) (σ : St) (H : Hp) (x y : V) (v u : Value) (Q : VK), Inv X pins σ H s → RelV x v → RelV y u → r x y H Q →
    subscripted slice false v u = operate [v, u] (getItem v u) → wpAny (model X.prog X.w) X.A (subscriptTail value slice v u) (EP X pins σ Q) X.xe s
section
variable {X : Cx} {a b : Expr} {ta tb : TE} {pos : Pos}
/-- a[b] -/
theorem pe_ix {r : R2} (hr : IxR X r) (ha : PE X a ta) (hb : PE X b tb) (hs : PlainIx b) : PE X (.Subscript a b pos) (tOp r ta tb) := by
  intro pins s σ H Q I h
  exact Subscript_ (binT ha hb I h fun v u s2 x y H2 I2 rx ry q => hr a b pins s2 σ H2 x y v u Q I2 rx ry q (hs _ _))

def rIxL (K : PySem.W.Frag) : R2 := fun x y H Q => ∃ p xs i v, x = .ref p ∧ y = .int i ∧ SqL K H p xs ∧ atI xs i = some v ∧ Q v H
def rIxT (K : PySem.W.Frag) : R2 := fun x y H Q => ∃ p xs i v, x = .ref p ∧ y = .int i ∧ SqT K H p xs ∧ atI xs i = some v ∧ Q v H
theorem ix_list : IxR X (rIxL X.K) := by
  intro value slice pins s σ H x y v u Q I rx ry h hs
  obtain ⟨p, xs, i, z, rfl, rfl, hq, he, q⟩ := h
  cases rx
  obtain ⟨t, rfl⟩ := ry
  obtain ⟨its, r, pl, hz⟩ := I.list hq
  obtain ⟨j, h1, h2, h3, h4, h5⟩ := atI_get he
  obtain ⟨w, ew, rw'⟩ := r.get h2
  have hl := r.length
  have hn := line63
  have fin : EP X pins σ Q w s := ⟨z, H, I, rw', q⟩
  by_cases h0 : 0 ≤ i
  · have hj : i.toNat = j := by
      rw [seqIndex_of h0 h5] at h1
      exact Option.some.inj h1
    exact item_listR pl.isList h0 (by omega) (by rw [hj]; simpa using ew) fin hs
  · have hj : (i + (its.toArray.size : Int)).toNat = j := by
      rw [seqIndex_neg (by omega) h4] at h1
      rw [List.size_toArray, ← hl]
      exact Option.some.inj h1
    exact subscriptTail_builtinR (x := w) pl.isList.typeIs slot_list_getitem.lookup
      (wpAny_getItem_list_neg (Q := fun r s' => r = w ∧ EP X pins σ Q r s') pl.isList (by omega) (by rw [List.size_toArray] <;> omega) (by omega) (by rw [hj]; simpa using ew) ⟨rfl, fin⟩) hs
theorem ix_tup : IxR X (rIxT X.K) := by
  intro value slice pins s σ H x y v u Q I rx ry h hs
  obtain ⟨p, xs, i, z, rfl, rfl, hq, he, q⟩ := h
  cases rx
  obtain ⟨t, rfl⟩ := ry
  obtain ⟨its, r, pl, hz⟩ := I.tuple hq
  obtain ⟨j, h1, h2, h3, h4, h5⟩ := atI_get he
  obtain ⟨w, ew, rw'⟩ := r.get h2
  have hl := r.length
  have hn := line63
  have fin : EP X pins σ Q w s := ⟨z, H, I, rw', q⟩
  exact subscriptTail_builtinR (x := w) pl.typeIs slot_tuple_getitem.lookup
    (getItem_tuple (j := j) (Q := fun r s' => r = w ∧ EP X pins σ Q r s') pl (by omega) (by omega) (by rw [List.size_toArray, ← hl]; exact h1) (by simpa using ew) ⟨rfl, fin⟩) hs

/-! ### xs[i] = v, any sign -/
/-- the list's object behind a store -/
theorem mapSeq_set (its : List Value) (n j : Nat) (u : Value) : Obj.mapSeq (·.setIfInBounds j u) { cls := .type "list", data := .seq its.toArray n } = { cls := .type "list", data := .seq (its.set j u).toArray n } := by
  simp [Obj.mapSeq]
theorem Inv.lst {pins : List (Addr × Obj)} {σ : St} {H : Hp} {s : Shared} {p : Addr} {xs : List V} (I : Inv X pins σ H s) (h : H p = some (.lst xs)) :
    ∃ (its : List Value) (n : Nat), Vals xs its ∧ s.heap.get? p = some { cls := .type "list", data := .seq its.toArray n } ∧ xs.length ≤ sizeLine := by
  obtain ⟨z, its, n, r, e⟩ := I.hok p _ h
  exact ⟨its, n, r, e, z⟩
/-- the list at p is written by an update of its object -/
theorem Inv.lstUpd {pins : List (Addr × Obj)} {σ : St} {H : Hp} {s : Shared} {p : Addr} {xs ys : List V} {its its' : List Value} {n n' : Nat} {f : Obj → Obj} (I : Inv X pins σ H s) (h : H p = some (.lst xs))
    (ho : s.heap.get? p = some { cls := .type "list", data := .seq its.toArray n }) (hf : f { cls := .type "list", data := .seq its.toArray n } = { cls := .type "list", data := .seq its'.toArray n' }) (r : Vals ys its') (hz : ys.length ≤ sizeLine) (t : Nat) :
    Inv X pins σ (upd H p (.lst ys)) { s with heap := s.heap.update p f, toks := t } := by
  have e : (s.heap.update p f).get? p = some { cls := .type "list", data := .seq its'.toArray n' } := by
    rw [Heap.get?_update_self f ho (by rw [hf] <;> rfl), hf]
  refine I.write (x := p) (e := p) (by rw [h]; trivial) (.inl rfl) (fun b u hb q => (Heap.get?_update_other _ _ (Ne.symm hb)).trans q) ⟨_, e⟩ ?_
  exact ⟨hz, its', n', r, e⟩
def rSetL : V → V → V → Hp → (Hp → Prop) → Prop := fun o i v H Q => ∃ p xs k j, o = .ref p ∧ i = .int k ∧ H p = some (.lst xs) ∧ ixN xs.length k = some j ∧ Q (upd H p (.lst (xs.set j v)))
theorem set_list : PSet X rSetL := by
  intro pins s σ H o i v ov iv u Q I ro ri rv h
  obtain ⟨p, xs, k, j, rfl, rfl, hp, hj, q⟩ := h
  cases ro
  obtain ⟨t, rfl⟩ := ri
  obtain ⟨its, n, r, ho, hz⟩ := I.lst hp
  obtain ⟨h1, h2, h3, h4⟩ := ixN_seq hj
  have hl := r.length
  have hn := line63
  have I' : Inv X pins σ (upd H p (.lst (xs.set j v))) { s with heap := s.heap.update p (Obj.mapSeq (·.setIfInBounds j u)) } :=
    I.lstUpd hp ho (mapSeq_set its n j u) (r.set rv j) (by rw [List.length_set]; exact hz) s.toks
  by_cases h0 : 0 ≤ k
  · have hk : k.toNat = j := by
      rw [seqIndex_of h0 h4] at h1
      exact Option.some.inj h1
    exact PySem.W.ki_setAt ho h0 (by omega) (by rw [List.size_toArray, ← hl]; exact h4) (by rw [hk]; exact ⟨_, I', q⟩)
  · have hk : (k + (its.toArray.size : Int)).toNat = j := by
      rw [seqIndex_neg (by omega) h3] at h1
      rw [List.size_toArray, ← hl]
      exact Option.some.inj h1
    exact PySem.W.ki_setBack ho (by omega) (by rw [List.size_toArray, ← hl]; exact h3) (by omega) (by rw [hk]; exact ⟨_, I', q⟩)

/-! ### slices -/
theorem slice_bounds (lo hi : Option Int) (n : Nat) : (sliceBounds lo hi none n).1 = ((HT.sIx n 0 lo : Nat) : Int) ∧ (sliceBounds lo hi none n).2.1 = ((HT.sIx n n hi : Nat) : Int) ∧ (sliceBounds lo hi none n).2.2 = 1 := by
  refine ⟨?_, ?_, rfl⟩
  · cases lo with
    | none => simp [sliceBounds, HT.sIx]
    | some i =>
      simp only [sliceBounds, HT.sIx, Option.getD_none, show (1 : Int) > 0 by decide, if_true]
      by_cases h : i < 0
      · simp only [h, if_true] <;> omega
      · simp only [h, if_false] <;> omega
  · cases hi with
    | none => simp [sliceBounds, HT.sIx]
    | some i =>
      simp only [sliceBounds, HT.sIx, Option.getD_none, show (1 : Int) > 0 by decide, if_true]
      by_cases h : i < 0
      · simp only [h, if_true] <;> omega
      · simp only [h, if_false] <;> omega
theorem slicePick_cut (its : List Value) (lo hi : Option Int) : slicePick its.toArray lo hi none = ((its.drop (HT.sIx its.length 0 lo)).take (HT.sIx its.length its.length hi - HT.sIx its.length 0 lo)).toArray := by
  obtain ⟨h1, h2, h3⟩ := slice_bounds lo hi its.toArray.size
  unfold slicePick
  rw [h1, h2, h3]
  simp only [sliceRange_one, pick_run, List.size_toArray] <;> rfl
/-- xs[lo:hi] of a list: a new list -/
def rSlL (K : PySem.W.Frag) : V → Option Int → Option Int → Hp → VK → Prop := fun x lo hi H Q => ∃ a xs, x = .ref a ∧ SqL K H a xs ∧ ∀ p, H p = none → Q (.ref p) (upd H p (.lst (cutV xs lo hi)))
theorem sl_list : SlR X (rSlL X.K) := by
  intro pins s σ H x v vl vu lo hi sl Q I rx hs pl pu h
  obtain ⟨a, xs, rfl, hx, q⟩ := h
  cases rx
  obtain ⟨its, r, ht, hz⟩ := I.list hx
  have hlen := r.length
  refine ⟨"list", _, slot_list_getitem.lookup, ht.isList.typeIs, ?_⟩
  refine wpAny_getItem_list_slice ht.isList hs pl pu .none (by simp) ?_ (by rw [List.size_toArray] <;> omega)
  rw [slicePick_cut, ← hlen]
  refine ⟨.ref s.heap.objs.size, _, I.laid (t' := s.toks) (o := .lst (cutV xs lo hi)) (fun b ob q => Heap.get?_push_of_some _ q) (Nat.le_refl _) ?_, rfl, q _ (I.hok.fresh (Nat.le_refl _))⟩
  exact ⟨Nat.le_trans (cutV_length xs lo hi) hz, _, 0, (r.drop (HT.sIx xs.length 0 lo)).take (HT.sIx xs.length xs.length hi - HT.sIx xs.length 0 lo), Heap.get?_push_size _ rfl⟩

/-! ### in, not in: flat items -/

/-! ### len, list(x), tuple(x) of any list or tuple that is read -/
theorem call_len_seq : CallR X (.builtin "len") (fun xs H Q => ∃ p ys, xs = [.ref p] ∧ (SqL X.K H p ys ∨ SqT X.K H p ys) ∧ Q (.int ys.length) H) := by
  intro pins s σ H xs us Q I r h
  obtain ⟨p, ys, rfl, hq, q⟩ := h
  obtain ⟨u, rfl, rx⟩ := vals1 r
  cases rx
  have hn := line63
  rcases hq with hq | hq
  · obtain ⟨its, r', pl, hz⟩ := I.list hq
    have hlen := r'.length
    exact Calls.call_len_list pl.isList (by simp only [List.size_toArray] <;> omega) ⟨.int ys.length, H, I.tok _, ⟨s.toks + 1, by rw [List.size_toArray, hlen]⟩, q⟩
  · obtain ⟨its, r', pl, hz⟩ := I.tuple hq
    have hlen := r'.length
    exact len_tuple pl (by simp only [List.size_toArray] <;> omega) ⟨.int ys.length, H, I.tok _, ⟨s.toks + 1, by rw [List.size_toArray, hlen]⟩, q⟩
theorem call_tuple_of : CallR X (.type "tuple") (fun xs H Q => ∃ p ys, xs = [.ref p] ∧ ((SqL X.K H p ys ∧ ∀ l, H l = none → Q (.ref l) (upd H l (.tup ys))) ∨ (SqT X.K H p ys ∧ Q (.ref p) H))) := by
  intro pins s σ H xs us Q I r h
  obtain ⟨p, ys, rfl, h⟩ := h
  obtain ⟨u, rfl, rx⟩ := vals1 r
  cases rx
  rcases h with ⟨hq, q⟩ | ⟨hq, q⟩
  · obtain ⟨its, r', pl, hz⟩ := I.list hq
    have hlen := r'.length
    refine call_tuple_list pl.isList (fun h' kp => ?_) (by simp only [List.size_toArray] <;> omega)
    have I1 : Inv X pins σ H { s with heap := h' } := I.kept (t' := s.toks) kp
    have I2 : Inv X pins σ (upd H h'.objs.size (.tup ys)) { s with heap := h'.push { cls := .type "tuple", data := .seq its.toArray } } :=
      I1.laid (t' := s.toks) (fun b o e => Heap.get?_push_of_some _ e) (Nat.le_refl _) (show ObjOk X.prog X.w _ _ _ (.tup ys) from ⟨hz, its, r', IsTup.new _ _⟩)
    exact ⟨.ref h'.objs.size, _, I2, rfl, q _ (I1.hok.fresh (Nat.le_refl _))⟩
  · obtain ⟨its, r', pl, hz⟩ := I.tuple hq
    exact call_tuple_same pl ⟨.ref p, H, I, rfl, q⟩

/-! ### the call of a builtin's method: o.m(..) -/
variable {o e : Expr} {es : List Expr} {to : TE} {t : TA} {name : Str} {apos cpos : Pos} {T id : String} {r : V → List V → Hp → VK → Prop}
/- xs.append(e), list.index on a module's tuple .. are MtR facts of 06m -/
end
end L2

namespace L2
open PySem PySem.Spec PyProof.Rows

def MtM (X : Cx) (id : String) (r : V → List V → Hp → VK → Prop) : Prop :=
  ∀ (pins : List (Addr × Obj)) (s : Shared) (σ : St) (H : Hp) (x : V) (xs : List V) (v : Value) (us : List Value) (Q : VK), Inv X pins σ H s → RelV x v → Vals xs us → r x xs H Q →
    wpAny (model X.prog X.w) X.A (call (.builtin id) (v :: us)) (EP X pins σ Q) X.xe s

/-! ### lists of values -/
theorem Vals.one : ∀ {x : V} {us : List Value}, Vals [x] us → ∃ u, us = [u] ∧ RelV x u
  | _, _, .cons r .nil => ⟨_, rfl, r⟩
theorem Vals.zero : ∀ {us : List Value}, Vals [] us → us = []
  | _, .nil => rfl
theorem Vals.reverse {xs : List V} {us : List Value} (h : Vals xs us) : Vals xs.reverse us.reverse := by
  induction h with
  | nil => exact .nil
  | cons r t ih => rw [List.reverse_cons, List.reverse_cons]; exact Vals.append ih (.cons r .nil)
theorem Vals.rep {xs : List V} {us : List Value} (h : Vals xs us) : ∀ k : Nat, Vals (List.replicate k xs).flatten (List.replicate k us).flatten
  | 0 => .nil
  | k + 1 => by
    rw [List.replicate_succ, List.replicate_succ, List.flatten_cons, List.flatten_cons]
    exact Vals.append h (Vals.rep h k)
theorem foldl_rep (its : List Value) : ∀ (k : Nat) (acc : List Value),
    List.foldl (fun x1 x2 => x1 ++ x2) acc.toArray (List.replicate k its.toArray) = (acc ++ (List.replicate k its).flatten).toArray
  | 0, acc => by simp
  | k + 1, acc => by
    have e : acc.toArray ++ its.toArray = (acc ++ its).toArray := by simp
    have e2 : (acc ++ its) ++ (List.replicate k its).flatten = acc ++ (List.replicate (k + 1) its).flatten := by
      rw [List.replicate_succ, List.flatten_cons, List.append_assoc]
    rw [← e2, ← foldl_rep its k (acc ++ its), ← e, List.replicate_succ, List.foldl_cons]

section
variable {X : Cx} {pins : List (Addr × Obj)} {σ : St} {H : Hp} {s : Shared} {l b : Addr} {xs ys zs : List V}

/-! ### the two steps: a tracked list is rewritten, a new list is laid -/
theorem Inv.lset {its its' : List Value} {n : Nat} {f : Array Value → Array Value} {t' : Nat} (I : Inv X pins σ H s) (hH : H l = some (.lst xs))
    (e : s.heap.get? l = some { cls := .type "list", data := .seq its.toArray n }) (hf : f its.toArray = its'.toArray) (hv : Vals ys its') (hz : ys.length ≤ sizeLine) :
    Inv X pins σ (upd H l (.lst ys)) { s with heap := s.heap.update l (Obj.mapSeq f), toks := t' } := by
  have q := PySem.IsL.update e f
  rw [hf] at q
  refine I.write (x := l) (e := l) (by rw [hH]; exact trivial) (.inl rfl) (fun b' u hb hu => (Heap.get?_update_other s.heap (Obj.mapSeq f) (Ne.symm hb)).trans hu) ⟨_, q⟩ ?_
  exact ⟨hz, its', _, hv, q⟩
theorem Inv.lnew {its : List Value} {t' : Nat} (I : Inv X pins σ H s) (hv : Vals ys its) (hz : ys.length ≤ sizeLine) :
    Inv X pins σ (upd H s.heap.objs.size (.lst ys)) { s with heap := s.heap.push { cls := .type "list", data := .seq its.toArray }, toks := t' } :=
  I.laid (fun _ _ q => Heap.get?_push_of_some _ q) (Nat.le_refl _) ⟨hz, its, 0, hv, Heap.get?_push_size _ rfl⟩
theorem Inv.fresh (I : Inv X pins σ H s) : H s.heap.objs.size = none := I.hok.fresh (Nat.le_refl _)
theorem Inv.lstM (I : Inv X pins σ H s) (hH : H l = some (.lst xs)) : xs.length ≤ sizeLine ∧ ∃ (its : List Value) (n : Nat), Vals xs its ∧ xs.length = its.length ∧ s.heap.get? l = some { cls := .type "list", data := .seq its.toArray n } := by
  obtain ⟨z, its, n, r, e⟩ := I.hok l _ hH
  exact ⟨z, its, n, r, r.length, e⟩

theorem notLongL {n : Nat} (h : n ≤ sizeLine) : Builtin.List.listTooLong n = false := by
  unfold Builtin.List.listTooLong
  exact decide_eq_false (by omega)
end

section
variable {X : Cx}

/-! ### methods -/

def rExtend : V → List V → Hp → VK → Prop := fun x vs H Q => ∃ l b xs zs, x = .ref l ∧ vs = [.ref b] ∧ H l = some (.lst xs) ∧ H b = some (.lst zs) ∧ xs.length + zs.length ≤ sizeLine ∧ Q .non (upd H l (.lst (xs ++ zs)))
theorem mt_extend : MtM X "list.extend" rExtend := by
  intro pins s σ H x vs v us Q I rx rv h
  obtain ⟨l, b, xs, zs, rfl, rfl, hH, hB, hz, q⟩ := h
  cases rx
  obtain ⟨u, rfl, ru⟩ := rv.one
  cases ru
  obtain ⟨z, its, n, r, hl, e⟩ := I.lstM hH
  obtain ⟨z2, its2, n2, r2, hl2, e2⟩ := I.lstM hB
  have hsz : its.toArray.size + its2.toArray.size ≤ sizeLine := by rw [List.size_toArray, List.size_toArray]; omega
  have hlong : ¬ (!its.toArray.isEmpty && Builtin.List.listTooLong (its.toArray.size + its2.toArray.size)) = true := by
    rw [notLongL hsz, Bool.and_false]
    exact Bool.false_ne_true
  refine call_meets F.slot_list_extend ⟨_, e, rfl⟩ F.entry_list_extend (F.args_list_extend_2 _ _)
    (AutoSeq1.list_extend_list_list_0 l its.toArray n b its2.toArray n2 hlong (by rw [List.size_toArray]; omega) (by omega)) ⟨e, e2, ?_⟩
  refine ⟨.non, _, I.lset (its' := its ++ its2) hH e (by simp) (r.append r2) ?_, rfl, q⟩
  rw [List.length_append]
  omega





/-! ### list + list, list += list, list * int -/
def rCat : R2 := fun x y H Q => ∃ l b xs zs, x = .ref l ∧ y = .ref b ∧ H l = some (.lst xs) ∧ H b = some (.lst zs) ∧ xs.length + zs.length ≤ sizeLine ∧ ∀ p, H p = none → Q (.ref p) (upd H p (.lst (xs ++ zs)))
theorem op_cat : OpR X (binaryOp .Add) rCat := by
  intro pins s σ H x y v u Q I rx ry h
  obtain ⟨l, b, xs, zs, rfl, rfl, hH, hB, hz, q⟩ := h
  cases rx
  cases ry
  obtain ⟨z, its, n, r, hl, e⟩ := I.lstM hH
  obtain ⟨z2, its2, n2, r2, hl2, e2⟩ := I.lstM hB
  refine PySem.P.add_list e e2 ?_ (by rw [List.size_toArray, List.size_toArray]; omega)
  have ea : its.toArray ++ its2.toArray = (its ++ its2).toArray := by simp
  rw [ea]
  exact ⟨.ref _, _, I.lnew (t' := s.toks) (r.append r2) (by rw [List.length_append]; omega), rfl, q _ I.fresh⟩
theorem len_rep {α : Type} (xs : List α) (k : Nat) : (List.replicate k xs).flatten.length = k * xs.length := by
  induction k with
  | zero => simp
  | succ k ih => rw [List.replicate_succ, List.flatten_cons, List.length_append, ih, Nat.succ_mul, Nat.add_comm]

/-! ### del xs[i] -/
end

/-! ### xs[a:b] = ys -/
section
variable {prog : Program} {w : World} {A : Around} {E : Value → Shared → Prop} {s : Shared}
end

section
variable {X : Cx}
end
end L2

namespace Att
open PySem PySem.W PySem.Calls PyProof.Rows

/-! ### the script -/
theorem ints_of_wellAll {P : Params} {h : Heap} : ∀ (ns : List Int) (vs : List Value), WellAll P h vs (ns.map WData.int) → IntsAre vs ns := by
  intro ns
  induction ns with
  | nil =>
    intro vs w
    rw [List.map_nil] at w
    cases w
    exact .nil
  | cons n ns ih =>
    intro vs w
    rw [List.map_cons] at w
    cases w with
    | cons a b =>
      cases a
      exact .cons _ _ (ih _ b)

theorem script_of {l : OpenLaw} {n : Nat} (hn : l.most = some n) {P : Params} {h : Heap} {args : List WData} {vals : List Value}
    (hpre : l.row.toRowW.claim.pre args = true) (hwl : WellAll P h vals args) :
    ∃ a vs ns, vals = [Value.ref a] ∧ args = [WData.list (ns.map WData.int)] ∧ h.get? a = some { cls := .type "list", data := .seq vs.toArray } ∧ IntsAre vs ns ∧ ns.length ≤ n := by
  have hsh : WShape.hasAll [] args [.list .int] = true := (pre_splitW hpre).1
  have hc : l.pre.holds [] { args := args } = true := (pre_splitW hpre).2
  obtain ⟨d, r, rfl, h1, h2⟩ := hasAllW_cons hsh
  obtain rfl := hasAllW_nil h2
  obtain ⟨xs, rfl, h3⟩ := hasW_list h1
  obtain ⟨ns, rfl⟩ := items_int h3
  have hlen : ns.length ≤ n := by
    unfold OpenLaw.pre at hc
    have h4 : (WTm.not (.lt (.lit (.int (n : Int))) (.len (.arg 0)))).holds [] { args := [.list (ns.map .int)] } = true := by
      have h4 := (holds_andW hc).1
      rw [hn] at h4
      exact h4
    have h5 := condW_of h4 (w_not (w_lt w_lit (w_len_list (w_arg rfl))))
    rw [List.length_map] at h5
    refine Nat.le_of_not_lt fun q => ?_
    have q' : (n : Int) < ((ns.length : Nat) : Int) := by omega
    first
      | (rw [decide_eq_true q'] at h5; exact absurd h5 (by decide))
      | (simp at h5; omega)
  cases hwl with
  | cons w1 w2 =>
    cases w2
    cases w1 with
    | list ho hall => exact ⟨_, _, ns, rfl, rfl, ho, ints_of_wellAll ns _ hall, hlen⟩

theorem post_true (l : OpenLaw) (args : List WData) : l.row.toRowW.claim.post args (.bool true) args = true :=
  postW_of (r := l.row.toRowW) (X := (true == true))
    (show WShape.has [] (.bool true) .bool = true by first | rfl | decide | simp [WShape.has, WShape.arms, WShape.armsAll])
    (show (WTm.eq .res (.lit (.bool true))).value [] { args := args, res := some (.bool true), after := args } = some (.bool (true == true)) from w_eq_bool (w_res rfl) w_lit) rfl

/-! ### the attachment: holds_open's last premise (the goal 'hc' behind k_head) from a wpAny of the law's body -/

/-- the same from a codeAny of the CALL (for a layer whose function contracts speak of calls) -/
theorem attach_call {l : OpenLaw} {n : Nat} {q : Program} {loose : List Str} {XP : (Str → Option Value) → Heap → Prop} {YP : World → Heap → Prop} {d : DefRec}
    (hn : l.most = some n) (hdf : d.params.defaults = [])
    (call : ∀ (w : World) (s₀ s₁ : Shared) (mg mb : Str → Option Value) (fa : Addr) (o : Obj) (pm cd doc : Value) (a : Addr) (vs : List Value) (ns : List Int),
      Ground q loose [] XP w s₀ mg mb s₁.heap → YP w s₁.heap →
      s₁.heap.get? fa = some o → o.data = .func (docDef d.name d.params d.body d.scope pm cd doc) → s₁.heap.CodeRec cd d.name → mg d.name = some (.ref fa) →
      s₁.heap.get? a = some { cls := .type "list", data := .seq vs.toArray } → IntsAre vs ns → ns.length ≤ n → s₁.gens = #[] →
      codeAny (model l.prog w) callerA (.call (.ref fa) ⟨[.ref a], []⟩) (fun r s' => r = .ok (.ret (.bool true)) ∧ OldK s₁.heap s'.heap ∧ s'.os = s₁.os ∧ AllBare s'.gens) s₁) :
    WalkO q loose XP YP l.row.toRowW d [] (fun f vs => PySem.call f vs) := by
  intro w s₀ s₁ mg mb G Y fa o pm cd doc dV kV ho hd hcd hD hmg hg args vals as hpre hlay hrd hwl hlo
  obtain rfl : dV = .none := Dflts.none hD hdf
  obtain rfl : kV = .none := Dflts.noKw hD
  obtain ⟨a, vs, ns, rfl, rfl, hobj, hints, hlen⟩ := script_of hn hpre hwl
  refine enter_call (codeAny_mono (call w s₀ s₁ mg mb fa o pm cd doc a vs ns G Y ho (fd_plain hd) hcd hmg hobj hints hlen hg) fun r s' hq => ?_)
  obtain ⟨rfl, h2, h3, h4⟩ := hq
  exact ⟨.inl ⟨.bool true, .bool true, [], rfl, fun _ => rfl, .bool true, post_true l _, fun _ => ⟨List.Pairwise.nil, fun _ hm => (nomatch hm)⟩⟩, h2, h3, h4⟩


/-! ### rules over ANY heap (no ledger) from facts about the written part K: the library's own take a ledger (News) for what they write -/
section
variable {prog : Program} {w : World} {A : Around} {E : Value → Shared → Prop} {s : Shared} {K : Frag}





/-! the whole heap as the ledger: makes every rule that writes through a ledger a rule over any heap -/

end
end Att

namespace L2
open PySem PySem.Spec PyProof.Rows

theorem vals_ints : ∀ {vs : List Value} {ns : List Int}, IntsAre vs ns → Vals (ns.map V.int) vs
  | _, _, .nil => .nil
  | _, _, .cons n t h => .cons ⟨t, rfl⟩ (vals_ints h)

/-- nothing is tracked but the script, known to the object (or it is an object of the module) -/
def Only (H : Hp) : Prop := ∀ b, H b = none ∨ ∃ o xs, H b = some (.frz o (.lst xs))

/-- THE HEAD: the law's promise, at the heap behind the top. F, the promise of the law's def, may use that base is part of the heap (so K.In base, base.Ns mainGlobals mg stand in Mod) -/
theorem law_call {P : Program} {w : World} {K : PySem.W.Frag} {mg mb : Str → Option Value} {CX : CXT} {k : Nat} {fa a : Addr} {fd : FuncData} {x : Str} {sp : Sp} {s₁ : Shared} {vs : List Value} {ns : List Int}
    (KX : K.In s₁.heap) (hns : s₁.heap.Ns mainGlobals mg) (hb : s₁.heap.Ns builtinsNs mb) (hbb : ∀ x : Str, x ≠ "__name__" → mb x = bootBuiltins x) (hlim : s₁.heap.NoLimit) (hg : s₁.gens = #[])
    (ha : s₁.heap.get? a = some { cls := .type "list", data := .seq vs.toArray }) (hi : IntsAre vs ns) (hl : ns.length ≤ sizeLine) (hr : Room k callerA)
    (F : ∀ base : Heap, K.In base → base.Ns mainGlobals mg → FnOk P w K mg base CX k fa fd [x] sp) (hbind : ∀ (s : Shared) (u : Value), BindsTo s fd ⟨[u], []⟩ [(x, u)])
    (hsp : ∀ H : Hp, Only H → SqL K H a (ns.map V.int) → sp [.ref a] H (fun v _ => v = .bl true) fun _ _ _ => False)
    (hCX : ∀ H e s', CX [] H s₁ (fun _ _ _ => False) e s' → False) :
    codeAny (model P w) callerA (.call (.ref fa) ⟨[.ref a], []⟩) (fun r s' => r = .ok (.ret (.bool true)) ∧ OldK s₁.heap s'.heap ∧ s'.os = s₁.os ∧ AllBare s'.gens) s₁ := by
  have rv := vals_ints hi
  have lenV := hi.length
  -- from an abstract heap in which nothing but the script may be tracked
  have core : ∀ H : Hp, Only H → SqL K H a (ns.map V.int) → HOk P w H s₁.heap → (∀ b, H b ≠ none → b = a) → (H a ≠ none → K.lookup a = none) →
      codeAny (model P w) callerA (.call (.ref fa) ⟨[.ref a], []⟩) (fun r s' => r = .ok (.ret (.bool true)) ∧ OldK s₁.heap s'.heap ∧ s'.os = s₁.os ∧ AllBare s'.gens) s₁ := by
    intro H hO hS hok hA hK
    have base_of : ∀ {b : Addr} {o : Obj}, s₁.heap.get? b = some o → H b = none → (hidT s₁.heap H).get? b = some o := fun e n => hidT_get e n
    have noA : ∀ {b : Addr} {o : Obj} {es : Array DictEntry} {ep : Nat}, s₁.heap.get? b = some o → o.data = .dict es ep → H b = none := fun {b o es ep} e d => by
      cases q : H b with
      | none => rfl
      | some u =>
        have e' : b = a := hA b (by rw [q]; simp)
        subst e'
        rw [ha] at e; cases e
        have d' : Data.seq vs.toArray _ = Data.dict es ep := d
        cases d'
    have nsK : ∀ {b : Addr} {m : Str → Option Value}, s₁.heap.Ns b m → (hidT s₁.heap H).Ns b m := fun {b m} ⟨o, es, ep, e, d, r⟩ => ⟨o, es, ep, base_of e (noA e d), d, r⟩
    have hKb : K.In (hidT s₁.heap H) := fun b o e => base_of (KX b o e) (by
      cases q : H b with
      | none => rfl
      | some u =>
        have e' : b = a := hA b (by rw [q]; simp)
        subst e'
        rw [hK (by rw [q]; simp)] at e; cases e)
    have hM : Mod K mg (hidT s₁.heap H) := ⟨hKb, nsK hns, ⟨mb, nsK hb, hbb⟩, let ⟨mc, h1, h2⟩ := hlim; ⟨mc, nsK h1, h2⟩⟩
    have e0 : Env0 P w K mg (hidT s₁.heap H) callerA [] s₁ H := ⟨rfl, hM, fun b o e => of_hidT e, Nat.le_of_eq (hidT_size _ _), trivial, fun b hb => absurd (show b ∈ ([] : List Addr) from hb) (by simp), hok, .of_eq hg⟩
    refine codeAny_mono ((F _ hKb (nsK hns)).run callerA [] s₁ H ⟨[.ref a], []⟩ [.ref a] [.ref a] _ _ hr e0 (hbind s₁ (.ref a)) (.cons rfl .nil) (hsp H hO hS)) fun r s' h => ?_
    cases r with
    | error e => exact (hCX H e s' h).elim
    | ok fl =>
      cases fl with
      | next => exact False.elim h
      | brk => exact False.elim h
      | cont => exact False.elim h
      | ret u =>
        obtain ⟨v, H', os, bare, un, hok', r', q⟩ := h
        have q' : v = .bl true := q
        subst q'
        obtain rfl : u = Value.bool true := r'
        refine ⟨rfl, OldK.of_keep fun b o e => ?_, os, bare⟩
        cases q : H b with
        | none => exact un.keep b o e q (by intro z; exact absurd (show b ∈ ([] : List Addr) from z) (by simp)) (by simp)
        | some u =>
          rcases hO b with z | ⟨ob, xs, z⟩
          · rw [q] at z; cases z
          · have z2 := un.frzs b ob _ z
            obtain ⟨e1, _⟩ := hok b _ z
            obtain ⟨e2, _⟩ := hok' b _ z2
            rw [e] at e1; cases e1
            exact e2
  cases hk : K.lookup a with
  | some o =>
    -- the script is one of the module's own objects
    have e := KX a o hk
    rw [ha] at e
    cases e
    refine core (fun _ => none) (fun _ => .inl rfl) (.inr ⟨_, vs.toArray, _, hk, rfl, rfl, rfl, by rw [List.size_toArray, lenV]; exact hl, by simpa using rv⟩) (fun b u z => by have z' : (none : Option HO) = some u := z; cases z') (fun b z => absurd rfl z) fun z => absurd rfl z
  | none =>
    refine core (fun b => if b = a then some (.frz { cls := .type "list", data := .seq vs.toArray } (.lst (ns.map V.int))) else none) (fun b => ?_) (.inl (.inr ⟨{ cls := .type "list", data := .seq vs.toArray }, if_pos rfl⟩)) (fun b u z => ?_) (fun b z => ?_) fun _ => hk
    · by_cases hb : b = a
      · exact .inr ⟨_, _, if_pos hb⟩
      · exact .inl (if_neg hb)
    · by_cases hb : b = a
      · have z' := (if_pos hb).symm.trans z
        cases z'
        subst hb
        exact ⟨ha, by rw [List.length_map]; exact hl, vs, _, rv, ha⟩
      · have z' := (if_neg hb).symm.trans z
        cases z'
    · by_cases hb : b = a
      · exact hb
      · exact absurd (if_neg hb) z
end L2

namespace L2
open PySem PySem.Spec PyProof.Rows


/-- the goal that k_head leaves (case hc), from the law's promise. F gives the function object fd (K's own) once, then the promise over every base -/
theorem walk_of {l : PySem.W.OpenLaw} {n k : Nat} {q : Program} {loose : List Str} {XP : (Str → Option Value) → Heap → Prop} {YP : World → Heap → Prop} {d : DefRec} {K : Params → PySem.W.Frag} {CX : World → CXT} {sp : World → Sp} {x : Str}
    (hn : l.most = some n) (hn2 : n ≤ sizeLine) (hdf : d.params.defaults = []) (hr : Room k callerA)
    (hY : ∀ (w : World) (h : Heap), YP w h → (K w.params).In h)
    (F : ∀ (w : World) (mg : Str → Option Value) (fa : Addr) (h : Heap), (K w.params).In h → h.Ns mainGlobals mg → mg d.name = some (.ref fa) →
      ∃ fd : FuncData, (∀ (s : Shared) (u : Value), BindsTo s fd ⟨[u], []⟩ [(x, u)]) ∧
        ∀ base : Heap, (K w.params).In base → base.Ns mainGlobals mg → FnOk l.prog w (K w.params) mg base (CX w) k fa fd [x] (sp w))
    (hsp : ∀ (w : World) (H : Hp) (a : Addr) (ns : List Int), ns.length ≤ n → Only H → SqL (K w.params) H a (ns.map V.int) → sp w [.ref a] H (fun v _ => v = .bl true) fun _ _ _ => False)
    (hCX : ∀ (w : World) (H : Hp) (s : Shared) (e : Value) (s' : Shared), CX w [] H s (fun _ _ _ => False) e s' → False) :
    PySem.W.WalkO q loose XP YP l.row.toRowW d [] (fun f vs => PySem.call f vs) := by
  refine Att.attach_call hn hdf fun w s₀ s₁ mg mb fa o pm cd doc a vs ns G Y ho hd hcd hmg hobj hints hlen hg => ?_
  have KX := hY w _ Y
  obtain ⟨fd, hb, hF⟩ := F w mg fa _ KX G.T.g hmg
  exact law_call KX G.T.g G.T.b G.T.builtins G.T.nolimit hg hobj hints (Nat.le_trans hlen hn2) hr hF hb (fun H hO hS => hsp w H a ns hlen hO hS) fun H e s' => hCX w H s₁ e s'
end L2

/- THE LAST THEOREM (shape; LID, My.* are yours):
   My.Adr: a structure of the addresses that your layer names (classes, functions); My.Txt K t: a structure (Prop) of the equations over K;
   My.txt_mk : {K} {implicit addresses ..} (e1 : nsIn K mainGlobals "law" = some (some (.ref f))) (e2 : K.lookup f = some ⟨oc, od, .func (fnOf "law" "law" params body scope dV kV doc pm an cdv ct), sl⟩) (e3 : codeIn K cdv "law" = true) .. : ∃ t, My.Txt K t

set_option maxRecDepth 100000 in
set_option maxHeartbeats 0 in
theorem PySem.Challenge.cw_LID_holds : PySem.Challenge.rw_LID.Holds := by
  w_on; o_law; k_head; (case hw => w_witness2)
  k_fill
  refine L2.walk_of (l := PySem.Challenge.rw_LID) (n := 63) (k := 40) (x := "script") (CX := fun w => ..) (sp := fun _ => My.sp_law) rfl (by decide) rfl ⟨rfl, by decide, by decide⟩ (fun w h Y => PySem.W.kIn_of Y) ?F ?S ?C
  case F =>
    intro w mg fa h KX G hmg
    have T : ∃ t, My.Txt (L2.KOf KX) t := by
      dsimp only [L2.KOf]                          -- K must stand as «<heap const> w.params» for k_is
      refine' My.txt_mk ?e1 ?e2 ?e3 ..
      (case e1 => PySem.W.k_is)                    -- in the order: a name -> its address -> its object -> its parts
      (case e2 => PySem.W.k_is)
      ..
    obtain ⟨t, T⟩ := T
    have e0 := hmg.symm.trans (PySem.W.mg_of KX G T.law)
    cases e0                                       -- fa is the law's own address
    exact ⟨_, fun s u => .of_eq rfl, fun base kb nb => My.law_fn T kb nb⟩     -- if «.of_eq rfl» comes too early: refine' ⟨_, ?b, fun base kb nb => My.law_fn T kb nb⟩; exact fun s u => .of_eq rfl
  case S => exact fun w H a ns hl hO hS => ..
  case C => exact ..
(the tactic k_is has no namespace: write k_is) -/

/-! SHORT WORDS over the layer: a def of the text, its body, what a loop and a test want. -/
namespace L2
open PySem PySem.Spec PyProof.Rows

/-! ### the text by places -/
def defArgs (s : Stmt) : Arguments := match s with
  | .FunctionDef _ a _ _ _ _ _ _ _ _ => a
  | _ => { posonlyargs := [], args := [], vararg := none, kwonlyargs := [], kw_defaults := [], kwarg := none, defaults := [] }
def defBody (s : Stmt) : List Stmt := match s with
  | .FunctionDef _ _ b _ _ _ _ _ _ _ => b
  | _ => []
def defScope (s : Stmt) : Scope := match s with
  | .FunctionDef _ _ _ _ _ _ sc _ _ _ => sc
  | _ => { kind := .function, names := [], isGenerator := false, isCoroutine := false }

/-! ### no exception leaves a def -/
abbrev CX0 : CXT := fun _ _ _ _ _ _ => False
abbrev E0 : XK := fun _ _ _ => False
theorem pass0 {X : Cx} : Passes CX0 X E0 := fun _ _ _ _ _ _ _ h => h.elim

/-! ### a def (or method) of the text as it stands behind the top -/
structure Fun (K : PySem.W.Frag) (x qual : Str) (st : Stmt) (f : Addr) (fd : FuncData) : Prop where
  ex : ∃ (oc : Value) (od : Option Addr) (kV doc pm : Value) (an : Option Addr) (cdv ct : Value) (osl : Array (Option Value)),
    fd = PySem.W.fnOf x qual (defArgs st) (defBody st) (defScope st) .none kV doc pm an cdv ct ∧ K.lookup f = some ⟨oc, od, .func fd, osl⟩ ∧ PySem.W.codeIn K cdv qual = true
  kp : PySem.W.keepIn K (.ref f) = true
section
variable {P : Program} {w : World} {K : PySem.W.Frag} {mg : Str → Option Value} {base : Heap}
/-- THE RULE for a def: its body as a term of rules, and the reading of that term -/
theorem Fun.ok {x qual : Str} {st : Stmt} {f : Addr} {fd : FuncData} {N ps : List Str} {k : Nat} {sp : Sp} (F : Fun K x qual st f fd) (S : FnScope N ps (defScope st)) (len : ∀ vs H Q E, sp vs H Q E → vs.length = ps.length)
    (hbody : ∀ (cdv : Value) (A : Around) (outer : List Env) (s : Shared) (H : Hp) (vs : List V) (Q : VK) (E : XK), Room k (A.deeper (envOfC qual (defScope st) s.heap.objs.size f cdv)) → sp vs H Q E →
      ∃ t, PSs (cxOf CX0 P w K mg base N qual (defScope st) f cdv A outer s H E).nox (defBody st) t ∧ t { nx := fun _ H' => Q .non H', rt := Q } (start N vs) H) : FnOk P w K mg base CX0 (k + 1) f fd ps sp := by
  obtain ⟨oc, od, kV, doc, pm, an, cdv, ct, osl, rfl, lk, hcd⟩ := F.ex
  refine fn_of lk hcd S len fun A outer s H vs Q E hr hsp => ?_
  obtain ⟨t, h, q⟩ := hbody cdv A outer s H vs Q E hr hsp
  exact ⟨t, h.nox, q⟩
/-- how its arguments bind (no defaults): h is «fun _ _ _ _ _ _ us hl => match us, hl with | [_, _], _ => rfl», one _ a parameter -/
theorem Fun.binds {x qual : Str} {st : Stmt} {f : Addr} {fd : FuncData} {ps : List Str} (F : Fun K x qual st f fd)
    (h : ∀ (kV doc pm : Value) (an : Option Addr) (cdv ct : Value) (us : List Value), us.length = ps.length → bindArgs (PySem.W.fnOf x qual (defArgs st) (defBody st) (defScope st) .none kV doc pm an cdv ct) ⟨us, []⟩ = pure (ps.zip us)) : Binds K fd ps [] := by
  obtain ⟨oc, od, kV, doc, pm, an, cdv, ct, osl, rfl, lk, hcd⟩ := F.ex
  exact .all (h kV doc pm an cdv ct)
theorem fun_mk {x qual : Str} {st : Stmt} {f : Addr} {oc : Value} {od an : Option Addr} {osl : Array (Option Value)} {kV doc pm cdv ct : Value} (l : K.lookup f = some ⟨oc, od, .func (PySem.W.fnOf x qual (defArgs st) (defBody st) (defScope st) .none kV doc pm an cdv ct), osl⟩)
    (c : PySem.W.codeIn K cdv qual = true) (k : PySem.W.keepIn K (.ref f) = true) : Fun K x qual st f (PySem.W.fnOf x qual (defArgs st) (defBody st) (defScope st) .none kV doc pm an cdv ct) := ⟨⟨oc, od, kV, doc, pm, an, cdv, ct, osl, rfl, l, c⟩, k⟩
end

/-! ### expressions in short: the name that stands in the i-th slot -/
section
variable {X : Cx}
theorem pv (i : Nat) {x : Str} {pos : Pos} (hN : X.N[i]? = some x := by rfl) (hv : Vis X.env.scope x := by first | exact Or.inl rfl | exact Or.inr (Or.inl rfl) | exact Or.inr (Or.inr rfl)) (hd : (x == ("__debug__" : Str)) = false := by decide)
    (hcd : (x == ("__classdict__" : Str)) = false := by decide) : PE X (.Name x pos) (tVar i) := pe_var hN hv hd hcd
end

/-! ### tests -/
theorem iteF {A B : Prop} (h : B) : if false = true then A else B := by
  rw [if_neg Bool.false_ne_true]
  exact h
theorem iteT {A B : Prop} (h : A) : if true = true then A else B := by
  rw [if_pos rfl]
  exact h
theorem ite2 {c A B : Prop} [Decidable c] (h1 : c → A) (h2 : ¬ c → B) : if c then A else B := by
  by_cases h : c
  · rw [if_pos h]
    exact h1 h
  · rw [if_neg h]
    exact h2 h

/-! ### heaps -/
/-- all that was tracked is as it was -/
def Same (H H' : Hp) : Prop := ∀ b o, H b = some o → H' b = some o
theorem Same.refl (H : Hp) : Same H H := fun _ _ h => h
theorem Same.trans {H H1 H2 : Hp} (a : Same H H1) (b : Same H1 H2) : Same H H2 := fun c o h => b c o (a c o h)
theorem Same.free {H H' : Hp} (e : Same H H') {l : Addr} (h : H' l = Option.none) : H l = Option.none := by
  cases q : H l with
  | none => rfl
  | some o =>
    rw [e l o q] at h
    cases h
theorem Same.seq {K : PySem.W.Frag} {H H' : Hp} {a : Addr} {xs : List V} (e : Same H H') (h : SqL K H a xs) : SqL K H' a xs := by
  rcases h with (h | ⟨o, h⟩) | h
  · exact .inl (.inl (e _ _ h))
  · exact .inl (.inr ⟨o, e _ _ h⟩)
  · exact .inr h

end L2

set_option Elab.async false
set_option linter.all false
set_option maxRecDepth 100000
/-! A comprehension of lists, one clause, any target, at most one test: by the hand layer's judgements. -/
namespace L2
open PySem PySem.Spec PyProof.Rows

/-! ### the closure -/
def clOf (cells : List (Str × Addr)) : List (Str × NameKind) → List (Str × Addr) → List (Str × Addr)
  | [], acc => acc
  | (n, k) :: r, acc => clOf cells r (if k = .free then (n, (cells.lookup n).getD 0) :: acc else acc)
theorem clos_loop {env : Env} : ∀ (l : List (Str × NameKind)) (acc : List (Str × Addr)), (∀ p ∈ l, p.2 = NameKind.free → (env.cells.lookup p.1).isSome = true) →
    (forIn l acc fun (x : Str × NameKind) (r : List (Str × Addr)) => (if (x.2 == NameKind.free) = true then do let a ← cellOf env x.1; pure (ForInStep.yield ((x.1, a) :: r)) else pure (ForInStep.yield r) : Sem (ForInStep (List (Str × Addr))))) = pure (clOf env.cells l acc)
  | [], acc, _ => rfl
  | (n, k) :: r, acc, h => by
    rw [List.forIn_cons]
    have ih := fun a => clos_loop (env := env) r a fun p hp => h p (List.mem_cons_of_mem _ hp)
    by_cases hk : k = .free
    · subst hk
      have hs := h (n, .free) List.mem_cons_self rfl
      obtain ⟨c, hc⟩ := Option.isSome_iff_exists.mp hs
      have e1 : cellOf env n = pure c := by unfold cellOf; rw [show env.cells.lookup n = some c from hc]
      have e2 : clOf env.cells ((n, .free) :: r) acc = clOf env.cells r ((n, c) :: acc) := by
        show clOf env.cells r (if NameKind.free = NameKind.free then (n, (env.cells.lookup n).getD 0) :: acc else acc) = _
        rw [if_pos rfl, show env.cells.lookup n = some c from hc]
        rfl
      rw [e2]
      simp only [beq_self_eq_true, if_true, e1, pure_bind]
      exact ih _
    · have hb : (k == NameKind.free) = false := by simpa using hk
      have e2 : clOf env.cells ((n, k) :: r) acc = clOf env.cells r acc := by
        show clOf env.cells r (if k = NameKind.free then _ else acc) = _
        rw [if_neg hk]
      rw [e2]
      simp only [hb, Bool.false_eq_true, if_false, pure_bind]
      exact ih _
theorem clos_eq {scope : Scope} {env : Env} (h : ∀ p ∈ scope.names, p.2 = NameKind.free → (env.cells.lookup p.1).isSome = true) : closureFor scope env = pure (clOf env.cells scope.names []) := by
  have e := clos_loop (env := env) scope.names [] h
  unfold closureFor
  simp only [bind_pure]
  exact e
theorem clOf_sub {cells : List (Str × Addr)} {x : Str} {c : Addr} : ∀ (l : List (Str × NameKind)) (acc : List (Str × Addr)), (∀ p ∈ l, p.2 = NameKind.free → (cells.lookup p.1).isSome = true) → (clOf cells l acc).lookup x = some c →
    acc.lookup x = some c ∨ cells.lookup x = some c
  | [], _, _, h => .inl h
  | (n, k) :: r, acc, hf, h => by
    have h' : (clOf cells r (if k = .free then (n, (cells.lookup n).getD 0) :: acc else acc)).lookup x = some c := h
    rcases clOf_sub r _ (fun p hp => hf p (List.mem_cons_of_mem _ hp)) h' with e | e
    · by_cases hk : k = .free
      · rw [if_pos hk] at e
        obtain ⟨d, hd⟩ := Option.isSome_iff_exists.mp (hf (n, k) List.mem_cons_self hk)
        rw [show cells.lookup n = some d from hd] at e
        rw [List.lookup_cons] at e
        cases hx : x == n with
        | true =>
          rw [hx] at e
          have : x = n := by simpa using hx
          subst this
          exact .inr (hd.trans (by simpa using e))
        | false =>
          rw [hx] at e
          exact .inl e
      · rw [if_neg hk] at e
        exact .inl e
    · exact .inr e
theorem clOf_has {cells : List (Str × Addr)} {x : Str} : ∀ (l : List (Str × NameKind)) (acc : List (Str × Addr)), ((∃ k, (x, k) ∈ l ∧ k = NameKind.free) ∨ (∃ c, acc.lookup x = some c)) → ∃ c, (clOf cells l acc).lookup x = some c
  | [], _, h => by
    rcases h with ⟨k, hk, _⟩ | h
    · exact absurd hk (by simp)
    · exact h
  | (n, k) :: r, acc, h => by
    show ∃ c, (clOf cells r (if k = .free then (n, (cells.lookup n).getD 0) :: acc else acc)).lookup x = some c
    refine clOf_has r _ ?_
    rcases h with ⟨k', hk, e⟩ | ⟨c, hc⟩
    · rcases List.mem_cons.mp hk with z | z
      · cases z
        refine .inr ?_
        rw [if_pos e]
        exact ⟨_, by rw [List.lookup_cons, beq_self_eq_true]⟩
      · exact .inl ⟨k', z, e⟩
    · refine .inr ?_
      by_cases hk : k = .free
      · rw [if_pos hk, List.lookup_cons]
        cases hx : x == n with
        | true => exact ⟨_, rfl⟩
        | false => exact ⟨c, hc⟩
      · rw [if_neg hk]
        exact ⟨c, hc⟩
theorem relabel_mem {scope : Scope} {env : Env} {x : Str} {k : NameKind} (hc : ∀ p ∈ scope.names, p.2 ≠ NameKind.cell) (h : (relabel scope env).names.lookup x = some k) (hk : k = .cell ∨ k = .free) : ∃ k', (x, k') ∈ scope.names ∧ k' = NameKind.free := by
  have m := PySem.mem_of_lookup h
  obtain ⟨⟨n, k0⟩, hm, e⟩ := List.mem_map.mp m
  dsimp only at e
  split at e
  · rename_i c
    cases e
    have : (k0 == NameKind.free) = true := by
      cases q : (k0 == NameKind.free) with
      | true => rfl
      | false => rw [q] at c; simp at c
    exact ⟨k0, hm, by simpa using this⟩
  · cases e
    rcases hk with z | z
    · exact absurd z (hc _ hm)
    · exact ⟨_, hm, z⟩

/-! ### the block's context -/
def cxC (X : Cx) (scope : Scope) (Nc : List Str) (C : Addr) (fp : List Addr) (pins : List (Addr × Obj)) (s₂ : Shared) (H₂ : Hp) : Cx where
  prog := X.prog
  w := X.w
  K := X.K
  mg := X.mg
  base := X.base
  A := X.A
  N := Nc
  s₀ := s₂
  H₀ := H₂
  env := compEnvC scope (clOf X.env.cells scope.names []) C X.env
  outer := X.stack
  stack := X.stack
  ex := fp
  fn := fun _ => false
  calm := X.calm
  pn := X.pn ++ pins
  xe := fun _ _ => False
/-- which names of the block stand for which slots of the def -/
def Caps (X : Cx) (env' : Env) : List Str → List (Option Nat) → Prop
  | [], [] => True
  | _ :: N, none :: r => Caps X env' N r
  | x :: N, some i :: r => (X.N[i]? = some x ∧ (X.env.kindOf x = some .cell ∨ X.env.kindOf x = some .free) ∧ env'.cells.lookup x = X.env.cells.lookup x ∧ (env'.kindOf x = some .cell ∨ env'.kindOf x = some .free)) ∧ Caps X env' N r
  | _, _ => False
def capσ (σ : St) (src : List (Option Nat)) : St := src.map fun o => match o with | none => none | some i => (σ[i]?).join
theorem Caps.len {X : Cx} {env' : Env} : ∀ {N : List Str} {src : List (Option Nat)}, Caps X env' N src → src.length = N.length
  | [], [], _ => rfl
  | [], _ :: _, h => h.elim
  | _ :: _, [], h => h.elim
  | _ :: N, none :: r, h => by
    have h' : Caps X env' N r := h
    have := Caps.len (N := N) (src := r) h'
    simp [this]
  | _ :: N, some _ :: r, h => by
    have := Caps.len (N := N) (src := r) h.2
    simp [this]
theorem Caps.get {X : Cx} {env' : Env} {x : Str} : ∀ {N : List Str} {src : List (Option Nat)} {j i : Nat}, Caps X env' N src → N[j]? = some x → src[j]? = some (some i) →
    X.N[i]? = some x ∧ (X.env.kindOf x = some .cell ∨ X.env.kindOf x = some .free) ∧ env'.cells.lookup x = X.env.cells.lookup x ∧ (env'.kindOf x = some .cell ∨ env'.kindOf x = some .free)
  | [], [], _, _, _, e, _ => by simp at e
  | [], _ :: _, _, _, h, _, _ => h.elim
  | _ :: _, [], _, _, h, _, _ => h.elim
  | _ :: _, none :: _, 0, _, _, _, e => by simp at e
  | _ :: N, none :: r, j + 1, _, h, e1, e2 => by
    have h' : Caps X env' N r := h
    exact Caps.get (N := N) (src := r) (j := j) h' (by simpa using e1) (by simpa using e2)
  | _ :: _, some _ :: _, 0, _, h, e1, e2 => by
    simp at e1 e2
    subst e1 e2
    exact h.1
  | _ :: _, some _ :: _, j + 1, _, h, e1, e2 => Caps.get (j := j) h.2 (by simpa using e1) (by simpa using e2)

/-- what a block's scope must be (checked by computing) -/
structure CScope (X : Cx) (scope : Scope) : Prop where
  kind : scope.kind = .function
  cell : scope.names.all (fun p => p.2 != .cell) = true
  names : scope.names.all (fun p => p.2 != .local || scope.names.lookup p.1 == some .local) = true
  free : scope.names.all (fun p => p.2 != .free || (X.env.cells.lookup p.1).isSome) = true
section
variable {X : Cx} {scope : Scope}
theorem CScope.hcell (S : CScope X scope) : ∀ p ∈ scope.names, p.2 ≠ NameKind.cell := fun p hp => by
  have := List.all_eq_true.mp S.cell p hp
  simpa using this
theorem CScope.hnames (S : CScope X scope) : ∀ p ∈ scope.names, p.2 = .local → scope.names.lookup p.1 = some .local := fun p hp e => by
  have := List.all_eq_true.mp S.names p hp
  simpa [e] using this
theorem CScope.hfree (S : CScope X scope) : ∀ p ∈ scope.names, p.2 = NameKind.free → (X.env.cells.lookup p.1).isSome = true := fun p hp e => by
  have := List.all_eq_true.mp S.free p hp
  simpa [e] using this
end

/-- several tests (none or one) -/
def PTs (X : Cx) (ifs : List Expr) (t : TT) : Prop :=
  ∀ (pins : List (Addr × Obj)) (s : Shared) (σ : St) (H : Hp) (Q : Bool → Hp → Prop), Inv X pins σ H s → t σ H Q →
    wpAny (model X.prog X.w) X.A (forIn ifs true fun c r => if r = true then do let ok ← isTrue c X.env (eval c X.env); pure (ForInStep.yield ok) else pure (ForInStep.yield r)) (TP X pins σ Q) X.xe s
def tYes : TT := fun _ H Q => Q true H
theorem pts_nil {X : Cx} : PTs X [] tYes := fun _ _ _ H _ I h => wpAny_tests_nil ⟨H, I, h⟩

/-- the loop of a comprehension, with the step that lets an owned tuple go -/
theorem compLoop_any {prog : Program} {w : World} {A : Around} {R : Result → Shared → Prop} {s : Shared} {elt target iter : Expr} {ifs : List Expr} {scope : Scope} {pos : Pos} {it acc : Value} {env : Env} (I : Nat → Shared → Prop)
    (turn : ∀ n s, I n s → wpAny (model prog w) A (pyNext it) (fun r s₁ => match r with
      | none => R (.ok .next) s₁
      | some v => wpAny (model prog w) A (letOwnedTupleGo target it v) (fun _ s₁' => wpAny (model prog w) A (assign target env v) (fun _ s₂ =>
          wpAny (model prog w) A (forIn ifs true fun c r => if r = true then do let ok ← isTrue c env (eval c env); pure (ForInStep.yield ok) else pure (ForInStep.yield r)) (fun ok s₃ =>
            if ok = true then wpAny (model prog w) A (eval elt env) (fun x s₄ =>
              wpAny (model prog w) A (call (.builtin "list.append") [acc, x]) (fun _ s₅ => ∃ m, m < n ∧ I m s₅) (fun _ _ => False) s₄) (fun _ _ => False) s₃
            else ∃ m, m < n ∧ I m s₃) (fun _ _ => False) s₂) (fun _ _ => False) s₁') (fun _ _ => False) s₁) (fun _ _ => False) s)
    (n : Nat) (h : I n s) :
    codeAny (model prog w) A (.compLoop (.ListComp elt [⟨target, iter, ifs, 0⟩] scope pos) 0 it acc env) R s := by
  refine codeAny_loop rfl I (fun n s hI => ?_) n h
  show wpAny _ A ((compTurn (.ListComp elt [⟨target, iter, ifs, 0⟩] scope pos) 0 it acc env).onRaise (fun x => do noteFrame x env; theTreesLotGoes x)) _ _ s
  refine wpAny_noted ?_
  rw [compTurn_list]
  refine wpAny_bind (wpAny_standAt (wpAny_bind (wpAny_mono (turn n s hI) (fun r s₁ h₁ => ?_) fun _ _ h' => h'.elim)))
  cases r with
  | none => exact wpAny_pure h₁
  | some v =>
    refine wpAny_bind (wpAny_mono h₁ (fun _ s₁' h₁' => ?_) fun _ _ h' => h'.elim)
    refine wpAny_bind (wpAny_mono h₁' (fun _ s₂ h₂ => wpAny_bind (wpAny_mono h₂ (fun ok s₃ h₃ => ?_) fun _ _ h' => h'.elim)) fun _ _ h' => h'.elim)
    cases ok with
    | false => exact wpAny_pure ⟨rfl, h₃⟩
    | true =>
      exact wpAny_bind (wpAny_bind (wpAny_mono h₃ (fun x s₄ h₄ => wpAny_bind (wpAny_mono h₄ (fun _ s₅ h₅ => wpAny_pure (wpAny_pure ⟨rfl, h₅⟩)) fun _ _ h' => h'.elim)) fun _ _ h' => h'.elim))

/-! ### the loop -/
/-- W: the invariant by the turn, a measure, what is collected, the block's names, the heap -/
def CompW (J : It) (g : TG) (tt : TT) (te : TE) (Fin : List V → Hp → Prop) (σ0 : St) (H0 : Hp) : Prop :=
  ∃ W : Nat → Nat → List V → St → Hp → Prop, (∃ m, W 0 m [] σ0 H0) ∧ ∀ i m ys σ H, W i m ys σ H → ys.length < sizeLine ∧
    ((J.stop i H ∧ Fin ys H) ∨ (J.go i H ∧ ∀ x H', J.yld i H x H' → g x σ H' fun σ2 H2 => tt σ2 H2 fun b H3 =>
      if b = true then te σ2 H3 fun y H4 => ∃ m', m' < m ∧ W (i + 1) m' (ys ++ [y]) σ2 H4 else ∃ m', m' < m ∧ W (i + 1) m' ys σ2 H3))

theorem comp_core {X : Cx} {tg iter elt : Expr} {ifs : List Expr} {scope : Scope} {pos : Pos} {Nc : List Str} {src : List (Option Nat)} {g : TG} {tt : TT} {te : TE} (hc : X.calm = true) (S : CScope X scope)
    (hcaps : ∀ C, Caps X (compEnvC scope (clOf X.env.cells scope.names []) C X.env) Nc src)
    (hb : ∀ C fp pins s₂ H₂, PG (cxC X scope Nc C fp pins s₂ H₂) tg g ∧ PTs (cxC X scope Nc C fp pins s₂ H₂) ifs tt ∧ PE (cxC X scope Nc C fp pins s₂ H₂) elt te)
    {pins : List (Addr × Obj)} {s₂ : Shared} {σ : St} {H₂ : Hp} {it : Addr} {fp : List Addr} {tn : Nat → Heap → Prop} {J : It} (I₂ : Inv X pins σ H₂ s₂) (T : Turn X.prog X.w X.K tg J fp it tn) (st : tn 0 s₂.heap) (hf : ∀ b ∈ fp, FpOk X pins H₂ b)
    {Fin : List V → Hp → Prop} (hW : CompW J g tt te Fin (capσ σ src) H₂) {RR : Value → Addr → Result → Shared → Prop} {E : Value → Shared → Prop}
    (hRR : ∀ D C s' ys H' m, Fin ys H' → H' D = none → Inv X pins σ (upd H' D (.lst ys)) s' → s'.heap.Ns C m → FpOk X pins (upd H' D (.lst ys)) C → RR (.ref D) C (.ok .next) s') :
    wpAny (model X.prog X.w) X.A (newList []) (fun acc s₃ => wpAny (model X.prog X.w) X.A (newFunctionEnv scope X.env.globals (clOf X.env.cells scope.names []) [] X.env.qual none .none (some X.env)) (fun cenv s₄ =>
      codeAny (model X.prog X.w) X.A (.compStart (.ListComp elt [⟨tg, iter, ifs, 0⟩] scope pos) 0 (.ref it) acc { cenv with scope := relabel scope X.env }) (RR acc cenv.locals) s₄) E s₃) E s₂ := by
  refine wpAny_newObj_type (wpAny_newFunctionEnv S.hcell (by intro y hy; simp at hy) (fun h₁ hns₁ hsb₁ => ?_) S.kind)
  dsimp only at hns₁ hsb₁ ⊢
  generalize hH2 : s₂.heap.push { cls := .type "list", dict := none, data := .seq ([] : List Value).toArray } = HH at hns₁ hsb₁ ⊢
  generalize hDD : s₂.heap.objs.size = D at hns₁ hsb₁ ⊢
  have hC : HH.objs.size = D + 1 := by rw [← hH2, Heap.size_push, hDD]
  generalize hCC : HH.objs.size = C at hns₁ hsb₁ hC ⊢
  have hDC : D ≠ C := by omega
  have below : ∀ b, b < s₂.heap.objs.size → b ≠ C ∧ b ≠ D := fun b hb => by rw [hDD] at hb; exact ⟨by rw [hC]; exact Nat.ne_of_lt (Nat.lt_succ_of_lt hb), Nat.ne_of_lt hb⟩
  have belowO : ∀ {b o}, s₂.heap.get? b = some o → b ≠ C ∧ b ≠ D := fun {b o} e => below b (Heap.lt_size e)
  have old : ∀ b o, s₂.heap.get? b = some o → h₁.get? b = some o := fun b o e => hsb₁.extBut b o (belowO e).1 (Heap.get?_push_of_some _ (hH2 ▸ Heap.get?_push_of_some _ e))
  have hacc : h₁.get? D = some { cls := .type "list", data := .seq ([] : List Value).toArray } := hsb₁.extBut _ _ hDC (Heap.get?_push_of_some _ (hH2 ▸ hDD ▸ Heap.get?_push_size _ rfl))
  have fpO : ∀ b ∈ fp, ∃ o, s₂.heap.get? b = some o := fun b hb => let ⟨o, e, _⟩ := T.obj _ _ st b hb; ⟨o, e⟩
  have fpC : ∀ b ∈ fp, b ≠ C ∧ b ≠ D := fun b hb => let ⟨o, e⟩ := fpO b hb; belowO e
  have sub : ∀ {x c}, (clOf X.env.cells scope.names []).lookup x = some c → X.env.cells.lookup x = some c := fun {x c} e => by
    rcases clOf_sub scope.names [] S.hfree e with z | z
    · simp at z
    · exact z
  have ltD : ∀ {b o}, s₂.heap.get? b = some o → b < D := fun {b o} e => by rw [← hDD]; exact Heap.lt_size e
  have fresh : ∀ a, D ≤ a → H₂ a = none := fun a ha => I₂.hok.fresh (by rw [hDD]; exact ha)
  have cellO : ∀ {x c}, X.env.cells.lookup x = some c → ∃ o, s₂.heap.get? c = some o := fun {x c} e => let ⟨v, o, ho, _⟩ := I₂.cell x c e; ⟨o, ho⟩
  have stkC : ∀ b ∈ frs X.stack, ∃ o, s₂.heap.get? b = some o := fun b hb => by
    rcases List.mem_cons.mp (I₂.stkSub b hb) with e | hb
    · rw [e]
      obtain ⟨m, ⟨o, _, _, ho, _⟩, _⟩ := I₂.loc
      exact ⟨o, ho⟩
    · obtain ⟨_, o, ho, _⟩ := I₂.funs.mem hb
      exact ⟨o, ho⟩
  have nstk : ∀ a, D ≤ a → a ∉ frs X.stack := fun a ha hb => by
    obtain ⟨o, e⟩ := stkC a hb
    exact absurd (Nat.lt_of_lt_of_le (ltD e) ha) (Nat.lt_irrefl _)
  have fpS : ∀ b ∈ fp, b ∉ frs X.stack := fun b hb z => by
    obtain ⟨_, f1, f2, _⟩ := hf b hb
    rcases List.mem_cons.mp (I₂.stkSub b z) with e | e
    · exact f1 e
    · exact f2 e
  -- the block's context
  generalize hX' : cxC X scope Nc C fp pins s₂ H₂ = X'
  obtain ⟨hg, ht, he⟩ := hb C fp pins s₂ H₂
  rw [hX'] at hg ht he
  have ok' : X'.Ok := by
    subst hX'
    refine ⟨I₂.ok.mod, S.kind, I₂.ok.glob, I₂.ok.blt, ?_, ?_, ?_, ?_, I₂.ok.hd, I₂.ok.frames, .inl rfl, ?_, I₂.bs, Nat.le_trans I₂.ok.bsz I₂.sz, ?_, fpS, I₂.stack, I₂.stkFree⟩
    · show s₂.heap.objs.size ≤ C
      omega
    · exact fun x y c e1 e2 => I₂.ok.inj x y c (sub e1) (sub e2)
    · intro x hx
      have hx : (relabel scope X.env).names.lookup x = some .cell ∨ (relabel scope X.env).names.lookup x = some .free := hx
      have : ∃ k', (x, k') ∈ scope.names ∧ k' = NameKind.free := by
        rcases hx with z | z
        · exact relabel_mem S.hcell z (.inl rfl)
        · exact relabel_mem S.hcell z (.inr rfl)
      exact clOf_has scope.names [] (.inl this)
    · intro x c z
      exact absurd z (by show ¬ (false = true); simp)
    · intro b hb
      exact ⟨(fpC b hb).1, fun x c e => (hf b hb).2.2.2.2.1 x c (sub e)⟩
    · intro b o e hb
      obtain ⟨_, _, _, f3, _⟩ := hf b hb
      rcases f3 with z | z
      · exact I₂.ok.noex b o e z
      · exact absurd (Nat.lt_of_lt_of_le (Heap.lt_size (I₂.ok.bs b o e).1) z) (Nat.lt_irrefl _)
  have eP : X'.prog = X.prog := by subst hX'; rfl
  have ew : X'.w = X.w := by subst hX'; rfl
  have eK : X'.K = X.K := by subst hX'; rfl
  have eA : X'.A = X.A := by subst hX'; rfl
  have eE : X'.xe = fun _ _ => False := by subst hX'; rfl
  have eL : X'.env.locals = C := by subst hX'; rfl
  have eN : X'.env = compEnvC scope (clOf X.env.cells scope.names []) C X.env := by subst hX'; rfl
  have ec : X'.calm = true := by subst hX'; exact hc
  have eS : X'.s₀ = s₂ := by subst hX'; rfl
  have eH : X'.H₀ = H₂ := by subst hX'; rfl
  have ef : X'.fs = frs X.stack := by subst hX'; rfl
  have ex : X'.ex = fp := by subst hX'; rfl
  have ep : X'.pn = X.pn ++ pins := by subst hX'; rfl
  have I0 : Inv X' [] (capσ σ src) H₂ { s₂ with heap := h₁, toks := s₂.toks + ([] : List (Str × Value)).length } := by
    refine ⟨ok', by rw [eS], I₂.bare, by rw [eS, eH]; exact Un.kept old, ⟨_, by rw [eL]; exact hns₁, ?_⟩, ?_, by rw [eL]; exact fresh _ (by omega), ?_, ?_, by rw [eP, ew]; exact I₂.hok.kept old, ?_⟩
    · intro j x v e1 e2 e3
      have e1 : Nc[j]? = some x := by subst hX'; exact e1
      have e4 : ∃ i, src[j]? = some (some i) ∧ (σ[i]?).join = some v := by
        unfold capσ at e2
        rw [List.getElem?_map] at e2
        cases q : src[j]? with
        | none => rw [q] at e2; cases e2
        | some o =>
          rw [q] at e2
          cases o with
          | none => simp at e2
          | some i => exact ⟨i, rfl, by simpa using e2⟩
      obtain ⟨i, e5, e6⟩ := e4
      obtain ⟨c1, c2, c3, c4⟩ := (hcaps C).get e1 e5
      have e7 : σ[i]? = some (some v) := by
        cases q : σ[i]? with
        | none => rw [q] at e6; simp at e6
        | some o => rw [q] at e6; simp at e6; rw [e6]
      obtain ⟨m, _, hl⟩ := I₂.loc
      obtain ⟨u, r, l⟩ := hl i x v c1 e7 (.inr (by rcases c2 with z | z; exact .inl z; exact .inr z))
      refine ⟨u, r, ?_⟩
      rcases l with ⟨k, _⟩ | ⟨_, c, e, z⟩
      · rcases c2 with c2 | c2 <;> (rw [k] at c2; cases c2)
      · refine .inr ⟨by rw [eN]; exact c4, c, by rw [eN]; exact c3.trans e, ?_⟩
        obtain ⟨o, ho, hd⟩ := z
        exact ⟨o, old c o ho, hd⟩
    · intro x c e
      rw [eN] at e
      obtain ⟨v, o, ho, hd⟩ := I₂.cell x c (sub e)
      exact ⟨v, o, old c o ho, hd⟩
    · intro x c e
      rw [eN] at e
      exact I₂.freeC x c (sub e)
    · intro p hp
      rw [ep, List.append_nil] at hp
      obtain ⟨e, n, ne, nf, d⟩ := I₂.pin p hp
      refine ⟨old _ _ e, n, by rw [eL]; exact (belowO e).1, ?_, d⟩
      rw [ef]
      intro z
      rcases List.mem_cons.mp (I₂.stkSub _ z) with q | q
      · exact ne q
      · exact nf q
    · have := (hcaps C).len
      subst hX'
      show (capσ σ src).length = Nc.length
      unfold capσ
      rw [List.length_map, this]
  -- the iterator's objects, the collected list
  have pnD : ∀ p ∈ X'.pn, p.1 ≠ D := fun p hp => by
    rw [ep] at hp
    exact (belowO (I₂.pin p hp).1).2
  have cellD : ∀ x c, X'.env.cells.lookup x = some c → c ≠ D := fun x c e => by
    rw [eN] at e
    obtain ⟨o, ho⟩ := cellO (sub e)
    exact (belowO ho).2
  have fpk : ∀ {P : List (Addr × Obj)} {H : Hp}, (∀ p ∈ P, p.1 = D) → (∀ b ∈ fp, H b = none) → ∀ b ∈ fp, FpOk X' P H b := fun {P H} hP hn b hb => by
    refine ⟨hn b hb, by rw [eL]; exact (fpC b hb).1, by rw [ef]; exact fpS b hb, .inl (by rw [ex]; exact hb), fun x c e => ?_, fun p hp => ?_⟩
    · rw [eN] at e
      exact (hf b hb).2.2.2.2.1 x c (sub e)
    · rcases List.mem_append.mp hp with z | z
      · rw [ep] at z
        exact (hf b hb).2.2.2.2.2 p z
      · rw [hP p z]
        exact (fpC b hb).2.symm
  obtain ⟨W, ⟨m0, w0⟩, step⟩ := hW
  have loop : ∀ s₃ : Shared, s₃ = { s₂ with heap := h₁, toks := s₂.toks + ([] : List (Str × Value)).length } →
      codeAny (model X.prog X.w) X.A (.compLoop (.ListComp elt [⟨tg, iter, ifs, 0⟩] scope pos) 0 (.ref it) (.ref D) (compEnvC scope (clOf X.env.cells scope.names []) C X.env)) (RR (.ref D) C) s₃ := by
    rintro s₃ rfl
    refine compLoop_any (fun n s' => ∃ i ys us k σ' H', Inv X' [] σ' H' s' ∧ tn i s'.heap ∧ (∀ b ∈ fp, H' b = none) ∧ H' D = none ∧ s'.heap.get? D = some { cls := .type "list", data := .seq (List.toArray us) k } ∧ Vals ys us ∧ W i n ys σ' H') ?_ m0
      ⟨0, [], [], _, _, _, I0, T.keep _ _ _ st fun b _ o e => old b o e, fun b hb => (hf b hb).1, fresh _ (Nat.le_refl _), hacc, .nil, w0⟩
    rintro n s3 ⟨i, ys, us, k, σ3, H3, I3, st3, fr3, nD3, oD3, rv3, w3⟩
    obtain ⟨hsz, cases3⟩ := step i n ys σ3 H3 w3
    have I3' : Inv X' [(D, { cls := .type "list", data := .seq us.toArray k })] σ3 H3 s3 := I3.pins_of fun p hp => by
      rw [List.mem_singleton.mp hp]
      exact ⟨oD3, nD3, by rw [eL]; exact hDC, by rw [ef]; exact nstk _ (Nat.le_refl _), fun v z => by cases z⟩
    have oneD : ∀ p ∈ [(D, ({ cls := .type "list", data := .seq us.toArray k } : Obj))], p.1 = D := fun p hp => by rw [List.mem_singleton.mp hp]
    rcases cases3 with ⟨stop, fin⟩ | ⟨go, turn⟩
    · -- the end
      have hd := T.done X' eP ew eK ec i _ s3 σ3 H3 (fun _ _ => False) I3' (fpk oneD fr3) st3 stop
      rw [eA] at hd
      refine thn hd fun r s4 ⟨hr, I4⟩ => ?_
      subst hr
      have pD := I4.pin (D, { cls := .type "list", data := .seq us.toArray k }) (List.mem_append_right _ (List.mem_singleton.mpr rfl))
      obtain ⟨mC, hnC, _⟩ := I4.loc
      rw [eL] at hnC
      have un4 := I4.base
      rw [eS, eH, ef, ex] at un4
      have hlen : ys.length ≤ sizeLine := Nat.le_of_lt hsz
      have hok4 : HOk X.prog X.w (upd H3 D (.lst ys)) s4.heap := fun b u e => by
        by_cases hb : b = D
        · subst hb
          rw [upd_same] at e
          cases e
          exact ⟨hlen, us, k, rv3, pD.1⟩
        · rw [upd_ne hb] at e
          have z := I4.hok b u e
          rw [eP, ew] at z
          exact z.stay (fun c v _ q => q) (fun c q => by rw [upd_ne (ne_of_none q nD3)]; exact q) fun c xs q => by rw [upd_ne (ne_of_none q nD3)]; exact q
      have un : Un (frs X.stack) fp H₂ (upd H3 D (.lst ys)) s₂.heap s4.heap := ⟨un4.keep, un4.slot, fun b o e n hx => by rw [upd_ne (belowO e).2]; exact un4.free b o e n hx, un4.there,
        fun b xs e => by
          have z := un4.tups b xs e
          rw [upd_ne (ne_of_none z nD3)]; exact z,
        fun b o u e => by
          have z := un4.frzs b o u e
          rw [upd_ne (ne_of_none z nD3)]; exact z,
        fun b ps e => by
          obtain ⟨mo, z⟩ := un4.tbls b ps e
          exact ⟨mo, by rw [upd_ne (ne_of_none z nD3)]; exact z⟩⟩
      have J4 : Inv X pins σ (upd H3 D (.lst ys)) s4 := I₂.call' (ch := fp) (by have := I4.os; rw [eS] at this; exact this) un hok4 I4.bare fun b hb => by
        obtain ⟨_, f1, f2, f3, f4, f5⟩ := hf b hb
        exact ⟨f3, f1, f4, f5⟩
      refine hRR D C s4 ys H3 mC fin nD3 J4 hnC ⟨?_, ?_, ?_, .inr ?_, ?_, ?_⟩
      · rw [upd_ne hDC.symm]
        have := I4.free
        rw [eL] at this
        exact this
      · have := I₂.lt
        rw [hDD] at this
        exact Nat.ne_of_gt (Nat.lt_of_lt_of_le this (by rw [hC]; exact Nat.le_succ _))
      · intro z
        obtain ⟨_, o, ho, _⟩ := I₂.funs.mem z
        exact (belowO ho).1 rfl
      · have := I₂.sz
        rw [hDD] at this
        omega
      · intro x c e z
        obtain ⟨o, ho⟩ := cellO e
        exact (belowO ho).1 z
      · intro p hp z
        exact (belowO (I₂.pin p hp).1).1 z
    · -- a turn
      have hd := T.item X' eP ew eK ec i _ s3 σ3 H3 (fun _ _ => False) I3' (fpk oneD fr3) st3 go
      rw [eA] at hd
      refine thn hd fun r s4 ⟨u, hr, h4⟩ => ?_
      subst hr
      refine thn h4 fun _ s5 ⟨x, H5, I5, r5, y5, st5, fr5⟩ => ?_
      have I5' := I5.pinned (fpk oneD fr5) (T.obj _ _ st5)
      have hg' := hg _ s5 σ3 H5 x u _ I5' r5 (turn x H5 y5)
      rw [eP, ew, eA, eE, eN] at hg'
      refine thn hg' fun _ s6 ⟨σ6, H6, I6, q6⟩ => ?_
      have ht' := ht _ s6 σ6 H6 _ I6 q6
      rw [eP, ew, eA, eE, eN] at ht'
      refine thn ht' fun okb s7 ⟨H7, I7, q7⟩ => ?_
      have back : ∀ {H8 : Hp} {s8 : Shared}, Inv X' ([(D, ({ cls := .type "list", data := .seq us.toArray k } : Obj))] ++ pinsAt fp s5.heap) σ6 H8 s8 →
          Inv X' [] σ6 H8 s8 ∧ tn (i + 1) s8.heap ∧ (∀ b ∈ fp, H8 b = none) ∧ H8 D = none ∧ s8.heap.get? D = some { cls := .type "list", data := .seq us.toArray k } ∧ (∀ b ∈ fp, ∀ o, s5.heap.get? b = some o → s8.heap.get? b = some o) := fun {H8 s8} I8 => by
        have pD := I8.pin (D, { cls := .type "list", data := .seq us.toArray k }) (List.mem_append_right _ (List.mem_append_left _ (List.mem_singleton.mpr rfl)))
        have pf : ∀ b ∈ fp, ∀ o, s5.heap.get? b = some o → s8.heap.get? b = some o := fun b hb o e => (I8.pin (b, o) (List.mem_append_right _ (List.mem_append_right _ (mem_pinsAt hb e)))).1
        refine ⟨I8.pins_of fun p hp => absurd hp (by simp), T.keep _ _ _ st5 pf, fun b hb => ?_, pD.2.1, pD.1, pf⟩
        obtain ⟨o, e, d⟩ := T.obj _ _ st5 b hb
        exact (I8.pin (b, o) (List.mem_append_right _ (List.mem_append_right _ (mem_pinsAt hb e)))).2.1
      cases okb with
      | false =>
        obtain ⟨b1, b2, b3, b4, b5, _⟩ := back I7
        obtain ⟨m', hm, w7⟩ := q7
        exact ⟨m', hm, i + 1, ys, us, k, σ6, H7, b1, b2, b3, b4, b5, rv3, w7⟩
      | true =>
        have he' := he _ s7 σ6 H7 _ I7 q7
        rw [eP, ew, eA, eE, eN] at he'
        show wpAny _ _ (eval elt _) _ _ s7
        refine thn he' fun xv s8 ⟨y, H8, I8, r8, m', hm, w8⟩ => ?_
        obtain ⟨b1, b2, b3, b4, b5, b6⟩ := back I8
        refine append_at (hsz := by rw [List.size_toArray, ← rv3.length]; exact Nat.le_of_lt hsz) b5 fun h9 hs9 hD9 => ?_
        have I9 : Inv X' [] σ6 H8 { s8 with heap := h9 } := b1.turned (t' := s8.toks) (fun b o hb e => hs9.extBut b o hb e) b4 (by rw [eL]; exact hDC) (.inr (by rw [eS, hDD]; exact Nat.le_refl _)) cellD fun p hp => by
          rw [List.append_nil] at hp
          exact pnD p hp
        refine ⟨m', hm, i + 1, ys ++ [y], us ++ [xv], k + 1, σ6, H8, I9, T.keep _ _ _ b2 fun b hb o e => hs9.extBut b o (fpC b hb).2 e, b3, b4, ?_, rv3.append (.cons r8 .nil), w8⟩
        show h9.get? D = _
        rw [hD9, List.push_toArray]
  refine codeAny_compStart_list (loop _ rfl) ?_
  exact T.self _ 0 _ _ _ (T.keep _ _ _ st fun b _ o e => old b o e) (loop _ rfl)

/-! ### the two rules: a comprehension as a value, and straight into a name -/
def tComp (wi : TI) (src : List (Option Nat)) (g : TG) (tt : TT) (te : TE) : TE := fun σ H Q => wi σ H fun J H1 => CompW J g tt te (fun ys H' => ∀ D, H' D = none → Q (.ref D) (upd H' D (.lst ys))) (capσ σ src) H1
section
variable {X : Cx} {tg iter elt : Expr} {ifs : List Expr} {scope : Scope} {pos : Pos} {Nc : List Str} {wi : TI} {g : TG} {tt : TT} {te : TE}
theorem pe_comp (Nc : List Str) (src : List (Option Nat)) (hc : X.calm = true) (hi : PI X tg iter wi)
    (hb : ∀ C fp pins s₂ H₂, PG (cxC X scope Nc C fp pins s₂ H₂) tg g ∧ PTs (cxC X scope Nc C fp pins s₂ H₂) ifs tt ∧ PE (cxC X scope Nc C fp pins s₂ H₂) elt te)
    (hcaps : ∀ C, Caps X (compEnvC scope (clOf X.env.cells scope.names []) C X.env) Nc src) (S : CScope X scope)
    (hs : ∀ x, foldedSetIterable iter X.env x = pure x := by intro _; rfl) : PE X (.ListComp elt [⟨tg, iter, ifs, 0⟩] scope pos) (tComp wi src g tt te) := by
  intro pins s σ H Q I h
  rw [eval_ListComp]
  refine wpAny_comprehension_free (use := none) rfl hs (clos_eq S.hfree) S.kind S.hnames ?_
  refine thn (hi pins s σ H _ I h) fun v s1 h1 => thn h1 fun itv s2 h2 => ?_
  obtain ⟨it, fp, tn, J, H2, e, I2, T, st2, f2, hW⟩ := h2
  subst e
  refine comp_core (RR := fun acc C => compPost (model X.prog X.w) X.A X.xe none (EP X pins σ Q) acc C) hc S hcaps hb I2 T st2 f2 hW ?_
  intro D C s' ys H' m fin nD J' hn fC
  obtain ⟨f0, f1, _, f3, f4, f5⟩ := fC
  refine ⟨m, hn, fun h'' hs'' => ?_⟩
  exact ⟨.ref D, _, J'.turned (t' := s'.toks) (fun b o hb e => hs''.extBut b o hb e) f0 f1 f3 f4 f5, rfl, fin D nD⟩
def tCompS (wi : TI) (src : List (Option Nat)) (g : TG) (tt : TT) (te : TE) (i : Nat) : TS := fun D σ H => tComp wi src g tt te σ H fun v H' => D.nx (σ.set i (some v)) H'
theorem ps_comp {i : Nat} {x : Str} {pos' spos : Pos} (Nc : List Str) (src : List (Option Nat)) (hc : X.calm = true) (hN : X.N.Nodup) (hi' : X.N[i]? = some x) (hx : Loc X.env.scope x) (hi : PI X tg iter wi)
    (hb : ∀ C fp pins s₂ H₂, PG (cxC X scope Nc C fp pins s₂ H₂) tg g ∧ PTs (cxC X scope Nc C fp pins s₂ H₂) ifs tt ∧ PE (cxC X scope Nc C fp pins s₂ H₂) elt te)
    (hcaps : ∀ C, Caps X (compEnvC scope (clOf X.env.cells scope.names []) C X.env) Nc src) (S : CScope X scope)
    (hsw : swapsWith (.ListComp elt [⟨tg, iter, ifs, 0⟩] scope pos) (some (.Name x pos')) spos.line X.env = pure true := by rfl)
    (hf : X.fn x = true ∨ X.env.scope.names.lookup x = some .local := by first | exact .inl rfl | exact .inr rfl | assumption)
    (hs : ∀ x, foldedSetIterable iter X.env x = pure x := by intro _; rfl) : PS X (.Assign [.Name x pos'] (.ListComp elt [⟨tg, iter, ifs, 0⟩] scope pos) spos) (tCompS wi src g tt te i) := by
  intro pins s σ H D I h
  rw [exec_Assign_Name_used _ _ _ _ hsw]
  refine wpAny_bind (wpAny_standAt (wpAny_bind ?_))
  show wpAny _ _ (do let _ ← comprehension (.ListComp elt [⟨tg, iter, ifs, 0⟩] scope pos) scope X.env _ (newList []) false (eval iter X.env) (some (assign (.Name x pos') X.env))) _ _ s
  refine wpAny_bind (thn (wpAny_comprehension_free (use := some (assign (.Name x pos') X.env)) (Q := fun _ s' => ∃ σ' H', Inv X pins σ' H' s' ∧ D.nx σ' H') rfl hs (clos_eq S.hfree) S.kind S.hnames ?_) fun _ s' hq => wpAny_pure (wpAny_pure hq))
  refine thn (hi pins s σ H _ I h) fun v s1 h1 => thn h1 fun itv s2 h2 => ?_
  obtain ⟨it, fp, tn, J, H2, e, I2, T, st2, f2, hW⟩ := h2
  subst e
  refine comp_core (RR := fun acc C => compPost (model X.prog X.w) X.A X.xe (some (assign (.Name x pos') X.env)) (fun _ s' => ∃ σ' H', Inv X pins σ' H' s' ∧ D.nx σ' H') acc C) hc S hcaps hb I2 T st2 f2 hW ?_
  intro A C s' ys H' m fin nD J' hn fC
  obtain ⟨f0, f1, f2', f3, f4, f5⟩ := fC
  refine wpAny_assign_Name (store_ok2 J' hN hi' hx (v := .ref A) rfl (fun s'' J'' hsb => ?_) hf)
  have hn2 : ∃ m', s''.heap.Ns C m' := by
    obtain ⟨a, sb, ha⟩ := hsb
    have hne : C ≠ a := by
      rcases ha with z | z
      · rw [z]; exact f1
      · exact fun q => f4 x a z q.symm
    exact ⟨m, hn.sameBut sb hne⟩
  obtain ⟨m', hn2⟩ := hn2
  refine ⟨m', hn2, fun h'' hs'' => ?_⟩
  exact ⟨_, _, J''.turned (t' := s''.toks) (fun b o hb e => hs''.extBut b o hb e) f0 f1 f3 f4 f5, fin A nD⟩
end

/-! ### the forms one uses -/
end L2

set_option Elab.async false
set_option linter.all false
set_option maxRecDepth 100000
/-! More of the built-ins, by the hand layer's judgements. -/
namespace L2
open PySem PySem.Spec PyProof.Rows
section
variable {X : Cx}
/-! ### isinstance of one class -/
theorem call_isinst : CallR X (.builtin "isinstance") (fun xs H Q => ∃ x t n b, xs = [x, .ty n] ∧ TyOf X.K H x t ∧ PySem.W.kitOne X.K t (.type n) = some b ∧ Q (.bl b) H) := by
  intro pins s σ H xs us Q I r h
  obtain ⟨x, t, n, b, rfl, ty, e, q⟩ := h
  obtain ⟨u, c, rfl, ru, rc⟩ := vals2 r
  obtain rfl : c = Value.type n := rc
  exact isinst_ok I ru ty e fun tk => ⟨.bl b, H, I.tok _, rfl, q⟩
/-! ### all of a list of truths -/
theorem truth_bools {prog : Program} {w : World} {A : Around} (bs : List Bool) : TruthOf prog w A (fun i v => ∃ b, bs[i]? = some b ∧ v = Value.bool b) (fun i => (bs[i]?).getD false) := by
  intro i v s Q E hP hQ
  obtain ⟨b, hb, rfl⟩ := hP
  dsimp only at hQ
  rw [hb] at hQ
  exact wpAny_truthy_bool hQ
theorem all_range (bs : List Bool) : (List.range bs.length).all (fun i => (bs[i]?).getD false) = bs.all id := by
  apply Bool.eq_iff_iff.mpr
  rw [List.all_eq_true, List.all_eq_true]
  constructor
  · intro h b hb
    obtain ⟨i, hi, e⟩ := List.getElem_of_mem hb
    have := h i (List.mem_range.mpr hi)
    rw [List.getElem?_eq_getElem hi, e] at this
    exact this
  · intro h i hi
    have hi := List.mem_range.mp hi
    rw [List.getElem?_eq_getElem hi]
    exact h _ (List.getElem_mem hi)
theorem vals_bools : ∀ {bs : List Bool} {us : List Value}, Vals (bs.map V.bl) us → us = bs.map Value.bool
  | [], _, .nil => rfl
  | _ :: bs, _, .cons r t => by
    rw [vals_bools (bs := bs) t, show _ = Value.bool _ from r]
    rfl
theorem call_all (hc : X.calm = true) : CallR X (.builtin "all") (fun xs H Q => ∃ (p : Addr) (bs : List Bool), xs = [.ref p] ∧ SqL X.K H p (bs.map V.bl) ∧ Q (.bl (bs.all id)) H) := by
  intro pins s σ H xs us Q I r h
  obtain ⟨p, bs, rfl, hq, q⟩ := h
  obtain ⟨u, rfl, ru⟩ := vals1 r
  cases ru
  obtain ⟨its, rv, pl, hz⟩ := I.list hq
  have ei := vals_bools rv
  subst ei
  have hlt : p < s.heap.objs.size := by obtain ⟨_, e, _⟩ := pl.isList; exact Heap.lt_size e
  refine call_all_walk (wpAny_pyIter_list pl.isList ?_)
  have W := Walks.list (prog := X.prog) (w := X.w) (A := X.A.in1) (I.ok.hd hc) s.heap.objs.size p (Nat.ne_of_lt hlt) (bs.map Value.bool).toArray
  refine ⟨_, _, _, _, _, _, _, rfl, { sub := W.sub, frame := W.frame, item := fun i s Q E hi st hQ => W.item i s Q E hi st fun v h' tk hP => hQ v h' tk ?_, done := W.done, self := W.self }, ⟨⟨_, Heap.get?_push_size _ rfl, rfl, rfl⟩, pl.isList.push _⟩, truth_bools bs, fun h' tk k => ?_⟩
  · have hP' : (bs.map Value.bool).toArray[i]? = some v := hP
    rw [List.getElem?_toArray, List.getElem?_map] at hP'
    cases e : bs[i]? with
    | none => rw [e] at hP'; cases hP'
    | some b => rw [e] at hP'; exact ⟨b, rfl, (Option.some.inj hP').symm⟩
  · have hsz : (bs.map Value.bool).toArray.size = bs.length := by simp
    rw [hsz, all_range]
    refine ⟨.bl _, H, ?_, rfl, q⟩
    refine I.kept (h' := h') (t' := tk) fun b o e => k b o ?_ (Heap.get?_push_of_some _ e)
    intro z
    have : b = s.heap.objs.size := by simpa using z
    exact absurd (Heap.lt_size e) (by rw [this]; exact Nat.lt_irrefl _)
end
/-! ### classes of built-in things -/
theorem kit_NoneType_int {K : PySem.W.Frag} : PySem.W.kitOne K (.type "NoneType") (.type "int") = some false := by kernel_rfl
theorem kit_NoneType_bool {K : PySem.W.Frag} : PySem.W.kitOne K (.type "NoneType") (.type "bool") = some false := by kernel_rfl
theorem kit_NoneType_tuple {K : PySem.W.Frag} : PySem.W.kitOne K (.type "NoneType") (.type "tuple") = some false := by kernel_rfl
theorem kit_bool_int {K : PySem.W.Frag} : PySem.W.kitOne K (.type "bool") (.type "int") = some true := by kernel_rfl
theorem kit_bool_bool {K : PySem.W.Frag} : PySem.W.kitOne K (.type "bool") (.type "bool") = some true := by kernel_rfl
theorem kit_bool_tuple {K : PySem.W.Frag} : PySem.W.kitOne K (.type "bool") (.type "tuple") = some false := by kernel_rfl
theorem kit_int_int {K : PySem.W.Frag} : PySem.W.kitOne K (.type "int") (.type "int") = some true := by kernel_rfl
theorem kit_int_bool {K : PySem.W.Frag} : PySem.W.kitOne K (.type "int") (.type "bool") = some false := by kernel_rfl
theorem kit_int_tuple {K : PySem.W.Frag} : PySem.W.kitOne K (.type "int") (.type "tuple") = some false := by kernel_rfl
theorem kit_str_int {K : PySem.W.Frag} : PySem.W.kitOne K (.type "str") (.type "int") = some false := by kernel_rfl
theorem kit_str_bool {K : PySem.W.Frag} : PySem.W.kitOne K (.type "str") (.type "bool") = some false := by kernel_rfl
theorem kit_str_tuple {K : PySem.W.Frag} : PySem.W.kitOne K (.type "str") (.type "tuple") = some false := by kernel_rfl
theorem kit_list_int {K : PySem.W.Frag} : PySem.W.kitOne K (.type "list") (.type "int") = some false := by kernel_rfl
theorem kit_list_bool {K : PySem.W.Frag} : PySem.W.kitOne K (.type "list") (.type "bool") = some false := by kernel_rfl
theorem kit_list_tuple {K : PySem.W.Frag} : PySem.W.kitOne K (.type "list") (.type "tuple") = some false := by kernel_rfl
theorem kit_tuple_int {K : PySem.W.Frag} : PySem.W.kitOne K (.type "tuple") (.type "int") = some false := by kernel_rfl
theorem kit_tuple_bool {K : PySem.W.Frag} : PySem.W.kitOne K (.type "tuple") (.type "bool") = some false := by kernel_rfl
theorem kit_tuple_tuple {K : PySem.W.Frag} : PySem.W.kitOne K (.type "tuple") (.type "tuple") = some true := by kernel_rfl
theorem kit_dict_int {K : PySem.W.Frag} : PySem.W.kitOne K (.type "dict") (.type "int") = some false := by kernel_rfl
theorem kit_dict_bool {K : PySem.W.Frag} : PySem.W.kitOne K (.type "dict") (.type "bool") = some false := by kernel_rfl
theorem kit_dict_tuple {K : PySem.W.Frag} : PySem.W.kitOne K (.type "dict") (.type "tuple") = some false := by kernel_rfl
end L2

set_option Elab.async false
set_option linter.all false
set_option maxRecDepth 100000
namespace L2
open PySem PySem.Spec PyProof.Rows

/-! ### lists of pairs as tables -/
section
variable {κ : Type} [DecidableEq κ]
/-- in its place, or at the end -/
def putK (kvs : List (κ × V)) (k : κ) (v : V) : List (κ × V) :=
  if (kvs.any fun kv => decide (kv.1 = k)) = true then kvs.map (fun kv => if kv.1 = k then (kv.1, v) else kv) else kvs ++ [(k, v)]

theorem length_putK (kvs : List (κ × V)) (k : κ) (v : V) : (putK kvs k v).length ≤ kvs.length + 1 := by
  unfold putK
  split
  · rw [List.length_map]; omega
  · rw [List.length_append, List.length_cons, List.length_nil]; omega


theorem KV.any {kvs : List (κ × V)} {vs : List (κ × Value)} (r : KV kvs vs) (k : κ) : (kvs.any fun kv => decide (kv.1 = k)) = vs.any fun kv => decide (kv.1 = k) := by
  unfold KV at r
  induction r with
  | nil => rfl
  | cons h t ih => rw [List.any_cons, List.any_cons, ih, h.1]
theorem KV.repl {kvs : List (κ × V)} {vs : List (κ × Value)} (r : KV kvs vs) (k : κ) {y : V} {u : Value} (ry : RelV y u) :
    KV (kvs.map fun kv => if kv.1 = k then (kv.1, y) else kv) (vs.map fun kv => if kv.1 = k then (kv.1, u) else kv) := by
  unfold KV at r ⊢
  induction r with
  | nil => exact .nil
  | @cons p q ps qs h t ih =>
    rw [List.map_cons, List.map_cons]
    refine .cons ?_ ih
    obtain ⟨h1, h2⟩ := h
    by_cases e : p.1 = k
    · rw [if_pos e, if_pos (h1.symm.trans e)]; exact ⟨h1, ry⟩
    · rw [if_neg e, if_neg (fun z => e (h1.trans z))]; exact ⟨h1, h2⟩
theorem KV.put {kvs : List (κ × V)} {vs : List (κ × Value)} (r : KV kvs vs) (k : κ) {y : V} {u : Value} (ry : RelV y u) : KV (putK kvs k y) (stored vs k u) := by
  unfold putK stored
  rw [r.any k]
  by_cases e : (vs.any fun kv => decide (kv.1 = k)) = true
  · rw [if_pos e, if_pos e]; exact r.repl k ry
  · rw [if_neg e, if_neg e]; exact Paired.snoc r ⟨rfl, ry⟩
end


/-! ### a tracked dict, its keys ints and texts or tuples of these -/
theorem kV_is {P : Program} {w : World} {k : Key} {u : Value} (r : RelV (kV k) u) : (mixKind P w).is k u = true := by
  cases k with
  | inl i => obtain ⟨t, e⟩ := (show ∃ t, u = Value.int i t from r); subst e; exact mixKind_int P w i t
  | inr x => obtain ⟨t, e⟩ := (show ∃ t, u = Value.str x t from r); subst e; exact mixKind_str P w x t


section
variable {P : Program} {w : World} {H : Hp} {h : Heap} {a : Addr}
end



section
variable {X : Cx} {pins : List (Addr × Obj)} {σ : St} {H : Hp} {s : Shared} {a : Addr} {y v : V} {u r : Value} {o : Option V} {A : Around} {E : Value → Shared → Prop}

theorem Inv.big (I : Inv X pins σ H s) : sysModules < s.heap.objs.size := by
  have h : mainGlobals < s.heap.objs.size := (I.mod.glob.keeps I.bk).lt
  exact Nat.lt_trans (by decide) h

theorem dk_new {P : Program} {w : World} {H' : Hp} {h' : Heap} {kvs : List (Key × V)} {vs : List (Key × Value)} (z : kvs.length ≤ sizeLine) (hd : (a == sysModules) = false) (rel : KV kvs vs) (dd : h'.DictOf (mixKind P w) a vs) :
    ObjOk P w H' h' a (.dK kvs) := ⟨z, hd, vs, rel, dd⟩
end

section
variable {X : Cx} {pins : List (Addr × Obj)} {σ : St} {H : Hp} {s : Shared} {a : Addr} {kvs : List (Key × V)} {k : Key} {u : Value} {A : Around} {E : Value → Shared → Prop}
end


/-! ### readings and rules -/



section
variable {X : Cx} {o i e value : Expr} {pos pos' tpos : Pos} {td ty tv : TE}
end


/-! ### displays -/
section
variable {X : Cx} {pos : Pos}
end


def mergeK (kvs more : List (Key × V)) : List (Key × V) := more.foldl (fun acc kv => putK acc kv.1 kv.2) kvs
theorem length_mergeK : ∀ (more kvs : List (Key × V)), (mergeK kvs more).length ≤ kvs.length + more.length
  | [], kvs => by show kvs.length ≤ kvs.length + 0; omega
  | p :: r, kvs => by
    have h1 := length_mergeK r (putK kvs p.1 p.2)
    have h2 := length_putK kvs p.1 p.2
    show (mergeK (putK kvs p.1 p.2) r).length ≤ _
    rw [List.length_cons]; omega


/-! ### methods -/


section
variable {X : Cx} {pins : List (Addr × Obj)} {σ : St} {H : Hp} {s : Shared} {a : Addr} {y d : V} {u r : Value} {o : Option V} {A : Around} {E : Value → Shared → Prop}
end

section
variable {X : Cx} {o e f : Expr} {apos cpos : Pos} {td ty tx : TE}
end

/-! ### dict(d): a copy -/
section
variable {X : Cx} {pins : List (Addr × Obj)} {σ : St} {H : Hp} {s : Shared} {a : Addr} {kvs : List (Key × V)} {A : Around} {E : Value → Shared → Prop}
end


section
variable {X : Cx} {pins : List (Addr × Obj)} {σ : St} {H : Hp} {s : Shared} {a : Addr} {y : V} {u : Value} {A : Around} {E : Value → Shared → Prop}
end
end L2


set_option Elab.async false
set_option linter.all false
set_option maxRecDepth 100000
/-! Things: trees of tuples, lists, small dicts, numbers, truths, texts, as they lie in the abstract heap; their repr. -/
namespace L2
open PySem PySem.Spec PyProof.Rows
/-- a key as a thing -/
def keyD : Key → PyData
  | .inl i => .int i
  | .inr x => .str x
mutual
/-- v is the thing d; its lists and dicts stand at addresses of S -/
inductive IsTh (S : Addr → Prop) (H : Hp) : V → PyData → Prop
  | non : IsTh S H .non .none
  | bl (b : Bool) : IsTh S H (.bl b) (.bool b)
  | int (i : Int) : IsTh S H (.int i) (.int i)
  | str (x : Str) : IsTh S H (.str x) (.str x)
  | lst {a : Addr} {xs : List V} {ds : List PyData} (hs : S a) (e : H a = some (.lst xs)) (r : IsThs S H xs ds) : IsTh S H (.ref a) (.list ds)
  | tup {a : Addr} {xs : List V} {ds : List PyData} (e : H a = some (.tup xs)) (r : IsThs S H xs ds) : IsTh S H (.ref a) (.tuple ds)
  | dct {a : Addr} {ks : List (Key × Int)} (hs : S a) (e : H a = some (.dK (ks.map fun p => (p.1, V.int p.2)))) : IsTh S H (.ref a) (.dict (ks.map fun p => (keyD p.1, .int p.2)))
inductive IsThs (S : Addr → Prop) (H : Hp) : List V → List PyData → Prop
  | nil : IsThs S H [] []
  | cons {v : V} {d : PyData} {vs : List V} {ds : List PyData} (h : IsTh S H v d) (t : IsThs S H vs ds) : IsThs S H (v :: vs) (d :: ds)
end
section
variable {S S' : Addr → Prop} {H H' : Hp}
theorem IsThs.length : ∀ {vs : List V} {ds : List PyData}, IsThs S H vs ds → vs.length = ds.length
  | _, _, .nil => rfl
  | _, _, .cons _ t => by rw [List.length_cons, List.length_cons, IsThs.length t]
theorem IsThs.get : ∀ {vs : List V} {ds : List PyData} {i : Nat} {v : V}, IsThs S H vs ds → vs[i]? = some v → ∃ d, ds[i]? = some d ∧ IsTh S H v d
  | _, _, _, _, .nil, e => by simp at e
  | _, _, 0, _, .cons h _, e => by simp at e; subst e; exact ⟨_, rfl, h⟩
  | _, _, i + 1, v, .cons _ t, e => by
    obtain ⟨d, h1, h2⟩ := IsThs.get (i := i) (v := v) t (by simpa using e)
    exact ⟨d, by simpa using h1, h2⟩
theorem IsThs.append : ∀ {vs ws : List V} {ds es : List PyData}, IsThs S H vs ds → IsThs S H ws es → IsThs S H (vs ++ ws) (ds ++ es)
  | _, _, _, _, .nil, s => s
  | _, _, _, _, .cons h t, s => .cons h (IsThs.append t s)
theorem IsThs.ints : ∀ (ns : List Int), IsThs S H (ns.map V.int) (ns.map PyData.int)
  | [] => .nil
  | n :: ns => .cons (.int n) (IsThs.ints ns)
/-! what a thing leans on: its tuples, and its lists and dicts at addresses of S -/
mutual
theorem IsTh.keep (ht : ∀ b xs, H b = some (.tup xs) → H' b = some (.tup xs)) (hs : ∀ b o, S b → H b = some o → H' b = some o) (hS : ∀ b o, S b → H b = some o → S' b) : ∀ {v : V} {d : PyData}, IsTh S H v d → IsTh S' H' v d
  | _, _, .non => .non
  | _, _, .bl b => .bl b
  | _, _, .int i => .int i
  | _, _, .str x => .str x
  | _, _, .lst s e r => .lst (hS _ _ s e) (hs _ _ s e) (IsThs.keep ht hs hS r)
  | _, _, .tup e r => .tup (ht _ _ e) (IsThs.keep ht hs hS r)
  | _, _, .dct s e => .dct (hS _ _ s e) (hs _ _ s e)
theorem IsThs.keep (ht : ∀ b xs, H b = some (.tup xs) → H' b = some (.tup xs)) (hs : ∀ b o, S b → H b = some o → H' b = some o) (hS : ∀ b o, S b → H b = some o → S' b) : ∀ {vs : List V} {ds : List PyData}, IsThs S H vs ds → IsThs S' H' vs ds
  | _, _, .nil => .nil
  | _, _, .cons h t => .cons (IsTh.keep ht hs hS h) (IsThs.keep ht hs hS t)
end
/-- the type of a thing -/
def tyD : PyData → String
  | .none => "NoneType"
  | .bool _ => "bool"
  | .int _ => "int"
  | .str _ => "str"
  | .list _ => "list"
  | .tuple _ => "tuple"
  | .dict _ => "dict"
theorem IsTh.ty {K : PySem.W.Frag} {v : V} {d : PyData} (h : IsTh S H v d) : TyOf K H v (.type (tyD d)) := by
  cases h with
  | non => exact .non
  | bl b => exact .bl b
  | int i => exact .int i
  | str x => exact .str x
  | lst s e r => exact .lst e
  | tup e r => exact .tup e
  | dct s e => exact .dK e
def isIntD : PyData → Bool
  | .int _ => true
  | .bool _ => true
  | _ => false
def isBoolD : PyData → Bool
  | .bool _ => true
  | _ => false
def isTupD : PyData → Bool
  | .tuple _ => true
  | _ => false
theorem kit_int {K : PySem.W.Frag} (d : PyData) : PySem.W.kitOne K (.type (tyD d)) (.type "int") = some (isIntD d) := by
  cases d
  · exact kit_NoneType_int
  · exact kit_bool_int
  · exact kit_int_int
  · exact kit_str_int
  · exact kit_list_int
  · exact kit_tuple_int
  · exact kit_dict_int
theorem kit_bool {K : PySem.W.Frag} (d : PyData) : PySem.W.kitOne K (.type (tyD d)) (.type "bool") = some (isBoolD d) := by
  cases d
  · exact kit_NoneType_bool
  · exact kit_bool_bool
  · exact kit_int_bool
  · exact kit_str_bool
  · exact kit_list_bool
  · exact kit_tuple_bool
  · exact kit_dict_bool
theorem kit_tup {K : PySem.W.Frag} (d : PyData) : PySem.W.kitOne K (.type (tyD d)) (.type "tuple") = some (isTupD d) := by
  cases d
  · exact kit_NoneType_tuple
  · exact kit_bool_tuple
  · exact kit_int_tuple
  · exact kit_str_tuple
  · exact kit_list_tuple
  · exact kit_tuple_tuple
  · exact kit_dict_tuple
end
/-! ### how long a thing's text may be -/
mutual
def sz : PyData → Nat
  | .none => 1
  | .bool _ => 1
  | .int _ => 1
  | .str _ => 1
  | .list xs => 1 + szs xs
  | .tuple xs => 1 + szs xs
  | .dict kvs => 1 + 4 * kvs.length
def szs : List PyData → Nat
  | [] => 0
  | x :: xs => sz x + szs xs
end
mutual
def tame : PyData → Bool
  | .none => true
  | .bool _ => true
  | .int i => decide (i.natAbs < 2 ^ 128)
  | .str x => decide (x.length ≤ 10) && x.cps.toList.all fun c => decide (c < 16 ^ 8)
  | .list xs => tames xs
  | .tuple xs => tames xs
  | .dict kvs => tameKv kvs
def tames : List PyData → Bool
  | [] => true
  | x :: xs => tame x && tames xs
def tameKv : List (PyData × PyData) → Bool
  | [] => true
  | (.int i, .int j) :: r => decide (i.natAbs < 2 ^ 128) && decide (j.natAbs < 2 ^ 128) && tameKv r
  | (.str x, .int j) :: r => (decide (x.length ≤ 10) && x.cps.toList.all fun c => decide (c < 16 ^ 8)) && decide (j.natAbs < 2 ^ 128) && tameKv r
  | _ :: _ => false
end
theorem int_len {i : Int} (h : i.natAbs < 2 ^ 128) : (Str.ofString (toString i)).length ≤ 130 := by
  have e := int_text_length_le (a := i) (k := 128) (by decide) (by
    by_cases h0 : i.natAbs = 0
    · rw [h0]; decide
    · exact (Nat.log2_lt h0).mpr h)
  rw [PySem.ofString_length]
  omega
theorem textFrom_le : ∀ (ts : List Str) (k : Nat) (acc : Str), (textFrom k acc ts).length ≤ acc.length + piled ts
  | [], k, acc => by show acc.length ≤ acc.length + 0; omega
  | t :: r, k, acc => by
    have h := textFrom_le r (k + 1) (acc ++ (if k > 0 then ", " else "" : String) ++ t)
    have e : (acc ++ (if k > 0 then ", " else "" : String) ++ t).length ≤ acc.length + 2 + t.length := by
      rw [strLen_append, strLen_append]
      split
      · show acc.length + 2 + t.length ≤ _
        omega
      · show acc.length + 0 + t.length ≤ _
        omega
    rw [piled_cons]
    show (textFrom (k + 1) _ r).length ≤ _
    omega
theorem listText_le (ts : List Str) : (listText ts).length ≤ piled ts + 2 := by
  have h := textFrom_le ts 0 "["
  unfold listText
  rw [strLen_append]
  have e1 : (("[" : Str)).length = 1 := rfl
  have e2 : (("]" : Str)).length = 1 := rfl
  omega
theorem join_le (ts : List Str) : (Str.join ", " ts).length ≤ piled ts := by
  by_cases h : ts = []
  · subst h
    show 0 ≤ _
    omega
  · have := join_length_add ts h
    omega
theorem tupleText_le (ts : List Str) : (tupleText ts).length ≤ piled ts + 3 := by
  have h := join_le ts
  unfold tupleText
  rw [strLen_append, strLen_append]
  have e1 : (("(" : Str)).length = 1 := rfl
  have e2 : ((if ts.length == 1 then ",)" else ")" : String) : Str).length ≤ 2 := by
    split
    · exact Nat.le_refl 2
    · exact Nat.le_succ 1
  omega
theorem dictText_le (ts : List Str) : (dictText ts).length ≤ piled ts + 2 := by
  have h := join_le ts
  unfold dictText
  rw [strLen_append, strLen_append]
  have e1 : (("{" : Str)).length = 1 := rfl
  have e2 : (("}" : Str)).length = 1 := rfl
  omega
theorem shownKv_le : ∀ (kvs : List (PyData × PyData)), tameKv kvs = true → piled (PyData.shownKv kvs) ≤ 400 * kvs.length
  | [], _ => by show 0 ≤ _; omega
  | (.int i, .int j) :: r, h => by
    have h' : (decide (i.natAbs < 2 ^ 128) && decide (j.natAbs < 2 ^ 128) && tameKv r) = true := h
    simp only [Bool.and_eq_true, decide_eq_true_eq] at h'
    have h1 := int_len h'.1.1
    have h2 := int_len h'.1.2
    have h3 := shownKv_le r h'.2
    show piled ((PyData.shown (.int i) ++ ": " ++ PyData.shown (.int j)) :: PyData.shownKv r) ≤ _
    rw [piled_cons, strLen_append, strLen_append]
    have e1 : ((": " : Str)).length = 2 := rfl
    have e2 : PyData.shown (.int i) = Str.ofString (toString i) := rfl
    have e3 : PyData.shown (.int j) = Str.ofString (toString j) := rfl
    rw [e1, e2, e3, List.length_cons]
    omega
  | (.none, _) :: _, h => by simp [tameKv] at h
  | (.bool _, _) :: _, h => by simp [tameKv] at h
  | (.str x, .int j) :: r, h => by
    have h' : ((decide (x.length ≤ 10) && x.cps.toList.all fun c => decide (c < 16 ^ 8)) && decide (j.natAbs < 2 ^ 128) && tameKv r) = true := h
    rw [Bool.and_eq_true, Bool.and_eq_true, Bool.and_eq_true, decide_eq_true_eq, decide_eq_true_eq] at h'
    have h0 : x.length ≤ 10 := h'.1.1.1
    have h1 := StrLaws.reprText_len x fun c hc => by simpa using List.all_eq_true.mp h'.1.1.2 c hc
    have h2 := int_len h'.1.2
    have h3 := shownKv_le r h'.2
    show piled ((PyData.shown (.str x) ++ ": " ++ PyData.shown (.int j)) :: PyData.shownKv r) ≤ _
    rw [piled_cons, strLen_append, strLen_append]
    have e1 : ((": " : Str)).length = 2 := rfl
    have e2 : PyData.shown (.str x) = reprText x := rfl
    have e3 : PyData.shown (.int j) = Str.ofString (toString j) := rfl
    rw [e1, e2, e3, List.length_cons]
    omega
  | (.str _, .none) :: _, h => by simp [tameKv] at h
  | (.str _, .bool _) :: _, h => by simp [tameKv] at h
  | (.str _, .str _) :: _, h => by simp [tameKv] at h
  | (.str _, .list _) :: _, h => by simp [tameKv] at h
  | (.str _, .tuple _) :: _, h => by simp [tameKv] at h
  | (.str _, .dict _) :: _, h => by simp [tameKv] at h
  | (.list _, _) :: _, h => by simp [tameKv] at h
  | (.tuple _, _) :: _, h => by simp [tameKv] at h
  | (.dict _, _) :: _, h => by simp [tameKv] at h
  | (.int _, .none) :: _, h => by simp [tameKv] at h
  | (.int _, .bool _) :: _, h => by simp [tameKv] at h
  | (.int _, .str _) :: _, h => by simp [tameKv] at h
  | (.int _, .list _) :: _, h => by simp [tameKv] at h
  | (.int _, .tuple _) :: _, h => by simp [tameKv] at h
  | (.int _, .dict _) :: _, h => by simp [tameKv] at h
mutual
theorem shown_len : ∀ (d : PyData), tame d = true → d.shown.length + 2 ≤ 200 * sz d
  | .none, _ => by decide +kernel
  | .bool true, _ => by decide +kernel
  | .bool false, _ => by decide +kernel
  | .int i, h => by
    have := int_len (i := i) (by simpa [tame] using h)
    show (Str.ofString (toString i)).length + 2 ≤ 200 * 1
    omega
  | .str x, h => by
    have h' : (decide (x.length ≤ 10) && x.cps.toList.all fun c => decide (c < 16 ^ 8)) = true := h
    rw [Bool.and_eq_true] at h'
    have h1 : x.length ≤ 10 := by simpa using h'.1
    have := StrLaws.reprText_len x fun c hc => by simpa using List.all_eq_true.mp h'.2 c hc
    show (reprText x).length + 2 ≤ 200 * 1
    omega
  | .list xs, h => by
    have h1 := shownAll_len xs (by simpa [tame] using h)
    have h2 := listText_le (PyData.shownAll xs)
    show (listText (PyData.shownAll xs)).length + 2 ≤ 200 * (1 + szs xs)
    omega
  | .tuple xs, h => by
    have h1 := shownAll_len xs (by simpa [tame] using h)
    have h2 := tupleText_le (PyData.shownAll xs)
    show (tupleText (PyData.shownAll xs)).length + 2 ≤ 200 * (1 + szs xs)
    omega
  | .dict kvs, h => by
    have h1 := shownKv_le kvs (by simpa [tame] using h)
    have h2 := dictText_le (PyData.shownKv kvs)
    show (dictText (PyData.shownKv kvs)).length + 2 ≤ 200 * (1 + 4 * kvs.length)
    omega
theorem shownAll_len : ∀ (xs : List PyData), tames xs = true → piled (PyData.shownAll xs) ≤ 200 * szs xs
  | [], _ => by show 0 ≤ _; omega
  | x :: xs, h => by
    have h' : (tame x && tames xs) = true := h
    rw [Bool.and_eq_true] at h'
    have h1 := shown_len x h'.1
    have h2 := shownAll_len xs h'.2
    show piled (PyData.shown x :: PyData.shownAll xs) ≤ 200 * (sz x + szs xs)
    rw [piled_cons]
    omega
end
theorem showableKv_ok : ∀ (kvs : List (PyData × PyData)), tameKv kvs = true → PyData.showableKv kvs = true
  | [], _ => rfl
  | (.int i, .int j) :: r, h => by
    have h' : (decide (i.natAbs < 2 ^ 128) && decide (j.natAbs < 2 ^ 128) && tameKv r) = true := h
    simp only [Bool.and_eq_true, decide_eq_true_eq] at h'
    have big : ∀ {n : Int}, n.natAbs < 2 ^ 128 → n.natAbs.log2 < 1920 := fun {n} hn => by
      by_cases h0 : n.natAbs = 0
      · rw [h0]; decide
      · exact Nat.lt_trans ((Nat.log2_lt h0).mpr hn) (by decide)
    simp only [PyData.showableKv, PyData.showable, Bool.and_eq_true, decide_eq_true_eq]
    exact ⟨⟨big h'.1.1, big h'.1.2⟩, showableKv_ok r h'.2⟩
  | (.none, _) :: _, h => by simp [tameKv] at h
  | (.bool _, _) :: _, h => by simp [tameKv] at h
  | (.str x, .int j) :: r, h => by
    have h' : ((decide (x.length ≤ 10) && x.cps.toList.all fun c => decide (c < 16 ^ 8)) && decide (j.natAbs < 2 ^ 128) && tameKv r) = true := h
    rw [Bool.and_eq_true, Bool.and_eq_true, decide_eq_true_eq] at h'
    have big : ∀ {n : Int}, n.natAbs < 2 ^ 128 → n.natAbs.log2 < 1920 := fun {n} hn => by
      by_cases h0 : n.natAbs = 0
      · rw [h0]; decide
      · exact Nat.lt_trans ((Nat.log2_lt h0).mpr hn) (by decide)
    simp only [PyData.showableKv, PyData.showable, Bool.and_eq_true, decide_eq_true_eq]
    exact ⟨⟨trivial, big h'.1.2⟩, showableKv_ok r h'.2⟩
  | (.str _, .none) :: _, h => by simp [tameKv] at h
  | (.str _, .bool _) :: _, h => by simp [tameKv] at h
  | (.str _, .str _) :: _, h => by simp [tameKv] at h
  | (.str _, .list _) :: _, h => by simp [tameKv] at h
  | (.str _, .tuple _) :: _, h => by simp [tameKv] at h
  | (.str _, .dict _) :: _, h => by simp [tameKv] at h
  | (.list _, _) :: _, h => by simp [tameKv] at h
  | (.tuple _, _) :: _, h => by simp [tameKv] at h
  | (.dict _, _) :: _, h => by simp [tameKv] at h
  | (.int _, .none) :: _, h => by simp [tameKv] at h
  | (.int _, .bool _) :: _, h => by simp [tameKv] at h
  | (.int _, .str _) :: _, h => by simp [tameKv] at h
  | (.int _, .list _) :: _, h => by simp [tameKv] at h
  | (.int _, .tuple _) :: _, h => by simp [tameKv] at h
  | (.int _, .dict _) :: _, h => by simp [tameKv] at h
mutual
theorem showable_ok : ∀ (d : PyData), tame d = true → d.showable = true
  | .none, _ => rfl
  | .bool _, _ => rfl
  | .int i, h => by
    have h' : i.natAbs < 2 ^ 128 := by simpa [tame] using h
    have : i.natAbs.log2 < 1920 := by
      by_cases h0 : i.natAbs = 0
      · rw [h0]; decide
      · exact Nat.lt_trans ((Nat.log2_lt h0).mpr h') (by decide)
    simp only [PyData.showable]
    exact decide_eq_true this
  | .str _, _ => rfl
  | .list xs, h => by
    simp only [PyData.showable]
    exact showables_ok xs (by simpa [tame] using h)
  | .tuple xs, h => by
    simp only [PyData.showable]
    exact showables_ok xs (by simpa [tame] using h)
  | .dict kvs, h => by
    simp only [PyData.showable]
    exact showableKv_ok kvs (by simpa [tame] using h)
theorem showables_ok : ∀ (xs : List PyData), tames xs = true → PyData.showableAll xs = true
  | [], _ => rfl
  | x :: xs, h => by
    have h' : (tame x && tames xs) = true := h
    rw [Bool.and_eq_true] at h'
    simp only [PyData.showableAll, Bool.and_eq_true]
    exact ⟨showable_ok x h'.1, showables_ok xs h'.2⟩
end
theorem depthKv_le : ∀ (kvs : List (PyData × PyData)), tameKv kvs = true → PyData.depthKv kvs = 0
  | [], _ => rfl
  | (.int i, .int j) :: r, h => by
    have h' : (decide (i.natAbs < 2 ^ 128) && decide (j.natAbs < 2 ^ 128) && tameKv r) = true := h
    simp only [Bool.and_eq_true, decide_eq_true_eq] at h'
    simp only [PyData.depthKv, PyData.depth, depthKv_le r h'.2]
    rfl
  | (.none, _) :: _, h => by simp [tameKv] at h
  | (.bool _, _) :: _, h => by simp [tameKv] at h
  | (.str x, .int j) :: r, h => by
    have h' : ((decide (x.length ≤ 10) && x.cps.toList.all fun c => decide (c < 16 ^ 8)) && decide (j.natAbs < 2 ^ 128) && tameKv r) = true := h
    rw [Bool.and_eq_true] at h'
    simp only [PyData.depthKv, PyData.depth, depthKv_le r h'.2]
    rfl
  | (.str _, .none) :: _, h => by simp [tameKv] at h
  | (.str _, .bool _) :: _, h => by simp [tameKv] at h
  | (.str _, .str _) :: _, h => by simp [tameKv] at h
  | (.str _, .list _) :: _, h => by simp [tameKv] at h
  | (.str _, .tuple _) :: _, h => by simp [tameKv] at h
  | (.str _, .dict _) :: _, h => by simp [tameKv] at h
  | (.list _, _) :: _, h => by simp [tameKv] at h
  | (.tuple _, _) :: _, h => by simp [tameKv] at h
  | (.dict _, _) :: _, h => by simp [tameKv] at h
  | (.int _, .none) :: _, h => by simp [tameKv] at h
  | (.int _, .bool _) :: _, h => by simp [tameKv] at h
  | (.int _, .str _) :: _, h => by simp [tameKv] at h
  | (.int _, .list _) :: _, h => by simp [tameKv] at h
  | (.int _, .tuple _) :: _, h => by simp [tameKv] at h
  | (.int _, .dict _) :: _, h => by simp [tameKv] at h
mutual
theorem depth_le : ∀ (d : PyData), tame d = true → d.depth ≤ sz d
  | .none, _ => Nat.zero_le _
  | .bool _, _ => Nat.zero_le _
  | .int i, _ => Nat.zero_le _
  | .str _, _ => Nat.zero_le _
  | .list xs, h => by
    have := depths_le xs (by simpa [tame] using h)
    simp only [PyData.depth, sz]
    omega
  | .tuple xs, h => by
    have := depths_le xs (by simpa [tame] using h)
    simp only [PyData.depth, sz]
    omega
  | .dict kvs, h => by
    have := depthKv_le kvs (by simpa [tame] using h)
    simp only [PyData.depth, sz]
    omega
theorem depths_le : ∀ (xs : List PyData), tames xs = true → PyData.depthAll xs ≤ szs xs
  | [], _ => Nat.zero_le _
  | x :: xs, h => by
    have h' : (tame x && tames xs) = true := h
    rw [Bool.and_eq_true] at h'
    have h1 := depth_le x h'.1
    have h2 := depths_le xs h'.2
    simp only [PyData.depthAll, szs]
    omega
end
end L2

set_option Elab.async false
set_option linter.all false
set_option maxRecDepth 100000
/-! repr of things; insert; t * n; t == (). -/
namespace L2
open PySem PySem.Spec PyProof.Rows
section
variable {X : Cx} {pins : List (Addr × Obj)} {σ : St} {H : Hp} {s : Shared} {S : Addr → Prop}
theorem pairs_ints {P : Program} {w : World} : ∀ {ks : List (Key × Int)} {vs : List (Key × Value)} {es : List DictEntry}, KV (ks.map fun p => (p.1, V.int p.2)) vs → Pairs (mixKind P w) es vs →
    (∃ as, ReadsAll s.heap (es.map (·.key)) ((ks.map fun p => (keyD p.1, PyData.int p.2)).map (·.1)) as ∧ as = []) ∧ ∃ as, ReadsAll s.heap (es.map (·.val)) ((ks.map fun p => (keyD p.1, PyData.int p.2)).map (·.2)) as ∧ as = []
  | [], vs, es, r, p => by
    cases r
    cases p
    exact ⟨⟨_, .nil, rfl⟩, ⟨_, .nil, rfl⟩⟩
  | (k, n) :: ks, vs, es, r, p => by
    cases r with
    | @cons a b l1 l2 h t =>
      cases p with
      | @cons e kv es' kvs' h1 h2 h3 =>
        obtain ⟨⟨_, i1, rfl⟩, ⟨_, i2, rfl⟩⟩ := pairs_ints (ks := ks) t h3
        obtain ⟨q1, q2⟩ := h
        have h1' : keyIs b.1 e.key = true := h1
        rw [← q1] at h1'
        obtain ⟨tv, ev2⟩ : ∃ t, b.2 = Value.int n t := q2
        rw [ev2] at h2
        refine ⟨⟨_, ?_, rfl⟩, ⟨_, ?_, rfl⟩⟩
        · show ReadsAll s.heap (e.key :: es'.map (·.key)) (keyD k :: _) ([] ++ [])
          rcases keyIs_shape h1' with ⟨i, tk, ei, ev⟩ | ⟨x, tk, ei, ev⟩
          · have ei : k = Sum.inl i := ei
            rw [ev, ei]
            exact .cons (.int _ _) i1
          · have ei : k = Sum.inr x := ei
            rw [ev, ei]
            exact .cons (.str _ _) i1
        · show ReadsAll s.heap (e.val :: es'.map (·.val)) (PyData.int n :: _) ([] ++ [])
          rw [h2]
          exact .cons (.int _ _) i2
mutual
theorem IsTh.reads (I : Inv X pins σ H s) : ∀ {v : V} {d : PyData} {u : Value}, IsTh S H v d → RelV v u → ∃ as, Reads s.heap u d as ∧ ∀ a ∈ as, S a
  | _, _, _, .non, r => by cases (show _ = Value.none from r); exact ⟨[], .none, fun _ h => nomatch h⟩
  | _, _, _, .bl b, r => by cases (show _ = Value.bool b from r); exact ⟨[], .bool b, fun _ h => nomatch h⟩
  | _, _, _, .int i, r => by obtain ⟨t, rfl⟩ := r; exact ⟨[], .int i t, fun _ h => nomatch h⟩
  | _, _, _, .str x, r => by obtain ⟨t, rfl⟩ := r; exact ⟨[], .str x t, fun _ h => nomatch h⟩
  | _, _, _, @IsTh.lst _ _ a xs ds hs e t, r => by
    cases (show _ = Value.ref a from r)
    obtain ⟨_, its, n, rv, ho⟩ := (show ObjOk X.prog X.w H s.heap a (.lst xs) from I.hok a _ e)
    obtain ⟨as, h1, h2⟩ := IsThs.reads I t rv
    refine ⟨a :: as, .list ho rfl rfl (by simpa using h1), fun b hb => ?_⟩
    rcases List.mem_cons.mp hb with z | z
    · rw [z]; exact hs
    · exact h2 b z
  | _, _, _, @IsTh.tup _ _ a xs ds e t, r => by
    cases (show _ = Value.ref a from r)
    obtain ⟨_, its, rv, o, ho, hc, n, hd⟩ := (show ObjOk X.prog X.w H s.heap a (.tup xs) from I.hok a _ e)
    obtain ⟨as, h1, h2⟩ := IsThs.reads I t rv
    exact ⟨as, .tuple ho hc hd (by simpa using h1), h2⟩
  | _, _, _, @IsTh.dct _ _ a ks hs e, r => by
    cases (show _ = Value.ref a from r)
    obtain ⟨_, _, vs, rel, o, es, ep, ho, hx, hd, _, hp, _⟩ := (show ObjOk X.prog X.w H s.heap a (.dK _) from I.hok a _ e)
    obtain ⟨⟨_, i1, rfl⟩, ⟨_, i2, rfl⟩⟩ := pairs_ints (s := s) rel hp
    refine ⟨a :: [] ++ [], .dict ho hx.1 hd i1 i2, fun b hb => ?_⟩
    rw [show b = a by simpa using hb]
    exact hs
theorem IsThs.reads (I : Inv X pins σ H s) : ∀ {vs : List V} {ds : List PyData} {us : List Value}, IsThs S H vs ds → Vals vs us → ∃ as, ReadsAll s.heap us ds as ∧ ∀ a ∈ as, S a
  | _, _, _, .nil, r => by cases r; exact ⟨[], .nil, fun _ h => nomatch h⟩
  | _, _, _, .cons h t, r => by
    cases r with
    | cons r1 r2 =>
      obtain ⟨as, h1, h2⟩ := IsTh.reads I h r1
      obtain ⟨bs, h3, h4⟩ := IsThs.reads I t r2
      exact ⟨as ++ bs, .cons h1 h3, fun b hb => (List.mem_append.mp hb).elim (h2 b) (h4 b)⟩
end
theorem call_repr (hg : X.A.guards = some []) (hS : ¬ S sysModules) : CallR X (.builtin "repr") (fun xs H Q => ∃ v d, xs = [v] ∧ IsTh S H v d ∧ tame d = true ∧ sz d ≤ 4000 ∧ X.A.units + (sz d + 1) < cLine ∧ Q (.str d.shown) H) := by
  intro pins s σ H xs us Q I r h
  obtain ⟨v, d, rfl, th, tm, hz, hu, q⟩ := h
  obtain ⟨u, rfl, ru⟩ := vals1 r
  have hl := shown_len d tm
  have hsz : d.shown.length ≤ sizeLine := by rw [sizeLine_eq]; omega
  have fin : ∀ t h' tk, (∀ b o, s.heap.get? b = some o → h'.get? b = some o) → EP X pins σ Q (.str d.shown t) { s with heap := h', toks := tk } := fun t h' tk k => ⟨.str d.shown, H, I.kept k, ⟨t, rfl⟩, q⟩
  have show1 := showable_ok d tm
  cases th with
  | non => cases (show u = Value.none from ru); exact PySem.P.repr_of_none (fin _ s.heap _ fun _ _ e => e)
  | bl b => cases (show u = Value.bool b from ru); exact PySem.P.repr_of_bool (fin _ s.heap _ fun _ _ e => e)
  | int i =>
    obtain ⟨t, rfl⟩ := ru
    have : i.natAbs.log2 < 1920 := by simpa [PyData.showable] using show1
    exact PySem.P.repr_of_int this (fin _ s.heap _ fun _ _ e => e)
  | str x => obtain ⟨t, rfl⟩ := ru; exact PySem.P.repr_of_str (fin _ s.heap _ fun _ _ e => e) hsz
  | @lst a xs ds hs e t =>
    obtain ⟨as, rd, ha⟩ := (IsTh.lst hs e t).reads I ru
    cases (show u = Value.ref a from ru)
    exact repr_of_reads' rd show1 (fun _ hm => hS (ha _ hm)) hg (by have := depth_le _ tm; omega) (fun b o e => e) (fun h' t tk k => fin t h' tk k) hsz
  | @tup a xs ds e t =>
    obtain ⟨as, rd, ha⟩ := (IsTh.tup (S := S) e t).reads I ru
    cases (show u = Value.ref a from ru)
    exact repr_of_reads' rd show1 (fun _ hm => hS (ha _ hm)) hg (by have := depth_le _ tm; omega) (fun b o e => e) (fun h' t tk k => fin t h' tk k) hsz
  | @dct a ks hs e =>
    obtain ⟨as, rd, ha⟩ := (IsTh.dct hs e).reads I ru
    cases (show u = Value.ref a from ru)
    exact repr_of_reads' rd show1 (fun _ hm => hS (ha _ hm)) hg (by have := depth_le _ tm; omega) (fun b o e => e) (fun h' t tk k => fin t h' tk k) hsz
end
section
variable {X : Cx}
/-! ### xs.insert(i, y), i not below 0 -/
/-! ### t == () -/
end
end L2

set_option Elab.async false
set_option linter.all false
set_option maxRecDepth 100000
/-! zip of a tuple and a list, walked. -/
namespace L2
open PySem PySem.Spec PyProof.Rows
section
variable {prog : Program} {w : World} {A : Around} {E : Value → Shared → Prop} {s : Shared}
theorem nx_tup {j t : Addr} {i : Nat} {its : Array Value} {x : Value} {Q : Value → Shared → Prop} (hj : s.heap.IsTupleIter j t i) (ht : s.heap.IsTuple t its) (hx : its[i]? = some x)
    (hQ : ∀ h', h'.IsTupleIter j t (i + 1) → Heap.SameBut j s.heap h' → Q x { s with heap := h' }) : wpAny (model prog w) A (Builtin.SmallTypes.nextOf (.ref j)) Q E s := by
  obtain ⟨o, ho, hc, hd⟩ := id hj
  obtain ⟨p, hp, _, m, hm⟩ := ht
  unfold Builtin.SmallTypes.nextOf
  refine wpAny_bind (wpAny_callSpecial?_slot (name := Str.ofString "__next__") hj.typeIs F.slot_tuple_iterator_next (wpAny_call_entry F.slot_tuple_iterator_next hj.typeIs F.entry_tuple_iterator_next ?_ (F.args_tuple_iterator_next_1 _)))
  show wpAny _ _ (field (.ref j) 0 >>= _) _ _ s
  refine wpAny_bind (wpAny_field ho hd (x := .ref t) rfl ?_)
  show wpAny _ _ (if (Value.ref t == Value.none) = true then _ else _) _ _ s
  rw [if_neg (show ¬ ((Value.ref t == Value.none) = true) by intro z; exact Bool.false_ne_true z)]
  show wpAny _ _ (field (.ref j) 1 >>= _) _ _ s
  refine wpAny_bind (wpAny_field ho hd (x := .int i 0) rfl (wpAny_bind (wpAny_seqItems hp hm ?_)))
  simp only [Int.toNat_natCast, hx]
  refine wpAny_bind (wpAny_setField ho hd (by simp) (wpAny_pure ⟨x, rfl, wpAny_pure (hQ _ ⟨_, Heap.get?_update_self _ ho (Obj.isFreed_of_fields (Obj.data_mapFields hd _)), (Obj.cls_mapFields ..).trans hc, by
    rw [Obj.data_mapFields hd]
    simp [rawInt]⟩ (Heap.SameBut.update ..))⟩))
theorem nx_tup_end {j t : Addr} {i : Nat} {its : Array Value} {Q : Value → Shared → Prop} (hh : A.handled = none) (hj : s.heap.IsTupleIter j t i) (ht : s.heap.IsTuple t its) (hx : its[i]? = none)
    (hE : ∀ h' e, Heap.ExtBut j s.heap h' → (∃ o, h'.get? e = some o ∧ o.cls = .type "StopIteration") → E (.ref e) { s with heap := h' }) : wpAny (model prog w) A (Builtin.SmallTypes.nextOf (.ref j)) Q E s := by
  obtain ⟨o, ho, hc, hd⟩ := id hj
  obtain ⟨p, hp, _, m, hm⟩ := ht
  unfold Builtin.SmallTypes.nextOf
  refine wpAny_bind (wpAny_callSpecial?_slot (name := Str.ofString "__next__") hj.typeIs F.slot_tuple_iterator_next (wpAny_call_entry F.slot_tuple_iterator_next hj.typeIs F.entry_tuple_iterator_next ?_ (F.args_tuple_iterator_next_1 _)))
  show wpAny _ _ (field (.ref j) 0 >>= _) _ _ s
  refine wpAny_bind (wpAny_field ho hd (x := .ref t) rfl ?_)
  show wpAny _ _ (if (Value.ref t == Value.none) = true then _ else _) _ _ s
  rw [if_neg (show ¬ ((Value.ref t == Value.none) = true) by intro z; exact Bool.false_ne_true z)]
  show wpAny _ _ (field (.ref j) 1 >>= _) _ _ s
  refine wpAny_bind (wpAny_field ho hd (x := .int i 0) rfl (wpAny_bind (wpAny_seqItems hp hm ?_)))
  simp only [Int.toNat_natCast, hx]
  refine wpAny_bind (wpAny_rule (wpAny_bind (wpAny_setField ho hd (by simp) ?_)))
  show wpAny _ _ (newExc (.type "StopIteration") [] >>= _) _ _ _
  refine wpAny_bind ?_
  simp only [newExc, newTuple]
  refine wpAny_bind (wpAny_newObj_type (wpAny_bind (m := firstArgMember _ _) (wpAny_of_eq (a := Value.none) (by first | rfl | (simp only [firstArgMember]; rfl)) (wpAny_newObj_type ?_ (by size_fits)))) (by size_fits))
  simp only [raiseNew]
  refine wpAny_bind (wpAny_handled ?_)
  first
    | rw [show A.in1.handled = none from hh]
    | rw [hh]
  exact wpAny_bind (wpAny_pure (wpAny_throw (hE _ _ (((Heap.SameBut.update ..).extBut.push _).push _) ⟨_, Heap.get?_push_size _ rfl, rfl⟩)))

theorem zip_tl_end {z TI TO i1 i2 l1 l2 : Addr} {k : Nat} {xs : Array Value} {a b : Value} {Q : Option Value → Shared → Prop} (hh : A.handled = none) (D : ZipApart z TI TO i1 i2 l1 l2)
    (hz : IsZip s.heap z TI TO .none) (hTI : IsPair s.heap TI (.ref i1) (.ref i2)) (hTO : IsPair s.heap TO a b) (h1 : s.heap.IsTupleIter i1 l1 k) (hl1 : s.heap.IsTuple l1 xs) (hx : xs[k]? = none)
    (hQ : ∀ h', (∀ c o, c ≠ z → c ≠ i1 → s.heap.get? c = some o → h'.get? c = some o) → Q none { s with heap := h' }) : wpAny (model prog w) A (pyNext (.ref z)) Q E s := by
  have hT : s.TypeIs (.ref z) "zip" := ⟨_, hz, rfl⟩
  unfold pyNext
  refine wpAny_bind (wpAny_attempt (wpAny_callSpecial?_slot (name := Str.ofString "__next__") hT F.slot_zip_next (wpAny_call_entry F.slot_zip_next hT F.entry_zip_next ?_ (F.args_zip_next_1 _))))
  show wpAny _ _ (field (.ref z) 2 >>= _) _ _ _
  refine wpAny_bind (wpAny_field hz rfl (x := .bool false) rfl ?_)
  show wpAny _ _ (field (.ref z) 3 >>= _) _ _ _
  refine wpAny_bind (wpAny_field hz rfl (x := .ref TI) rfl (wpAny_bind (wpAny_seqItems hTI rfl ?_)))
  show wpAny _ _ (Builtin.SmallTypes.ownedTupleIsFree (.ref z) >>= _) _ _ _
  refine wpAny_bind ?_
  unfold Builtin.SmallTypes.ownedTupleIsFree
  refine wpAny_bind (wpAny_field hz rfl (x := .none) rfl (wpAny_pure ?_))
  simp only [if_true]
  refine wpAny_bind (wpAny_rule (wpAny_bind (wpAny_field hz rfl (x := .ref TO) rfl (wpAny_bind (wpAny_setField_rec hz (by simp) fun g1 z1 s1 => ?_)))))
  replace z1 : IsZip g1 z TI TO .ellipsis := z1
  refine wpAny_bind ?_
  simp only [List.zipIdx_cons, List.zipIdx_nil, List.forIn_cons, List.forIn_nil]
  refine wpAny_bind (wpAny_bind (wpAny_onRaise ?_))
  show wpAny _ _ (Builtin.SmallTypes.nextOf (.ref i1) >>= _) _ _ _
  refine wpAny_bind (nx_tup_end hh (h1.extBut s1.extBut D.i1z) (hl1.extBut s1.extBut D.l1z) hx fun g2 e s2 he => ?_)
  obtain ⟨oe, hoe, hce⟩ := he
  have z2 : IsZip g2 z TI TO .ellipsis := s2 _ _ D.i1z.symm z1
  have hez : e ≠ z := fun q => by
    subst q
    rw [z2] at hoe
    cases hoe
    simp at hce
  refine wpAny_setField_rec z2 (by simp) fun g3 _ s3 => ?_
  refine wpAny_bind (wpAny_isInstance (T := "StopIteration") (b := true) ⟨oe, s3.extBut _ _ hez hoe, hce⟩ isSubtype_stop (wpAny_pure (hQ _ fun c o c1 c2 q => s3.extBut _ _ c1 (s2 _ _ c2 (s1.extBut _ _ c1 q)))))
end

/-! ### zip(t, l) -/
abbrev zA (h : Heap) (t : Addr) : Heap := h.push { cls := .type "tuple_iterator", data := .fields #[.ref t, .int 0 0] }
section
variable {X : Cx}
end
end L2

set_option Elab.async false
set_option linter.all false
set_option maxRecDepth 100000
/-! Comprehensions of truths over things; lists and dicts that become things; t * n. -/
namespace L2
open PySem PySem.Spec PyProof.Rows
theorem IsTh.same {S : Addr → Prop} {H H' : Hp} {v : V} {d : PyData} (h : IsTh S H v d) (s : Same H H') : IsTh S H' v d := h.keep (fun b xs e => s b _ e) (fun b o _ e => s b o e) fun _ _ z _ => z
theorem IsThs.same {S : Addr → Prop} {H H' : Hp} {v : List V} {d : List PyData} (h : IsThs S H v d) (s : Same H H') : IsThs S H' v d := h.keep (fun b xs e => s b _ e) (fun b o _ e => s b o e) fun _ _ z _ => z
theorem Same.upd {H : Hp} {D : Addr} {o : HO} (h : H D = none) : Same H (upd H D o) := fun b u e => by rw [upd_ne (ne_of_none e h)]; exact e
theorem Same.updR {H H' : Hp} {D : Addr} {o : HO} (s : Same H H') (h : H' D = none) : Same H (L2.upd H' D o) := s.trans (Same.upd h)
/-- [f(x) for x in t]: truths -/
theorem comp_truths {K : PySem.W.Frag} {S : Addr → Prop} {te : TE} {a : Addr} {xs : List V} {ds : List PyData} (f : PyData → Bool) {σ0 : St} {j : Nat} {H0 : Hp} {Fin : List V → Hp → Prop} (hT : H0 a = some (.tup xs)) (th : IsThs S H0 xs ds) (hl : xs.length < sizeLine)
    (hte : ∀ v d H Q, d ∈ ds → Same H0 H → IsTh S H v d → (∀ H', Same H H' → Q (.bl (f d)) H') → te (σ0.set j (some v)) H Q)
    (fin : ∀ H', Same H0 H' → Fin (ds.map fun d => V.bl (f d)) H') : CompW (Itt K a) (gName j) tYes te Fin σ0 H0 := by
  have hlen := th.length
  refine ⟨fun i m ys σ H => m = xs.length - i ∧ i ≤ xs.length ∧ ys = (ds.take i).map (fun d => V.bl (f d)) ∧ (∀ o, σ.set j o = σ0.set j o) ∧ Same H0 H, ⟨_, rfl, Nat.zero_le _, rfl, fun _ => rfl, Same.refl _⟩, ?_⟩
  rintro i m ys σ H ⟨rfl, hi, rfl, hσ, hs⟩
  have sq : SqT K H a xs := SqT.of (hs _ _ hT)
  refine ⟨by rw [List.length_map, List.length_take]; omega, ?_⟩
  by_cases hlt : i < xs.length
  · refine .inr ⟨⟨xs, xs[i], sq, by simp [hlt]⟩, fun x H' y => ?_⟩
    obtain ⟨e, y⟩ := y
    subst e
    have hx := y xs sq
    obtain ⟨d, hd, ht⟩ := (th.same hs).get hx
    show te (σ.set j (some x)) H' _
    rw [hσ]
    refine hte x d H' _ (List.mem_of_getElem? hd) hs ht fun H2 s2 => ⟨xs.length - (i + 1), by omega, rfl, hlt, ?_, fun o => by rw [List.set_set], hs.trans s2⟩
    rw [List.take_add_one, hd]
    simp
  · have e : i = xs.length := by omega
    subst e
    refine .inl ⟨⟨xs, sq, Nat.le_refl _⟩, ?_⟩
    rw [hlen, List.take_length]
    exact fin H hs
theorem bools_of {ds : List PyData} {f : PyData → Bool} : ds.map (fun d => V.bl (f d)) = (ds.map f).map V.bl := by rw [List.map_map]; rfl
theorem all_of {ds : List PyData} {f : PyData → Bool} : (ds.map f).all id = ds.all f := by rw [List.all_map]; rfl
section
variable {X : Cx} {es : List Expr} {t : TA} {pos : Pos}
/-! ### new lists and dicts that may become things: none is the table of modules -/
theorem call_list_ofS : CallR X (.type "list") (fun xs H Q => ∃ p ys, xs = [.ref p] ∧ SqT X.K H p ys ∧ ∀ l, H l = none → l ≠ sysModules → Q (.ref l) (upd H l (.lst ys))) := by
  intro pins s σ H xs us Q I r h
  obtain ⟨p, ys, rfl, hq, q⟩ := h
  obtain ⟨u, rfl, rx⟩ := vals1 r
  cases rx
  obtain ⟨its, r', pl, hz⟩ := I.tuple hq
  have hlen := r'.length
  obtain ⟨o, ho, hc, n, hd⟩ := pl
  refine call_list_seq p (.inr rfl) ho hc hd (fun h' c' kp e => ?_) (by simp only [List.size_toArray]; omega)
  exact ⟨.ref s.heap.objs.size, _, I.laid (t' := s.toks) kp (Nat.le_refl _) (show ObjOk X.prog X.w _ h' _ (.lst ys) from ⟨hz, its, c', r', e⟩), rfl, q _ (I.hok.fresh (Nat.le_refl _)) (Nat.ne_of_gt I.big)⟩
end

/-! ### a op1 b op2 c op3 d -/
section
variable {X : Cx} {a b c d : Expr} {ta tb tc td : TE} {pos : Pos}
end

/-! ### readings that only reckon -/
def Ev (σ : St) (H : Hp) (t : TE) (v : V) : Prop := ∀ Q : VK, Q v H → t σ H Q
section
variable {σ : St} {H : Hp} {ta tb tc td : TE}
theorem ev_c {v : V} : Ev σ H (tC v) v := fun _ h => h
theorem ev_v {i : Nat} {v : V} (h : σ[i]? = some (some v)) : Ev σ H (tVar i) v := fun _ q => ⟨v, h, q⟩
theorem ev_op0 {g : Int → Int → V} {i j : Int} (a : Ev σ H ta (.int i)) (b : Ev σ H tb (.int j)) : Ev σ H (tOp (rI0 g) ta tb) (g i j) := fun _ q => a _ (b _ ⟨i, j, rfl, rfl, q⟩)
theorem ev_chain {p q : Int → Int → Bool} {i j k : Int} (a : Ev σ H ta (.int i)) (b : Ev σ H tb (.int j)) (c : Ev σ H tc (.int k)) :
    Ev σ H (tChain (rI0 fun i j => .bl (p i j)) (rI0 fun i j => .bl (q i j)) ta tb tc) (.bl (p i j && q j k)) := fun Q h => a _ (b _ ⟨i, j, rfl, rfl, _, rfl, by
  cases e : p i j with
  | false =>
    rw [e] at h
    exact iteF h
  | true =>
    rw [e] at h
    exact iteT (c _ ⟨j, k, rfl, rfl, h⟩)⟩)
end
end L2

set_option Elab.async false
set_option linter.all false
set_option maxRecDepth 100000
/-! Argument lists: that an item bears no star, once for each kind of item. -/
namespace L2
open PySem PySem.Spec PyProof.Rows
structure Plain (e : Expr) : Prop where
  eq : ∀ (es : List Expr) (env : Env), starEach (e :: es) env = (false, eval e env) :: starEach es env
theorem plain_const {c j p} : Plain (.Constant c j p) := ⟨fun _ _ => rfl⟩
theorem plain_name {x p} : Plain (.Name x p) := ⟨fun _ _ => rfl⟩
theorem plain_tuple {es k p} : Plain (.Tuple es k p) := ⟨fun _ _ => rfl⟩
theorem plain_call {f as ks p} : Plain (.Call f as ks p) := ⟨fun _ _ => rfl⟩
theorem plain_bin {a o b p} : Plain (.BinOp a o b p) := ⟨fun _ _ => rfl⟩
theorem plain_un {o a p} : Plain (.UnaryOp o a p) := ⟨fun _ _ => rfl⟩
theorem plain_sub {a b p} : Plain (.Subscript a b p) := ⟨fun _ _ => rfl⟩
theorem plain_comp {a b c p} : Plain (.ListComp a b c p) := ⟨fun _ _ => rfl⟩
theorem plain_cmp {a b c p} : Plain (.Compare a b c p) := ⟨fun _ _ => rfl⟩
section
variable {X : Cx} {e : Expr} {es : List Expr} {te : TE} {t : TA}
theorem pa_c (ha : PE X e te) (hr : PA X es t) (hp : Plain e := by first | exact plain_name | exact plain_const | exact plain_call | exact plain_tuple | exact plain_list | exact plain_bin | exact plain_sub | exact plain_un | exact plain_dict | exact plain_comp | exact plain_cmp) : PA X (e :: es) (tCons te t) :=
  pa_cons ha hr (hp.eq _ _)
end

/-! ### argument lists that don't unfold while a term is built; written ints -/
structure AA (X : Cx) (es : List Expr) (t : TA) : Prop where
  run : PA X es t
section
variable {X : Cx} {e : Expr} {es : List Expr} {te : TE} {t : TA} {pos : Pos}
theorem aa_nil : AA X [] tNil := ⟨pa_nil⟩
theorem aa_c (ha : PE X e te) (hr : AA X es t) (hp : Plain e := by first | exact plain_name | exact plain_const | exact plain_call | exact plain_tuple | exact plain_list | exact plain_bin | exact plain_sub | exact plain_un | exact plain_dict | exact plain_comp | exact plain_cmp) : AA X (e :: es) (tCons te t) :=
  ⟨pa_cons ha hr.run (hp.eq _ _)⟩
end
inductive IsInts : List Expr → List Int → Prop
  | nil : IsInts [] []
  | cons {i : Int} {j : Nat} {p : Pos} {es : List Expr} {is : List Int} : IsInts es is → IsInts (.Constant (.int i) j p :: es) (i :: is)
def tInts (is : List Int) : TA := fun _ H Q => Q (is.map V.int) H
theorem pa_ints {X : Cx} : ∀ {es : List Expr} {is : List Int}, IsInts es is → PA X es (tInts is)
  | _, _, .nil => fun _ _ _ _ H Q I h => Calls.spliced_nil ⟨[], H, I, .nil, h⟩
  | _, _, @IsInts.cons i j p es is r => by
    have h := pa_c (X := X) (pe_int (i := i) (j := j) (pos := p)) (pa_ints r)
    exact h

theorem pg_tupK {X : Cx} {es : List Expr} {k : Nat} {pos : Pos} {t : TGs} {K : PySem.W.Frag} {n : Nat} (hK : X.K = K) (hc : X.calm = true) (h : PGs X es t) (hn : (assignEach es X.env).length = n := by rfl) (hst : (assignEach es X.env).findIdx? (·.1) = none := by rfl) :
    PG X (.Tuple es k pos) (gTup K n t) := by
  subst hK
  exact pg_tup hc h hn hst
/-! ### values that don't unfold while a term is built -/
structure BE (X : Cx) (e : Expr) (t : TE) : Prop where
  run : PE X e t
section
variable {X : Cx} {e : Expr} {es : List Expr} {te : TE} {t : TA} {pos : Pos}
theorem ab_c (ha : BE X e te) (hr : AA X es t) (hp : Plain e := by first | exact plain_name | exact plain_const | exact plain_call | exact plain_tuple | exact plain_list | exact plain_bin | exact plain_sub | exact plain_un | exact plain_dict | exact plain_comp | exact plain_cmp) : AA X (e :: es) (tCons te t) := aa_c ha.run hr hp
theorem pe_be (h : BE X e te) : PE X e te := h.run
theorem be_int {i : Int} {j} : BE X (.Constant (.int i) j pos) (tC (.int i)) := ⟨pe_int⟩
theorem be_non {j} : BE X (.Constant .none j pos) (tC .non) := ⟨pe_non⟩
theorem be_lst (h : AA X es t) : BE X (.List es pos) (tLst t) := ⟨pe_lst h.run⟩
end
structure BS (X : Cx) (st : Stmt) (t : TS) : Prop where
  run : PS X st t
structure BSs (X : Cx) (sts : List Stmt) (t : TS) : Prop where
  run : PSs X sts t
section
variable {X : Cx} {st : Stmt} {rest : List Stmt} {t u : TS} {pos : Pos}
theorem pss_b (h : BSs X rest t) : PSs X rest t := h.run
theorem bss_cons (h1 : BS X st t) (h2 : BSs X rest u) : BSs X (st :: rest) (tSeq t u) := ⟨pss_cons h1.run h2.run⟩
theorem bss_one (h1 : BS X st t) : BSs X [st] t := ⟨pss_one h1.run⟩
theorem bs_set {i : Nat} {x : Str} {e : Expr} {te : TE} {pos' : Pos} (hN : X.N.Nodup) (hi : X.N[i]? = some x) (hx : Loc X.env.scope x) (he : BE X e te) (hs : swapsWith e (some (.Name x pos')) pos.line X.env = pure false := by rfl) (hf : X.fn x = true ∨ X.env.scope.names.lookup x = some .local := by first | exact .inl rfl | exact .inr rfl | assumption) :
    BS X (.Assign [.Name x pos'] e pos) (tAsg te (gName i)) := ⟨ps_set hN hi hx he.run hs hf⟩
theorem bs_ret {e : Expr} {te : TE} (he : BE X e te) : BS X (.Return (some e) pos) (tRet te) := ⟨ps_ret he.run⟩
theorem be_op {op : Operator} {r : R2} {a b : Expr} {ta tb : TE} (ho : OpR X (binaryOp op) r) (ha : BE X a ta) (hb : BE X b tb) : BE X (.BinOp a op b pos) (tOp r ta tb) := ⟨pe_op ho ha.run hb.run⟩
theorem be_ix {r : R2} {a b : Expr} {ta tb : TE} (hr : IxR X r) (ha : BE X a ta) (hb : BE X b tb) (hs : PlainIx b) : BE X (.Subscript a b pos) (tOp r ta tb) := ⟨pe_ix hr ha.run hb.run hs⟩
end
end L2

set_option Elab.async false
set_option linter.all false
set_option maxRecDepth 100000
/-! Readings that make things. -/
namespace L2
open PySem PySem.Spec PyProof.Rows
section
variable {X : Cx} {es : List Expr} {t : TA} {pos : Pos}
end
/-- the reading makes the thing d, from H on, and turns nothing -/
def ThE (S : Addr → Prop) (σ : St) (H : Hp) (t : TE) (d : PyData) : Prop := ∀ H0, Same H H0 → ∀ Q : VK, (∀ v H', Same H0 H' → IsTh S H' v d → Q v H') → t σ H0 Q
def ThA (S : Addr → Prop) (σ : St) (H : Hp) (t : TA) (ds : List PyData) : Prop := ∀ H0, Same H H0 → ∀ Q : List V → Hp → Prop, (∀ vs H', Same H0 H' → IsThs S H' vs ds → Q vs H') → t σ H0 Q
section
variable {S : Addr → Prop} {σ : St} {H : Hp}
theorem th_c {v : V} {d : PyData} (h : ∀ H', IsTh S H' v d) : ThE S σ H (tC v) d := fun H0 _ Q q => q v H0 (Same.refl _) (h H0)
theorem th_int {i : Int} : ThE S σ H (tC (.int i)) (.int i) := th_c fun _ => .int i
theorem th_non : ThE S σ H (tC .non) .none := th_c fun _ => .non
theorem th_ev {t : TE} {i : Int} (h : ∀ H', Ev σ H' t (.int i)) : ThE S σ H t (.int i) := fun H0 _ Q q => h H0 _ (q _ H0 (Same.refl _) (.int i))
theorem th_v {n : Nat} {v : V} {d : PyData} (h : σ[n]? = some (some v)) (th : IsTh S H v d) : ThE S σ H (tVar n) d := fun H0 s0 Q q => ⟨v, h, q v H0 (Same.refl _) (th.same s0)⟩
theorem th_nil : ThA S σ H tNil [] := fun H0 _ Q q => q [] H0 (Same.refl _) .nil
theorem th_cons {te : TE} {ta : TA} {d : PyData} {ds : List PyData} (h1 : ThE S σ H te d) (h2 : ThA S σ H ta ds) : ThA S σ H (tCons te ta) (d :: ds) := fun H0 s0 Q q =>
  h1 H0 s0 _ fun v H1 s1 t1 => h2 H1 (s0.trans s1) _ fun vs H2 s2 t2 => q (v :: vs) H2 (s1.trans s2) (.cons (t1.same s2) t2)
end
/-! ### one step of a reading at a time -/
section
variable {D : Ends} {σ : St} {H : Hp} {t u : TS} {te : TE} {ta : TA} {g : TG} {Q : VK}
theorem rd_next (h : D.nx σ H) : tNext D σ H := h
theorem rd_seq (h : t { D with nx := u D } σ H) : tSeq t u D σ H := h
theorem rd_asg (h : te σ H fun x H1 => g x σ H1 D.nx) : tAsg te g D σ H := h
theorem rd_ret (h : te σ H D.rt) : tRet te D σ H := h
theorem rd_lst (h : ta σ H fun xs H1 => xs.length ≤ sizeLine ∧ ∀ p, H1 p = none → Q (.ref p) (upd H1 p (.lst xs))) : tLst ta σ H Q := h
theorem rd_name {i : Nat} {v : V} {R : St → Hp → Prop} (h : R (σ.set i (some v)) H) : gName i v σ H R := h
end
end L2

set_option Elab.async false
set_option linter.all false
set_option maxRecDepth 100000
/-! Three names at once; t * n. -/
namespace L2
open PySem PySem.Spec PyProof.Rows
section
variable {X : Cx} {pos : Pos}
end
/-! ### t * n -/
theorem noFill_tup_mul : fillsNumberSlot (.type "tuple") "mul" = pure false :=
  PySem.fillsNumberSlot_seq (id := "tuple.__mul__") (r := some (.builtin "tuple.__rmul__")) F.slot_tuple_mul.lookup (by decide +kernel) F.slot_tuple_rmul.lookup (by decide +kernel)
theorem repeat_tup : seqRepeat? (.type "tuple") = pure (some (.builtin "tuple.__mul__")) := by
  have e1 := PySem.seqSlot_of (T := "tuple") (name := "__mul__") (id := "tuple.__mul__") F.slot_tuple_mul.lookup (by decide +kernel)
  have e2 := PySem.seqSlot_of (T := "tuple") (name := "__rmul__") (id := "tuple.__rmul__") F.slot_tuple_rmul.lookup (by decide +kernel)
  unfold seqRepeat?
  rw [e1, e2]
  rfl
open Builtin in
theorem rmul_int_tup (a : Int) (t : Tok) (l : Addr) (items : Array Value) (n : Nat) (dd : Option Addr) (sl : Array (Option Value)) :
    Meets (Builtin.«int.__rmul__» ⟨[.int a t, .ref l], []⟩) (fun _ R s => s.heap.get? l = some { cls := .type "tuple", dict := dd, data := .seq items n, slots := sl } ∧ R (.ok (.ret Value.notImplemented)) s) := by
  refine .of_wp fun prog w A R s h => ?_
  obtain ⟨hp, g, d, tk, os⟩ := s
  obtain ⟨hl, h⟩ := h
  wp_walk
  exact ⟨_, rfl, h⟩
open Builtin in
theorem mul_tup1 (l : Addr) (items : Array Value) (n : Nat) (u : Tok) (dd : Option Addr) (sl : Array (Option Value)) :
    Meets (Builtin.«tuple.__mul__» ⟨[.ref l, .int 1 u], []⟩) (fun _ R s => s.heap.get? l = some { cls := .type "tuple", dict := dd, data := .seq items n, slots := sl } ∧ R (.ok (.ret (.ref l))) s) := by
  refine .of_wp fun prog w A R s h => ?_
  obtain ⟨hp, g, d, tk, os⟩ := s
  obtain ⟨hl, h⟩ := h
  have f1 := PySem.AutoSeq1.idx_int
  have f2 := PySem.AutoSeq1.sub_tuple_tuple
  wp_walk
  exact ⟨_, rfl, h⟩
open Builtin in
theorem mul_tup0 (l : Addr) (items : Array Value) (n : Nat) (u : Tok) (dd : Option Addr) (sl : Array (Option Value)) (hi : items.isEmpty = false) :
    Meets (Builtin.«tuple.__mul__» ⟨[.ref l, .int 0 u], []⟩) (fun _ R s => s.heap.get? l = some { cls := .type "tuple", dict := dd, data := .seq items n, slots := sl } ∧ R (.ok (.ret (.ref s.heap.objs.size))) { s with heap := s.heap.push { cls := .type "tuple", data := .seq #[] } }) := by
  refine .of_wp fun prog w A R s h => ?_
  obtain ⟨hp, g, d, tk, os⟩ := s
  obtain ⟨hl, h⟩ := h
  have f1 := PySem.AutoSeq1.idx_int
  have f2 := PySem.AutoSeq1.sub_tuple_tuple
  have g1 : (items.isEmpty || ((0 : Int) == 1)) = false := by rw [hi]; rfl
  wp_walk
  exact ⟨_, rfl, h⟩
open Builtin in
theorem mul_tupN (l : Addr) (items : Array Value) (n : Nat) (k : Int) (u : Tok) (dd : Option Addr) (sl : Array (Option Value)) (hi : items.isEmpty = false) (h2 : 2 ≤ k) (h3 : k ≤ 1000) (h4 : items.size ≤ 1000) :
    Meets (Builtin.«tuple.__mul__» ⟨[.ref l, .int k u], []⟩) (fun _ R s => s.heap.get? l = some { cls := .type "tuple", dict := dd, data := .seq items n, slots := sl } ∧ R (.ok (.ret (.ref s.heap.objs.size))) { s with heap := s.heap.push { cls := .type "tuple", data := .seq ((List.replicate k.toNat items).foldl (· ++ ·) #[]) } }) := by
  refine .of_wp fun prog w A R s h => ?_
  obtain ⟨hp, g, d, tk, os⟩ := s
  obtain ⟨hl, h⟩ := h
  have f1 := PySem.AutoSeq1.idx_int
  have f2 := PySem.AutoSeq1.sub_tuple_tuple
  have m1 : items.size * k.toNat ≤ 1000 * 1000 := Nat.mul_le_mul h4 (by omega)
  have m2 : (items.size : Int) * k = ((items.size * k.toNat : Nat) : Int) := by rw [Int.natCast_mul, Int.toNat_of_nonneg (by omega)]
  have c0 : (decide (k < -2 ^ 63) || decide (k ≥ 2 ^ 63)) = false := by
    rw [decide_eq_false (by omega), decide_eq_false (by omega)]
    rfl
  have c1 : (items.isEmpty || k == 1) = false := by
    rw [hi, show (k == 1) = false from by simpa using (by omega : k ≠ 1)]
    rfl
  have c2 : (decide (k ≤ 0) || items.isEmpty) = false := by
    rw [hi, decide_eq_false (by omega)]
    rfl
  have c3 : ¬ ((items.size : Int) * k > (2 ^ 63 - 1) / 8) := by
    rw [m2]
    omega
  have c4 : Builtin.Tuple.tupleTooMany ((items.size : Int) * k) = false := by
    rw [m2]
    unfold Builtin.Tuple.tupleTooMany
    refine decide_eq_false ?_
    rw [sizeLine_eq]
    omega
  wp_walk
  have nf : ∀ {b : Bool}, b = false → decide (b = true) = false := fun {b} e => by rw [e]; rfl
  refine wpAny_ite_false (nf c0) ?_
  wp_walk
  refine wpAny_ite_false (nf c1) ?_
  refine wpAny_ite_false (nf c2) ?_
  refine wpAny_ite_false (decide_eq_false c3) ?_
  refine wpAny_ite_false (nf c4) ?_
  have z : (List.foldl (fun x1 x2 => x1 ++ x2) #[] (List.replicate k.toNat items)).size ≤ sizeLine := by
    have e := foldl_rep items.toList k.toNat []
    rw [List.nil_append] at e
    have e : List.foldl (fun x1 x2 => x1 ++ x2) #[] (List.replicate k.toNat items) = (List.replicate k.toNat items.toList).flatten.toArray := e
    rw [e, List.size_toArray, len_rep, Array.length_toList, sizeLine_eq, Nat.mul_comm]
    omega
  wp_walk
  exact ⟨_, rfl, h⟩
/-- a tuple that isn't empty, times 0, 1, or 2 to 1000 -/
def rRepT (K : PySem.W.Frag) : R2 := fun x y H Q => ∃ a k xs, x = .ref a ∧ y = .int k ∧ SqT K H a xs ∧ xs ≠ [] ∧ xs.length ≤ 1000 ∧
  ((k = 1 ∧ Q (.ref a) H) ∨ ((k = 0 ∨ (2 ≤ k ∧ k ≤ 1000)) ∧ ∀ p, H p = none → Q (.ref p) (upd H p (.tup (List.replicate k.toNat xs).flatten))))
theorem op_repT {X : Cx} : OpR X (binaryOp .Mult) (rRepT X.K) := by
  intro pins s σ H x y v u Q I rx ry h
  obtain ⟨a, k, xs, rfl, rfl, ha, hx, hl, h⟩ := h
  cases rx
  obtain ⟨t, rfl⟩ := ry
  obtain ⟨its, r, p1, _⟩ := I.tuple ha
  have hlen := r.length
  have hv : its ≠ [] := fun z => hx (r.nil_iff.mp z)
  have hie : its.toArray.isEmpty = false := by
    cases its with
    | nil => exact absurd rfl hv
    | cons _ _ => rfl
  obtain ⟨⟨cls, dd, data, sl⟩, ho, hc, n, hd⟩ := id p1
  simp only at hc hd
  subst hc hd
  refine wpAny_binaryOp_repeat_ref (T := "tuple") (U := "int") (by decide) ⟨_, ho, rfl⟩ (fun s' => typeIs_int s' k t) noFill_tup_mul F.fills_int_mul F.slot_int_rmul repeat_tup F.slot_int_index.lookup
    (call_meets F.slot_int_rmul (typeIs_int s k t) F.entry_int_rmul (F.args_int_rmul_2 _ _) (rmul_int_tup k t a its.toArray n dd sl) ⟨ho, rfl, ⟨_, ho, rfl⟩, ?_⟩)
  rcases h with ⟨rfl, q⟩ | ⟨rfl | ⟨k2, k3⟩, q⟩
  · exact call_meets F.slot_tuple_mul ⟨_, ho, rfl⟩ F.entry_tuple_mul (F.args_tuple_mul_2 _ _) (mul_tup1 a its.toArray n t dd sl) ⟨ho, .ref a, H, I, rfl, q⟩
  · refine call_meets F.slot_tuple_mul ⟨_, ho, rfl⟩ F.entry_tuple_mul (F.args_tuple_mul_2 _ _) (mul_tup0 a its.toArray n t dd sl hie) ⟨ho, ?_⟩
    exact ⟨.ref s.heap.objs.size, _, I.laid (t' := s.toks) (o := .tup []) (fun b ob q => Heap.get?_push_of_some _ q) (Nat.le_refl _) ⟨Nat.zero_le _, [], .nil, IsTup.new _ _⟩, rfl, q _ (I.hok.fresh (Nat.le_refl _))⟩
  · refine call_meets F.slot_tuple_mul ⟨_, ho, rfl⟩ F.entry_tuple_mul (F.args_tuple_mul_2 _ _) (mul_tupN a its.toArray n k t dd sl hie k2 k3 (by rw [List.size_toArray]; omega)) ⟨ho, ?_⟩
    have e := foldl_rep its k.toNat []
    rw [List.nil_append] at e
    have e : List.foldl (fun x1 x2 => x1 ++ x2) #[] (List.replicate k.toNat its.toArray) = (List.replicate k.toNat its).flatten.toArray := e
    rw [e]
    refine ⟨.ref s.heap.objs.size, _, I.laid (t' := s.toks) (o := .tup (List.replicate k.toNat xs).flatten) (fun b ob q => Heap.get?_push_of_some _ q) (Nat.le_refl _) ⟨?_, _, r.rep k.toNat, IsTup.new _ _⟩, rfl, q _ (I.hok.fresh (Nat.le_refl _))⟩
    rw [len_rep, sizeLine_eq]
    have := Nat.mul_le_mul (show k.toNat ≤ 1000 by omega) hl
    omega
end L2

set_option Elab.async false
set_option linter.all false
set_option maxRecDepth 100000
/-! enumerate of a tuple, walked. -/
namespace L2
open PySem PySem.Spec PyProof.Rows
section
variable {X : Cx}
end
end L2

set_option Elab.async false
set_option linter.all false
set_option maxRecDepth 100000
/-! min of a list of ints; () + t; t[a:b] where it is the whole; t[::-1]. -/
namespace L2
open PySem PySem.Spec PyProof.Rows
section
variable {X : Cx}
/-- () + u -/
def rCatT0 (K : PySem.W.Frag) : R2 := fun x y H Q => ∃ a b ys, x = .ref a ∧ y = .ref b ∧ SqT K H a [] ∧ SqT K H b ys ∧ Q (.ref b) H
open Builtin in
theorem add_tup0 (l b : Addr) (its : Array Value) (n m : Nat) (dd dd2 : Option Addr) (sl sl2 : Array (Option Value)) :
    Meets (Builtin.«tuple.__add__» ⟨[.ref l, .ref b], []⟩) (fun _ R s => s.heap.get? l = some { cls := .type "tuple", dict := dd, data := .seq #[] n, slots := sl } ∧ s.heap.get? b = some { cls := .type "tuple", dict := dd2, data := .seq its m, slots := sl2 } ∧ R (.ok (.ret (.ref b))) s) := by
  refine .of_wp fun prog w A R s h => ?_
  obtain ⟨hp, g, d, tk, os⟩ := s
  obtain ⟨hl, hb, h⟩ := h
  have f2 := PySem.AutoSeq1.sub_tuple_tuple
  wp_walk
  exact ⟨_, rfl, h⟩
theorem op_catT0 : OpR X (binaryOp .Add) (rCatT0 X.K) := by
  intro pins s σ H x y v u Q I rx ry h
  obtain ⟨a, b, ys, rfl, rfl, ha, hb, q⟩ := h
  cases rx
  cases ry
  obtain ⟨its, r1, p1, _⟩ := I.tuple ha
  obtain ⟨its2, r2, p2, _⟩ := I.tuple hb
  have e : its = [] := r1.zero
  subst e
  obtain ⟨⟨cls, dd, data, sl⟩, ho, hc, n, hd⟩ := id p1
  obtain ⟨⟨cls2, dd2, data2, sl2⟩, ho2, hc2, n2, hd2⟩ := id p2
  simp only at hc hd hc2 hd2
  subst hc hd hc2 hd2
  exact concat_meets ⟨_, ho, rfl⟩ ⟨_, ho2, rfl⟩ noFill_tuple_add seq_tuple_add PySem.F.slot_tuple_add PySem.F.entry_tuple_add (PySem.F.args_tuple_add_2 _ _) (add_tup0 a b its2.toArray n n2 dd dd2 sl sl2) ⟨ho, ho2, .ref b, H, I, rfl, q⟩
end
section
variable {prog : Program} {w : World} {A : Around} {E : Value → Shared → Prop} {s : Shared}
open HT in
theorem getItem_tup_whole {t sl : Addr} {items : Array Value} {vl vu : Value} {lo hi : Option Int} {Q : Value → Shared → Prop} (ht : IsTup s.heap t items) (hs : s.heap.IsSliceOf sl vl vu .none) (pl : IsPart vl lo) (pu : IsPart vu hi)
    (h1 : sIx items.size 0 lo = 0) (h2 : sIx items.size items.size hi = items.size) (h : Q (.ref t) s) : wpAny (model prog w) A (getItem (.ref t) (.ref sl)) Q E s := by
  obtain ⟨os, hos, hcs, hds⟩ := id hs
  have hTs : s.TypeIs (.ref sl) "slice" := ⟨os, hos, hcs⟩
  unfold getItem
  try with_reducible refine wpAny_holding ?_
  first | refine wpAny_bind (wpAny_pure ?_) | skip
  refine wpAny_bind (wpAny_sequenceKey ht.typeIs (by decide) ?_)
  refine wpAny_bind (wpAny_callSpecial?_slot (name := Str.ofString "__getitem__") ht.typeIs PyProof.Rows.slot_tuple_getitem
    (wpAny_call_entry PyProof.Rows.slot_tuple_getitem ht.typeIs entry_tuple_getitem ?_ (args_tuple_getitem _ _)))
  show wpAny _ _ (Builtin.Tuple.tupleItemsOf (.ref t) >>= _) _ _ s
  refine wpAny_bind (tupleItemsOf_ ht ?_)
  refine wpAny_bind (wpAny_typeOf hTs ?_)
  rw [if_pos (by decide)]
  refine wpAny_bind (sliceApplied_gen hs pl pu ?_)
  rw [h1, h2]
  show wpAny _ _ (if ((((0 : Nat) : Int)) == 0 && (1 : Int) == 1 && (items.size - 0) == items.size) = true then _ else _) _ _ s
  rw [if_pos (by simp)]
  unfold Builtin.Tuple.tupleIsExact
  refine wpAny_bind (wpAny_bind (wpAny_typeOf ht.typeIs (wpAny_pure ?_)))
  rw [if_pos (by decide)]
  exact wpAny_bind (wpAny_rule (wpAny_pure ⟨_, rfl, wpAny_pure h⟩))
end
section
variable {X : Cx}
/-- t[lo:hi]: the whole is t itself -/
def rSlW (K : PySem.W.Frag) : V → Option Int → Option Int → Hp → VK → Prop := fun x lo hi H Q => ∃ a xs, x = .ref a ∧ SqT K H a xs ∧
  ((HT.sIx xs.length 0 lo = 0 ∧ HT.sIx xs.length xs.length hi = xs.length) → Q (.ref a) H) ∧ (¬ (HT.sIx xs.length 0 lo = 0 ∧ HT.sIx xs.length xs.length hi = xs.length) → ∀ p, H p = none → Q (.ref p) (upd H p (.tup (cutV xs lo hi))))
theorem sl_tupW : SlR X (rSlW X.K) := by
  intro pins s σ H x v vl vu lo hi sl Q I rx hs pl pu h
  obtain ⟨a, xs, rfl, hx, q1, q2⟩ := h
  by_cases hw : HT.sIx xs.length 0 lo = 0 ∧ HT.sIx xs.length xs.length hi = xs.length
  · cases rx
    obtain ⟨its, r, ht, hz⟩ := I.tuple hx
    have hlen : its.toArray.size = xs.length := by rw [List.size_toArray]; exact r.length.symm
    refine ⟨"tuple", _, PyProof.Rows.slot_tuple_getitem.lookup, ht.typeIs, ?_⟩
    exact getItem_tup_whole ht hs pl pu (by rw [hlen]; exact hw.1) (by rw [hlen]; exact hw.2) ⟨.ref a, H, I, rfl, q1 hw⟩
  · exact sl_tup pins s σ H _ v vl vu lo hi sl Q I rx hs pl pu ⟨a, xs, rfl, hx, hw, q2 hw⟩
end
section
variable {prog : Program} {w : World} {A : Around} {E : Value → Shared → Prop} {s : Shared}
open HT in
theorem rev_pick (xs : Array Value) : ((List.range xs.size).filterMap fun (k : Nat) => xs[(((xs.size : Int) - 1) + (k : Int) * (-1)).toNat]?).toArray = xs.toList.reverse.toArray := by
  congr 1
  have e : ∀ k ∈ List.range xs.size, xs[(((xs.size : Int) - 1) + (k : Int) * (-1)).toNat]? = xs.toList.reverse.toArray[k]? := fun k hk => by
    have hk := List.mem_range.mp hk
    have e2 : xs.toList.reverse.toArray[k]? = xs.toList.reverse[k]? := by simp only [List.getElem?_toArray]
    have e3 : (((xs.size : Int) - 1) + (k : Int) * (-1)).toNat = xs.size - 1 - k := by omega
    rw [e2, e3, List.getElem?_reverse (by rw [Array.length_toList]; exact hk), Array.length_toList, ← Array.getElem?_toList]
  have fc : ∀ (l : List Nat) (f g : Nat → Option Value), (∀ k ∈ l, f k = g k) → l.filterMap f = l.filterMap g := fun l f g h => by
    induction l with
    | nil => rfl
    | cons a l ih =>
      rw [List.filterMap_cons, List.filterMap_cons, h a List.mem_cons_self, ih fun k hk => h k (List.mem_cons_of_mem _ hk)]
  rw [fc _ _ _ e]
  have := pick_gen xs.toList.reverse.toArray 0 xs.size
  have e2 : (fun (m : Nat) => xs.toList.reverse.toArray[(((0 : Nat) : Int) + (m : Int) * 1).toNat]?) = fun m => xs.toList.reverse.toArray[m]? := by
    funext m
    congr 1
    omega
  rw [e2] at this
  have this := congrArg Array.toList this
  rw [show (List.filterMap (fun m => xs.toList.reverse.toArray[m]?) (List.range xs.size)).toArray.toList = List.filterMap (fun m => xs.toList.reverse.toArray[m]?) (List.range xs.size) from rfl] at this
  rw [this]
  show List.take xs.size (List.drop 0 xs.toList.reverse) = xs.toList.reverse
  rw [List.drop_zero, List.take_of_length_le (by rw [List.length_reverse, Array.length_toList]; exact Nat.le_refl _)]
open HT in
theorem getItem_tup_rev {t sl : Addr} {items : Array Value} {u : Tok} {Q : Value → Shared → Prop} (ht : IsTup s.heap t items) (hs : s.heap.IsSliceOf sl .none .none (.int (-1) u)) (hz : items.size ≤ sizeLine)
    (h : Q (.ref s.heap.objs.size) { s with heap := s.heap.push { cls := .type "tuple", data := .seq items.toList.reverse.toArray } }) : wpAny (model prog w) A (getItem (.ref t) (.ref sl)) Q E s := by
  obtain ⟨os, hos, hcs, hds⟩ := id hs
  have hTs : s.TypeIs (.ref sl) "slice" := ⟨os, hos, hcs⟩
  unfold getItem
  try with_reducible refine wpAny_holding ?_
  first | refine wpAny_bind (wpAny_pure ?_) | skip
  refine wpAny_bind (wpAny_sequenceKey ht.typeIs (by decide) ?_)
  refine wpAny_bind (wpAny_callSpecial?_slot (name := Str.ofString "__getitem__") ht.typeIs PyProof.Rows.slot_tuple_getitem
    (wpAny_call_entry PyProof.Rows.slot_tuple_getitem ht.typeIs entry_tuple_getitem ?_ (args_tuple_getitem _ _)))
  show wpAny _ _ (Builtin.Tuple.tupleItemsOf (.ref t) >>= _) _ _ s
  refine wpAny_bind (tupleItemsOf_ ht ?_)
  refine wpAny_bind (wpAny_typeOf hTs ?_)
  rw [if_pos (by decide)]
  unfold Builtin.Slice.sliceApplied Builtin.Slice.sliceFields
  refine wpAny_bind (wpAny_bind (wpAny_bind (wpAny_field hos hds (x := .none) rfl (wpAny_bind (wpAny_field hos hds (x := .none) rfl (wpAny_bind (wpAny_field hos hds (x := .int (-1) u) rfl (wpAny_pure ?_))))))))
  refine wpAny_bind (slicePart_int ?_)
  show wpAny _ _ (if ((-1 : Int) == 0) = true then _ else _) _ _ s
  rw [if_neg (by decide)]
  refine wpAny_bind (slicePart_none (wpAny_bind (slicePart_none (wpAny_bind (wpAny_pure ?_)))))
  have ea : Builtin.Slice.sliceAdjust none none (-1) (items.size : Int) = ((items.size : Int) - 1, -1) := rfl
  show wpAny _ _ (match Builtin.Slice.sliceAdjust none none (-1) (items.size : Int) with | (lo, hi) => pure (lo, (-1 : Int), Builtin.Slice.slicePlaces lo hi (-1))) _ _ s
  rw [ea]
  have ep : Builtin.Slice.slicePlaces ((items.size : Int) - 1) (-1) (-1) = items.size := by
    unfold Builtin.Slice.slicePlaces
    rw [if_neg (by decide)]
    by_cases h0 : items.size = 0
    · rw [h0]; rfl
    · rw [if_pos (by omega)]
      show (((items.size : Int) - 1 - -1 - 1) / 1 + 1).toNat = items.size
      omega
  show wpAny _ _ (pure ((items.size : Int) - 1, (-1 : Int), Builtin.Slice.slicePlaces ((items.size : Int) - 1) (-1) (-1))) _ _ s
  rw [ep]
  refine wpAny_pure ?_
  show wpAny _ _ (if (((items.size : Int) - 1) == 0 && (-1 : Int) == 1 && items.size == items.size) = true then _ else _) _ _ s
  rw [if_neg (by simp), rev_pick]
  have htake : sizeOk (.seq items.toList.reverse.toArray) := by
    show items.toList.reverse.toArray.size ≤ sizeLine
    rw [List.size_toArray, List.length_reverse, Array.length_toList]
    exact hz
  first
    | exact wpAny_bind (m := Builtin.Tuple.tupleExact _) (wpAny_newObj_type (wpAny_pure ⟨_, rfl, wpAny_pure h⟩) htake)
    | exact wpAny_bind (m := Builtin.Tuple.tupleExact _) (wpAny_newObj_type (wpAny_bind (wpAny_pure (wpAny_pure ⟨_, rfl, wpAny_pure h⟩))) htake)
    | exact wpAny_bind (wpAny_bind (m := Builtin.Tuple.tupleExact _) (wpAny_newObj_type (wpAny_pure (wpAny_pure ⟨_, rfl, wpAny_pure h⟩)) htake))
    | exact wpAny_bind (wpAny_bind (m := Builtin.Tuple.tupleExact _) (wpAny_newObj_type (wpAny_pure ⟨_, rfl, wpAny_pure h⟩) htake))
end
section
variable {X : Cx} {e : Expr} {te : TE} {pos p2 p3 p4 : Pos} {j : Nat}
def tRev (K : PySem.W.Frag) (te : TE) : TE := fun σ H Q => te σ H fun x H1 => ∃ a xs, x = .ref a ∧ SqT K H1 a xs ∧ ∀ p, H1 p = none → Q (.ref p) (upd H1 p (.tup xs.reverse))
/-- t[::-1] -/
theorem pe_rev (he : PE X e te) : PE X (.Subscript e (.Slice none none (some (.UnaryOp .USub (.Constant (.int 1) j p4) p3)) p2) pos) (tRev X.K te) := by
  intro pins s σ H Q I h
  refine Subscript_ (thn (he pins s σ H _ I h) fun v s1 ⟨x, H1, I1, r1, q1⟩ => ?_)
  obtain ⟨a, xs, rfl, hx, q⟩ := q1
  cases r1
  refine wpAny_Slice ?_
  rw [evalPart_none]
  refine wpAny_pure (wpAny_pure ?_)
  rw [evalPart_some]
  refine thn (pe_un (X := X) (pos := p3) un_neg (pe_int (i := 1) (j := j) (pos := p4)) pins s1 σ H1 (fun z H' => z = V.int (-1) ∧ H' = H1) I1 ⟨1, rfl, rfl, rfl⟩) fun u s2 hh => ?_
  obtain ⟨z, H2, I2, r2, e1, e2⟩ := hh
  subst e1 e2
  obtain ⟨t, rfl⟩ := r2
  have I4 : Inv X pins σ H2 { s2 with heap := s2.heap.push { cls := .type "slice", data := .fields #[.none, .none, .int (-1) t] } } := I2.kept (t' := s2.toks) fun b ob q => Heap.get?_push_of_some _ q
  obtain ⟨its, r, ht, hz⟩ := I4.tuple hx
  have hlen : its.toArray.size = xs.length := by rw [List.size_toArray]; exact r.length.symm
  refine tail_any (ops := [.ref a, .ref s2.heap.objs.size]) ht.typeIs PyProof.Rows.slot_tuple_getitem.lookup ?_ (by with_unfolding_all rfl)
  refine getItem_tup_rev ht (Heap.IsSliceOf.new ..) (by rw [hlen]; exact hz) ?_
  refine ⟨.ref (s2.heap.push { cls := .type "slice", data := .fields #[.none, .none, .int (-1) t] }).objs.size, _, I4.laid (t' := s2.toks) (o := .tup xs.reverse) (fun b ob q => Heap.get?_push_of_some _ q) (Nat.le_refl _) ?_, rfl, q _ (I4.hok.fresh (Nat.le_refl _))⟩
  exact ⟨by rw [List.length_reverse]; exact hz, _, r.reverse, IsTup.new _ _⟩
end
end L2

set_option Elab.async false
set_option linter.all false
set_option maxRecDepth 100000
/-! zip of two tuples, walked. -/
namespace L2.ZT
open PySem PySem.Spec PyProof.Rows L2
section
variable {prog : Program} {w : World} {A : Around} {E : Value → Shared → Prop} {s : Shared}
theorem zip_tt_item {z TI TO i1 i2 l1 l2 : Addr} {k : Nat} {xs ys : Array Value} {x y a b : Value} {Q : Option Value → Shared → Prop} (D : ZipApart z TI TO i1 i2 l1 l2)
    (hz : IsZip s.heap z TI TO .none) (hTI : IsPair s.heap TI (.ref i1) (.ref i2)) (hTO : IsPair s.heap TO a b)
    (h1 : s.heap.IsTupleIter i1 l1 k) (h2 : s.heap.IsTupleIter i2 l2 k) (hl1 : s.heap.IsTuple l1 xs) (hl2 : s.heap.IsTuple l2 ys) (hx : xs[k]? = some x) (hy : ys[k]? = some y)
    (hQ : ∀ h', IsZip h' z TI TO (rawInt s.heap.objs.size) → IsPair h' TO x y → h'.IsTupleIter i1 l1 (k + 1) → h'.IsTupleIter i2 l2 (k + 1) → IsPair h' s.heap.objs.size x y → h'.objs.size = s.heap.objs.size + 1 →
      (∀ c o, c ≠ z → c ≠ TO → c ≠ i1 → c ≠ i2 → s.heap.get? c = some o → h'.get? c = some o) → Q (some (.ref s.heap.objs.size)) { s with heap := h' }) :
    wpAny (model prog w) A (pyNext (.ref z)) Q E s := by
  have hT : s.TypeIs (.ref z) "zip" := ⟨_, hz, rfl⟩
  unfold pyNext
  refine wpAny_bind (wpAny_attempt (wpAny_callSpecial?_slot (name := Str.ofString "__next__") hT F.slot_zip_next (wpAny_call_entry F.slot_zip_next hT F.entry_zip_next ?_ (F.args_zip_next_1 _))))
  show wpAny _ _ (field (.ref z) 2 >>= _) _ _ _
  refine wpAny_bind (wpAny_field hz rfl (x := .bool false) rfl ?_)
  show wpAny _ _ (field (.ref z) 3 >>= _) _ _ _
  refine wpAny_bind (wpAny_field hz rfl (x := .ref TI) rfl (wpAny_bind (wpAny_seqItems hTI rfl ?_)))
  show wpAny _ _ (Builtin.SmallTypes.ownedTupleIsFree (.ref z) >>= _) _ _ _
  refine wpAny_bind ?_
  unfold Builtin.SmallTypes.ownedTupleIsFree
  refine wpAny_bind (wpAny_field hz rfl (x := .none) rfl (wpAny_pure ?_))
  simp only [if_true]
  refine wpAny_bind (wpAny_rule (wpAny_bind (wpAny_field hz rfl (x := .ref TO) rfl (wpAny_bind (wpAny_setField_rec hz (by simp) fun g1 z1 s1 => ?_)))))
  replace z1 : IsZip g1 z TI TO .ellipsis := z1
  refine wpAny_bind ?_
  simp only [List.zipIdx_cons, List.zipIdx_nil, List.forIn_cons, List.forIn_nil]
  refine wpAny_bind (wpAny_bind (wpAny_onRaise ?_))
  show wpAny _ _ (Builtin.SmallTypes.nextOf (.ref i1) >>= _) _ _ _
  refine wpAny_bind (nx_tup (h1.extBut s1.extBut D.i1z) (hl1.extBut s1.extBut D.l1z) hx fun g2 q1 s2 => wpAny_pure ?_)
  have o2 : IsPair g2 TO a b := s2.extBut _ _ D.TOi1 (s1.extBut _ _ D.TOz hTO)
  refine wpAny_bind (wpAny_seqItems o2 rfl (wpAny_bind (wpAny_updateSeq_pair o2 fun g3 o3 s3 => ?_)))
  replace o3 : IsPair g3 TO x b := o3
  refine wpAny_bind (wpAny_letGo (wpAny_pure (wpAny_bind (wpAny_bind (wpAny_onRaise ?_)))))
  show wpAny _ _ (Builtin.SmallTypes.nextOf (.ref i2) >>= _) _ _ _
  refine wpAny_bind (nx_tup (((h2.extBut s1.extBut D.i2z).extBut s2.extBut D.i12.symm).extBut s3.extBut D.TOi2.symm) (((hl2.extBut s1.extBut D.l2z).extBut s2.extBut D.l2i1).extBut s3.extBut D.l2TO) hy fun g4 q2 s4 => wpAny_pure ?_)
  have o4 : IsPair g4 TO x b := s4.extBut _ _ D.TOi2 o3
  refine wpAny_bind (wpAny_seqItems o4 rfl (wpAny_bind (wpAny_updateSeq_pair o4 fun g5 o5 s5 => ?_)))
  replace o5 : IsPair g5 TO x y := o5
  refine wpAny_bind (wpAny_letGo (wpAny_pure (wpAny_pure (wpAny_bind (wpAny_seqItems o5 rfl (wpAny_bind (wpAny_newTuple ?_)))))))
  have hsz : g5.objs.size = s.heap.objs.size := by rw [s5.1, s4.1, s3.1, s2.1, s1.1]
  have z5 : IsZip g5 z TI TO .ellipsis := s5.extBut _ _ D.TOz.symm (s4.extBut _ _ D.i2z.symm (s3.extBut _ _ D.TOz.symm (s2.extBut _ _ D.i1z.symm z1)))
  have k5 : ∀ c o, c ≠ z → c ≠ TO → c ≠ i1 → c ≠ i2 → s.heap.get? c = some o → g5.get? c = some o := fun c o c1 c2 c3 c4 e => s5.extBut _ _ c2 (s4.extBut _ _ c4 (s3.extBut _ _ c2 (s2.extBut _ _ c3 (s1.extBut _ _ c1 e))))
  have p1 : g5.IsTupleIter i1 l1 (k + 1) := ((q1.extBut s3.extBut D.TOi1.symm).extBut s4.extBut D.i12).extBut s5.extBut D.TOi1.symm
  have p2 : g5.IsTupleIter i2 l2 (k + 1) := q2.extBut s5.extBut D.TOi2.symm
  have zlt : z < g5.objs.size := Heap.lt_size z5
  show wpAny _ _ (Builtin.SmallTypes.ownedTupleHandOut (.ref z) (.ref g5.objs.size) >>= _) _ _ _
  refine wpAny_bind ?_
  unfold Builtin.SmallTypes.ownedTupleHandOut
  have z6 : IsZip (g5.push { cls := .type "tuple", data := .seq #[x, y] }) z TI TO .ellipsis := Heap.get?_push_of_some _ z5
  refine wpAny_bind (wpAny_setField_rec z6 (by simp) fun g7 z7 s7 => ?_)
  replace z7 : IsZip g7 z TI TO (rawInt g5.objs.size) := z7
  refine wpAny_setField_rec z7 (by simp) fun g8 z8 s8 => ?_
  replace z8 : IsZip g8 z TI TO (rawInt g5.objs.size) := z8
  have up : ∀ c o, c ≠ z → g5.get? c = some o → g8.get? c = some o := fun c o c1 e => s8.extBut _ _ c1 (s7.extBut _ _ c1 (Heap.get?_push_of_some _ e))
  have t8 : IsPair g8 g5.objs.size x y := s8.extBut _ _ (Nat.ne_of_gt zlt) (s7.extBut _ _ (Nat.ne_of_gt zlt) (Heap.get?_push_size _ rfl))
  have n8 : g8.objs.size = g5.objs.size + 1 := by rw [s8.1, s7.1, Heap.size_push]
  rw [hsz] at z8 t8 n8
  refine wpAny_pure ⟨_, rfl, wpAny_pure ?_⟩
  show Q (some (.ref g5.objs.size)) _
  rw [hsz]
  exact hQ g8 z8 (up _ _ D.TOz o5) (p1.at fun o e => up _ o D.i1z e) (p2.at fun o e => up _ o D.i2z e) t8 n8 fun c o c1 c2 c3 c4 e => up c o c1 (k5 c o c1 c2 c3 c4 e)
end
abbrev zB (h : Heap) (t l : Addr) : Heap := (zA h t).push { cls := .type "tuple_iterator", data := .fields #[.ref l, .int 0 0] }
abbrev zC (h : Heap) (t l : Addr) : Heap := (zB h t l).push { cls := .type "tuple", data := .seq #[.ref h.objs.size, .ref (zA h t).objs.size] }
abbrev zD (h : Heap) (t l : Addr) : Heap := (zC h t l).push { cls := .type "tuple", data := .seq #[.none, .none] }
abbrev zE (h : Heap) (t l : Addr) : Heap := (zD h t l).push { cls := .type "zip", data := .fields #[.none, .bool false, .bool false, .ref (zB h t l).objs.size, .ref (zC h t l).objs.size] }
theorem meets_zip_tt (t l : Addr) (xs ys : Array Value) :
    Meets (Builtin.«zip.__new__» ⟨[.type "zip", .ref t, .ref l], []⟩) (fun _ R s => s.heap.IsTuple t xs ∧ s.heap.IsTuple l ys ∧ R (.ok (.ret (.ref (zD s.heap t l).objs.size))) { s with heap := zE s.heap t l }) :=
  .of_wp fun prog w A R s h => by
    obtain ⟨hp, g, d, tk, os⟩ := s
    obtain ⟨ht, hl, h⟩ := h
    have hsub := sub_zip
    have hT : Heap.IsTuple (Shared.heap ⟨hp, g, d, tk, os⟩) t xs := ht
    have hL : Heap.IsTuple (Shared.heap ⟨hp.push { cls := .type "tuple_iterator", data := .fields #[.ref t, .int 0 0] }, g, d, tk, os⟩) l ys := hl.at fun o e => Heap.get?_push_of_some _ e
    wp_walk using wpAny_pyIter_tuple hT, wpAny_pyIter_tuple hL
    exact ⟨_, rfl, h⟩
theorem call_zip_tt {prog : Program} {w : World} {A : Around} {E : Value → Shared → Prop} {s : Shared} {t l : Addr} {xs ys : Array Value} {Q : Value → Shared → Prop} (ht : s.heap.IsTuple t xs) (hl : s.heap.IsTuple l ys)
    (h : ∀ h', IsZip h' (s.heap.objs.size + 4) (s.heap.objs.size + 2) (s.heap.objs.size + 3) .none → IsPair h' (s.heap.objs.size + 2) (.ref s.heap.objs.size) (.ref (s.heap.objs.size + 1)) → IsPair h' (s.heap.objs.size + 3) .none .none →
      h'.IsTupleIter s.heap.objs.size t 0 → h'.IsTupleIter (s.heap.objs.size + 1) l 0 → (∀ c o, s.heap.get? c = some o → h'.get? c = some o) → Q (.ref (s.heap.objs.size + 4)) { s with heap := h' }) :
    wpAny (model prog w) A (call (.type "zip") [.ref t, .ref l]) Q E s := by
  refine callType_new F.called_zip (by decide) (F.typeCall_zip_2 _ _) (F.newCall_zip_2 _ _) (fun obj => F.args_object_init_3 obj _ _) F.entry_zip_new (meets_zip_tt t l xs ys) ⟨ht, hl, ?_⟩
  have e1 : (zA s.heap t).objs.size = s.heap.objs.size + 1 := Heap.size_push ..
  have e2 : (zB s.heap t l).objs.size = s.heap.objs.size + 2 := by rw [Heap.size_push, e1]
  have e3 : (zC s.heap t l).objs.size = s.heap.objs.size + 3 := by rw [Heap.size_push, e2]
  have e4 : (zD s.heap t l).objs.size = s.heap.objs.size + 4 := by rw [Heap.size_push, e3]
  have up4 : ∀ {c o}, (zD s.heap t l).get? c = some o → (zE s.heap t l).get? c = some o := fun e => Heap.get?_push_of_some _ e
  have up3 : ∀ {c o}, (zC s.heap t l).get? c = some o → (zE s.heap t l).get? c = some o := fun e => up4 (Heap.get?_push_of_some _ e)
  have up2 : ∀ {c o}, (zB s.heap t l).get? c = some o → (zE s.heap t l).get? c = some o := fun e => up3 (Heap.get?_push_of_some _ e)
  have up1 : ∀ {c o}, (zA s.heap t).get? c = some o → (zE s.heap t l).get? c = some o := fun e => up2 (Heap.get?_push_of_some _ e)
  have g5 : (zE s.heap t l).get? (zD s.heap t l).objs.size = some _ := Heap.get?_push_size _ rfl
  have g4 : (zE s.heap t l).get? (zC s.heap t l).objs.size = some _ := up4 (Heap.get?_push_size _ rfl)
  have g3 : (zE s.heap t l).get? (zB s.heap t l).objs.size = some _ := up3 (Heap.get?_push_size _ rfl)
  have g2 : (zE s.heap t l).get? (zA s.heap t).objs.size = some _ := up2 (Heap.get?_push_size _ rfl)
  have g1 : (zE s.heap t l).get? s.heap.objs.size = some _ := up1 (Heap.get?_push_size _ rfl)
  show _ ∧ _
  rw [e4, e2, e3] at g5
  rw [e2, e1] at g3
  rw [e3] at g4
  rw [e1] at g2
  rw [e4]
  exact ⟨⟨_, g5, rfl⟩, h _ g5 g3 g4 ⟨_, g1, rfl, rfl⟩ ⟨_, g2, rfl, rfl⟩ fun c o x => up1 (Heap.get?_push_of_some _ x)⟩
/-- the pairs of the tuple at a and the list at b -/
def Itz (K : PySem.W.Frag) (a b : Addr) : It :=
  ⟨fun i H => ∃ xs ys x y, SqT K H a xs ∧ SqT K H b ys ∧ xs[i]? = some x ∧ ys[i]? = some y,
   fun i H v H' => ∃ T, H T = none ∧ v = .ref T ∧ ∀ xs ys, SqT K H a xs → SqT K H b ys → ∃ x y, xs[i]? = some x ∧ ys[i]? = some y ∧ H' = upd H T (.tup [x, y]),
   fun i H => ∃ xs, SqT K H a xs ∧ xs.length ≤ i⟩
def tnz (z TI TO i1 i2 a b : Addr) (i : Nat) (h : Heap) : Prop := IsZip h z TI TO .none ∧ IsPair h TI (.ref i1) (.ref i2) ∧ (∃ u v, IsPair h TO u v) ∧ h.IsTupleIter i1 a i ∧ h.IsTupleIter i2 b i
theorem turn_zip {P : Program} {w : World} {K : PySem.W.Frag} {es : List Expr} {k : Nat} {pos : Pos} {z TI TO i1 i2 a b : Addr} (D : ZipApart z TI TO i1 i2 a b) :
    Turn P w K (.Tuple es k pos) (Itz K a b) [z, TI, TO, i1, i2] z (tnz z TI TO i1 i2 a b) where
  mem := by simp
  obj := fun i h st c hc => by
    obtain ⟨s1, s2, ⟨u, v, s3⟩, ⟨o4, s4, c4, d4⟩, ⟨o5, s5, c5, d5⟩⟩ := st
    simp only [List.mem_cons, List.not_mem_nil, or_false] at hc
    rcases hc with e | e | e | e | e <;> subst e
    · exact ⟨_, s1, fun v q => by cases q⟩
    · exact ⟨_, s2, fun v q => by cases q⟩
    · exact ⟨_, s3, fun v q => by cases q⟩
    · exact ⟨_, s4, fun v q => by rw [d4] at q; cases q⟩
    · exact ⟨_, s5, fun v q => by rw [d5] at q; cases q⟩
  keep := fun i h h' st kp => by
    obtain ⟨s1, s2, ⟨u, v, s3⟩, s4, s5⟩ := st
    exact ⟨kp z (by simp) _ s1, kp TI (by simp) _ s2, ⟨u, v, kp TO (by simp) _ s3⟩, s4.at fun o e => kp i1 (by simp) o e, s5.at fun o e => kp i2 (by simp) o e⟩
  item := by
    intro X hP hw hK hc i pins s σ H E I hf st hg
    subst hP hw hK
    obtain ⟨s1, s2, ⟨u, v, s3⟩, s4, s5⟩ := st
    obtain ⟨xs, ys, x, y, hxs, hys, hx, hy⟩ := hg
    obtain ⟨its, rv, p, _⟩ := I.tuple hxs
    obtain ⟨jts, rw', q, _⟩ := I.tuple hys
    obtain ⟨ux, hux, rx⟩ := rv.get hx
    obtain ⟨uy, huy, ry⟩ := rw'.get hy
    refine zip_tt_item D s1 s2 s3 s4 s5 (show s.heap.IsTuple a its.toArray from p) (show s.heap.IsTuple b jts.toArray from q) (x := ux) (y := uy) (by simpa using hux) (by simpa using huy) fun h1 g1 g2 g3 g4 g5 g6 kp => ?_
    refine ⟨_, rfl, ?_⟩
    refine wpAny_letOwnedTupleGo_zip g1 fun h2 e1 sb => ?_
    have ne : ∀ c, c ∈ [z, TI, TO, i1, i2] → c ≠ s.heap.objs.size := fun c hc' e => by
      obtain ⟨f0, f1, f2, f3, f4, f5⟩ := hf c hc'
      have : ∃ o, s.heap.get? c = some o := by
        simp only [List.mem_cons, List.not_mem_nil, or_false] at hc'
        rcases hc' with q | q | q | q | q <;> subst q
        · exact ⟨_, s1⟩
        · exact ⟨_, s2⟩
        · exact ⟨_, s3⟩
        · exact let ⟨o, h, _⟩ := s4; ⟨o, h⟩
        · exact let ⟨o, h, _⟩ := s5; ⟨o, h⟩
      obtain ⟨o, ho⟩ := this
      exact absurd (Heap.lt_size ho) (by rw [e]; exact Nat.lt_irrefl _)
    have hT : H s.heap.objs.size = none := I.hok.fresh (Nat.le_refl _)
    have kept : ∀ c o, c ∉ [z, TO, i1, i2] → s.heap.get? c = some o → h2.get? c = some o := fun c o hc' e =>
      sb.extBut _ _ (fun q => hc' (by simp [q])) (kp c o (fun q => hc' (by simp [q])) (fun q => hc' (by simp [q])) (fun q => hc' (by simp [q])) (fun q => hc' (by simp [q])) e)
    have inF : ∀ c, c ∈ [z, TO, i1, i2] → c ∈ [z, TI, TO, i1, i2] := fun c hc' => by
      simp only [List.mem_cons, List.not_mem_nil, or_false] at hc' ⊢
      rcases hc' with q | q | q | q <;> simp [q]
    have trk : ∀ c o, H c = some o → c ∉ [z, TO, i1, i2] := fun c o e hc' => by
      have := (hf c (inF c hc')).1
      rw [e] at this; cases this
    have newT : h2.get? s.heap.objs.size = some { cls := .type "tuple", data := .seq #[ux, uy] } := sb.extBut _ _ (Ne.symm (ne z (by simp))) g5
    have hok2 : HOk X.prog X.w (upd H s.heap.objs.size (.tup [x, y])) h2 := fun c o e => by
      by_cases hb : c = s.heap.objs.size
      · subst hb
        rw [upd_same] at e
        cases e
        exact ⟨by show 2 ≤ sizeLine; decide, [ux, uy], .cons rx (.cons ry .nil), _, newT, rfl, _, rfl⟩
      · rw [upd_ne hb] at e
        refine (I.hok c o e).stay (fun d v hd q => kept d v ?_ q) (fun d q => by rw [upd_ne (ne_of_none q hT)]; exact q) fun d l q => by rw [upd_ne (ne_of_none q hT)]; exact q
        rcases hd with e' | e'
        · rw [e']; exact trk c o e
        · exact trk d _ e'
    have I2 : Inv X pins σ (upd H s.heap.objs.size (.tup [x, y])) { s with heap := h2 } := by
      refine I.step (g' := s.gens) (d' := s.drawn) (t' := s.toks) (ch := [z, TO, i1, i2]) (fun c hc' => ?_) (fun c o _ _ hn e _ => kept c o hn e) (fun c o _ _ hn e _ => ⟨o.slots, kept c o hn e⟩)
        (fun c o _ e n => by rw [upd_ne (Nat.ne_of_lt (Heap.lt_size e))]; exact n) (fun c o hn e => ⟨o, kept c o hn e⟩) (fun c l e => by rw [upd_ne (ne_of_none e hT)]; exact e) (fun c o l e => by rw [upd_ne (ne_of_none e hT)]; exact e)
        (fun c l e => ⟨#[], by rw [upd_ne (ne_of_none e hT), e]; simp⟩) (fun m hm => ?_) hok2 I.bare
      · obtain ⟨f0, f1, f2, f3, f4, f5⟩ := hf c (inF c hc')
        exact ⟨f3, f1, f4, f5⟩
      · obtain ⟨o, es', ep, ho, r⟩ := hm
        refine ⟨o, es', ep, kept _ o (fun hc' => ?_) ho, r⟩
        exact (hf _ (inF _ hc')).2.1 rfl
    refine ⟨.ref s.heap.objs.size, _, I2, rfl, ⟨s.heap.objs.size, hT, rfl, fun xs' ys' e1' e2' => ⟨x, y, ?_, ?_, rfl⟩⟩, ⟨e1, ?_, ?_, ?_, ?_⟩, fun c hc' => ?_⟩
    · rw [I.tuple_inj e1' hxs]; exact hx
    · rw [I.tuple_inj e2' hys]; exact hy
    · exact sb.extBut _ _ D.TIz (kp _ _ D.TIz D.TITO D.TIi1 D.TIi2 s2)
    · exact ⟨_, _, sb.extBut _ _ D.TOz g2⟩
    · exact g3.extBut sb.extBut D.i1z
    · exact g4.extBut sb.extBut D.i2z
    · rw [upd_ne (ne c hc')]
      exact (hf c hc').1
  done := by
    intro X hP hw hK hc i pins s σ H E I hf st hg
    subst hP hw hK
    obtain ⟨s1, s2, ⟨u, v, s3⟩, s4, s5⟩ := st
    obtain ⟨xs, hxs, hlen⟩ := hg
    obtain ⟨its, rv, p, _⟩ := I.tuple hxs
    have hl := rv.length
    refine L2.zip_tl_end (I.ok.hd hc) D s1 s2 s3 s4 (show s.heap.IsTuple a its.toArray from p) (by simp; omega) fun h' kp => ⟨rfl, ?_⟩
    refine I.step (h' := h') (H' := H) (g' := s.gens) (d' := s.drawn) (t' := s.toks) (ch := [z, i1]) (fun c hc' => ?_) (fun c o _ _ hn e _ => kp c o (fun q => hn (by simp [q])) (fun q => hn (by simp [q])) e)
      (fun c o _ _ hn e _ => ⟨o.slots, kp c o (fun q => hn (by simp [q])) (fun q => hn (by simp [q])) e⟩) (fun c o _ e n => n) (fun c o hn e => ⟨o, kp c o (fun q => hn (by simp [q])) (fun q => hn (by simp [q])) e⟩)
      (fun _ _ e => e) (fun _ _ _ e => e) (fun c l e => ⟨#[], by rw [e]; simp⟩) (fun m hm => ?_) (fun c o e => ?_) I.bare
    · have : c ∈ [z, TI, TO, i1, i2] := by
        simp only [List.mem_cons, List.not_mem_nil, or_false] at hc' ⊢
        rcases hc' with q | q <;> simp [q]
      obtain ⟨f0, f1, f2, f3, f4, f5⟩ := hf c this
      exact ⟨f3, f1, f4, f5⟩
    · obtain ⟨o, es', ep, ho, r⟩ := hm
      exact ⟨o, es', ep, kp _ o (Ne.symm (hf z (by simp)).2.1) (Ne.symm (hf i1 (by simp)).2.1) ho, r⟩
    · have nn : ∀ d v c', c' ∈ [z, TI, TO, i1, i2] → H d = some v → d ≠ c' := fun d v c' hc' q e' => by
        have := (hf c' hc').1
        rw [← e', q] at this
        cases this
      have nz : ∀ d v, H d = some v → d ≠ z ∧ d ≠ i1 := fun d v q => ⟨nn d v z (by simp) q, nn d v i1 (by simp) q⟩
      refine (I.hok c o e).stay (fun d v hd q => ?_) (fun _ q => q) fun _ _ q => q
      rcases hd with e' | e'
      · rw [e'] at q ⊢; exact kp c v (nz c o e).1 (nz c o e).2 q
      · exact kp d v (nz d _ e').1 (nz d _ e').2 q
  self := fun _ _ _ _ _ st h => wpAny_pyIter_zip st.1 h
section
variable {X : Cx}
def iZip (K : PySem.W.Frag) (t : TA) : TI := fun σ H R => t σ H fun vs H1 => ∃ a b xs ys, vs = [.ref a, .ref b] ∧ SqT K H1 a xs ∧ SqT K H1 b ys ∧ R (Itz K a b) H1
theorem pi_zip {es : List Expr} {k : Nat} {tp : Pos} {a b : Expr} {ta : TA} {p pos : Pos} (hg : Gl X "zip") (hm : X.mg "zip" = none) (ha : PA X [a, b] ta) (hs : starEach [a, b] X.env = [(false, eval a X.env), (false, eval b X.env)] := by rfl) (hs2 : starEach [b] X.env = [(false, eval b X.env)] := by rfl) :
    PI X (.Tuple es k tp) (.Call (.Name "zip" p) [a, b] [] pos) (iZip X.K ta) := by
  intro pins s σ H R I h
  refine Call_ (ld_blt I hg hm boot_zip (PyProof.Rows.callWith_type1 (thn (ha pos pins s σ H _ I h) fun us s1 ⟨vs, H1, I1, r1, q1⟩ => ?_) (by rw [hs, hs2]) (by rw [hs2]; rfl)))
  obtain ⟨x, y, xs, ys, e, hx, hy, q⟩ := q1
  subst e
  obtain ⟨u, v, rfl, ru, rv⟩ := vals2 r1
  cases ru
  cases rv
  obtain ⟨its, _, p1, _⟩ := I1.tuple hx
  obtain ⟨jts, _, p2, _⟩ := I1.tuple hy
  refine call_zip_tt (show s1.heap.IsTuple x its.toArray from p1) (show s1.heap.IsTuple y jts.toArray from p2) fun h' z1 z2 z3 z4 z5 kp => ?_
  refine wpAny_pyIter_zip z1 ?_
  have lx : x < s1.heap.objs.size := by obtain ⟨_, e, _⟩ := (show s1.heap.IsTuple x its.toArray from p1); exact Heap.lt_size e
  have ly : y < s1.heap.objs.size := by obtain ⟨_, e, _⟩ := (show s1.heap.IsTuple y jts.toArray from p2); exact Heap.lt_size e
  refine ⟨_, _, _, _, H1, rfl, I1.kept (t' := s1.toks) kp, turn_zip (zipApart_new lx ly), ⟨z1, z2, ⟨_, _, z3⟩, z4, z5⟩, fun c hc => ?_, q⟩
  have hle : s1.heap.objs.size ≤ c := by
    simp only [List.mem_cons, List.not_mem_nil, or_false] at hc
    rcases hc with q | q | q | q | q <;> subst q
    · exact Nat.le_add_right _ 4
    · exact Nat.le_add_right _ 2
    · exact Nat.le_add_right _ 3
    · exact Nat.le_refl _
    · exact Nat.le_add_right _ 1
  exact I1.fpOk hle (I1.hok.fresh hle)
end
end L2.ZT

set_option Elab.async false
set_option linter.all false
set_option maxRecDepth 100000
/-! enumerate of a list, walked. -/
namespace L2.EL
open PySem PySem.Spec PyProof.Rows L2
abbrev zL (h : Heap) (l : Addr) : Heap := h.push { cls := .type "list_iterator", data := .fields #[.ref l, .int 0 0] }
theorem meets_enum_lst (t : Addr) (its : Array Value) :
    Meets (Builtin.«enumerate.__new__» ⟨[.type "enumerate", .ref t], []⟩) (fun _ R s => s.heap.IsList t its ∧
      R (.ok (.ret (.ref (zL s.heap t).objs.size))) { s with heap := (zL s.heap t).push { cls := .type "enumerate", data := .fields #[.none, .bool false, .ref s.heap.objs.size, rawInt 0, .none, .none] } }) :=
  .of_wp fun prog w A R s h => by
    obtain ⟨hp, g, d, tk, os⟩ := s
    obtain ⟨ht, h⟩ := h
    have hsub := sub_enumerate
    have hT : Heap.IsList (Shared.heap ⟨hp, g, d, tk, os⟩) t its := ht
    wp_walk
    refine wpAny_stack_any fun st => wpAny_pure ?_
    split
    · rename_i c _ _ _ _ _
      cases (c == Value.type "enumerate")
      · wp_walk using wpAny_pyIter_list hT
        exact ⟨_, rfl, h⟩
      · wp_walk using wpAny_pyIter_list hT
        exact ⟨_, rfl, h⟩
    · wp_walk using wpAny_pyIter_list hT
      exact ⟨_, rfl, h⟩
theorem call_enum_lst {prog : Program} {w : World} {A : Around} {E : Value → Shared → Prop} {s : Shared} {t : Addr} {its : Array Value} {Q : Value → Shared → Prop} (ht : s.heap.IsList t its)
    (h : ∀ h', IsEnum h' (s.heap.objs.size + 1) s.heap.objs.size 0 .none → h'.IsListIter s.heap.objs.size t 0 → (∀ c o, s.heap.get? c = some o → h'.get? c = some o) → Q (.ref (s.heap.objs.size + 1)) { s with heap := h' }) :
    wpAny (model prog w) A (call (.type "enumerate") [.ref t]) Q E s := by
  refine callType_new F.called_enumerate (by decide) (F.typeCall_enumerate_1 _) (F.newCall_enumerate_1 _) (fun obj => F.args_object_init_2 obj _) F.entry_enumerate_new (meets_enum_lst t its) ⟨ht, ?_⟩
  have e1 : (zL s.heap t).objs.size = s.heap.objs.size + 1 := Heap.size_push ..
  have g2 := Heap.get?_push_size (zL s.heap t) (o := { cls := .type "enumerate", data := .fields #[.none, .bool false, .ref s.heap.objs.size, rawInt 0, .none, .none] }) rfl
  have g1 := Heap.get?_push_of_some { cls := .type "enumerate", data := .fields #[.none, .bool false, .ref s.heap.objs.size, rawInt 0, .none, .none] } (Heap.get?_push_size s.heap (o := { cls := .type "list_iterator", data := .fields #[.ref t, .int 0 0] }) rfl)
  show _ ∧ _
  rw [e1] at g2 ⊢
  exact ⟨⟨_, g2, rfl⟩, h _ g2 ⟨_, g1, rfl, rfl⟩ fun c o x => Heap.get?_push_of_some _ (Heap.get?_push_of_some _ x)⟩
/-- the numbers and items of the tuple at a -/
def Ite (K : PySem.W.Frag) (a : Addr) : It :=
  ⟨fun i H => ∃ xs x, SqL K H a xs ∧ xs[i]? = some x,
   fun i H v H' => ∃ T, H T = none ∧ v = .ref T ∧ ∀ xs, SqL K H a xs → ∃ x, xs[i]? = some x ∧ H' = upd H T (.tup [.int i, x]),
   fun i H => ∃ xs, SqL K H a xs ∧ xs.length ≤ i⟩
def tne (e it a : Addr) (i : Nat) (h : Heap) : Prop := (∃ old, IsEnum h e it i old) ∧ h.IsListIter it a i
theorem turn_enum {P : Program} {w : World} {K : PySem.W.Frag} {es : List Expr} {k : Nat} {pos : Pos} {e it a : Addr} (nei : e ≠ it) (nea : e ≠ a) (nai : a ≠ it) :
    Turn P w K (.Tuple es k pos) (Ite K a) [e, it] e (tne e it a) where
  mem := by simp
  obj := fun i h st c hc => by
    obtain ⟨⟨old, s1⟩, ⟨o4, s4, c4, d4⟩⟩ := st
    simp only [List.mem_cons, List.not_mem_nil, or_false] at hc
    rcases hc with z | z <;> subst z
    · exact ⟨_, s1, fun v q => by cases q⟩
    · exact ⟨_, s4, fun v q => by rw [d4] at q; cases q⟩
  keep := fun i h h' st kp => by
    obtain ⟨⟨old, s1⟩, s4⟩ := st
    exact ⟨⟨old, kp e (by simp) _ s1⟩, s4.at fun o z => kp it (by simp) o z⟩
  item := by
    intro X hP hw hK hc i pins s σ H E I hf st hg
    subst hP hw hK
    obtain ⟨⟨old, s1⟩, s4⟩ := st
    obtain ⟨xs, x, hxs, hx⟩ := hg
    obtain ⟨its, rv, p, _⟩ := I.list hxs
    obtain ⟨ux, hux, rx⟩ := rv.get hx
    have hlt : i < its.toArray.size := by
      have := (List.getElem?_eq_some_iff.mp hux).1
      simpa using this
    have D := Draws.list (prog := X.prog) (w := X.w) (A := X.A.in1) (I.ok.hd hc) it a nai its.toArray
    refine wpAny_pyNext_enum_itemD D s1 ⟨s4, p.isList⟩ hlt nei (by simp [nei, nea]) fun u h1 tk hu g1 g3 g5 g6 kp => ?_
    have eu : u = ux := by
      have hu : its.toArray[i]? = some u := hu
      rw [List.getElem?_toArray, hux] at hu
      exact (Option.some.inj hu).symm
    subst eu
    refine ⟨_, rfl, ?_⟩
    refine wpAny_letOwnedTupleGo_enum g1 fun h2 e1 sb => ?_
    have live : ∀ c, c ∈ [e, it] → ∃ o, s.heap.get? c = some o := fun c hc' => by
      simp only [List.mem_cons, List.not_mem_nil, or_false] at hc'
      rcases hc' with q | q <;> subst q
      · exact ⟨_, s1⟩
      · exact let ⟨o, h, _⟩ := s4; ⟨o, h⟩
    have ne : ∀ c, c ∈ [e, it] → c ≠ s.heap.objs.size := fun c hc' z => by
      obtain ⟨o, ho⟩ := live c hc'
      exact absurd (Heap.lt_size ho) (by rw [z]; exact Nat.lt_irrefl _)
    have hT : H s.heap.objs.size = none := I.hok.fresh (Nat.le_refl _)
    have kept : ∀ c o, c ∉ [e, it] → s.heap.get? c = some o → h2.get? c = some o := fun c o hc' z =>
      sb.extBut _ _ (fun q => hc' (by simp [q])) (kp c o (fun q => hc' (by simp [q])) (fun q => hc' (by simp [q])) z)
    have trk : ∀ c o, H c = some o → c ∉ [e, it] := fun c o z hc' => by
      have := (hf c hc').1
      rw [z] at this; cases this
    have newT : h2.get? s.heap.objs.size = some { cls := .type "tuple", data := .seq #[.int i tk, u] } := sb.extBut _ _ (Ne.symm (ne e (by simp))) g5
    have hok2 : HOk X.prog X.w (upd H s.heap.objs.size (.tup [.int i, x])) h2 := fun c o z => by
      by_cases hb : c = s.heap.objs.size
      · subst hb
        rw [upd_same] at z
        cases z
        exact ⟨by show 2 ≤ sizeLine; decide, [.int i tk, u], .cons ⟨tk, rfl⟩ (.cons rx .nil), _, newT, rfl, _, rfl⟩
      · rw [upd_ne hb] at z
        refine (I.hok c o z).stay (fun d v hd q => kept d v ?_ q) (fun d q => by rw [upd_ne (ne_of_none q hT)]; exact q) fun d l q => by rw [upd_ne (ne_of_none q hT)]; exact q
        rcases hd with e' | e'
        · rw [e']; exact trk c o z
        · exact trk d _ e'
    have I2 : Inv X pins σ (upd H s.heap.objs.size (.tup [.int i, x])) { s with heap := h2, toks := tk + 1 } := by
      refine I.step (g' := s.gens) (d' := s.drawn) (t' := tk + 1) (ch := [e, it]) (fun c hc' => ?_) (fun c o _ _ hn z _ => kept c o hn z) (fun c o _ _ hn z _ => ⟨o.slots, kept c o hn z⟩)
        (fun c o _ z n => by rw [upd_ne (Nat.ne_of_lt (Heap.lt_size z))]; exact n) (fun c o hn z => ⟨o, kept c o hn z⟩) (fun c l z => by rw [upd_ne (ne_of_none z hT)]; exact z) (fun c o l z => by rw [upd_ne (ne_of_none z hT)]; exact z)
        (fun c l z => ⟨#[], by rw [upd_ne (ne_of_none z hT), z]; simp⟩) (fun m hm => ?_) hok2 I.bare
      · obtain ⟨f0, f1, f2, f3, f4, f5⟩ := hf c hc'
        exact ⟨f3, f1, f4, f5⟩
      · obtain ⟨o, es', ep, ho, r⟩ := hm
        refine ⟨o, es', ep, kept _ o (fun hc' => ?_) ho, r⟩
        exact (hf _ hc').2.1 rfl
    refine ⟨.ref s.heap.objs.size, _, I2, rfl, ⟨s.heap.objs.size, hT, rfl, fun xs' e1' => ⟨x, ?_, rfl⟩⟩, ⟨⟨u, ?_⟩, ?_⟩, fun c hc' => ?_⟩
    · rw [I.list_inj e1' hxs]; exact hx
    · have := e1
      rw [show (((i + 1 : Nat) : Int)) = (i : Int) + 1 by omega]
      exact this
    · exact g3.1.extBut sb.extBut nei.symm
    · rw [upd_ne (ne c hc')]
      exact (hf c hc').1
  done := by
    intro X hP hw hK hc i pins s σ H E I hf st hg
    subst hP hw hK
    obtain ⟨⟨old, s1⟩, s4⟩ := st
    obtain ⟨xs, hxs, hlen⟩ := hg
    obtain ⟨its, rv, p, _⟩ := I.list hxs
    have hl := rv.length
    have hT : s.TypeIs (.ref e) "enumerate" := ⟨_, s1, rfl⟩
    have fin : ∀ h', Heap.ExtBut it s.heap h' → Inv X pins σ H { s with heap := h' } := fun h' kp => by
      obtain ⟨f0, f1, f2, f3, f4, f5⟩ := hf it (by simp)
      exact I.turned (t' := s.toks) (fun b o hb z => kp b o hb z) f0 f1 f3 f4 f5
    unfold pyNext
    refine wpAny_bind (wpAny_attempt (wpAny_callSpecial?_slot (name := Str.ofString "__next__") hT F.slot_enumerate_next (wpAny_call_entry F.slot_enumerate_next hT F.entry_enumerate_next ?_ (F.args_enumerate_next_1 _))))
    show wpAny _ _ (field (.ref e) 2 >>= _) _ _ _
    refine wpAny_bind (wpAny_field s1 rfl (x := .ref it) rfl ?_)
    refine wpAny_bind (wpAny_nextOf_list_end (I.ok.hd hc) s4 p.isList (by simp; omega) fun h' x he' hx' => ?_)
    obtain ⟨o, ho, hcx⟩ := hx'
    refine wpAny_bind (wpAny_isInstance (T := "StopIteration") (b := true) ⟨o, ho, hcx⟩ isSubtype_stop (wpAny_pure ⟨rfl, fin h' he'⟩))
  self := fun _ _ _ _ _ st h => wpAny_pyIter_enum st.1.choose_spec h
section
variable {X : Cx}
def iEnum (K : PySem.W.Frag) (t : TA) : TI := fun σ H R => t σ H fun vs H1 => ∃ a xs, vs = [.ref a] ∧ SqL K H1 a xs ∧ R (Ite K a) H1
theorem pi_enum {es : List Expr} {k : Nat} {tp : Pos} {a : Expr} {ta : TA} {p pos : Pos} (hg : Gl X "enumerate") (hm : X.mg "enumerate" = none) (ha : PA X [a] ta) (hs : starEach [a] X.env = [(false, eval a X.env)] := by rfl) :
    PI X (.Tuple es k tp) (.Call (.Name "enumerate" p) [a] [] pos) (iEnum X.K ta) := by
  intro pins s σ H R I h
  refine Call_ (ld_blt I hg hm boot_enumerate (PyProof.Rows.callWith_type1 (thn (ha pos pins s σ H _ I h) fun us s1 ⟨vs, H1, I1, r1, q1⟩ => ?_) hs rfl))
  obtain ⟨x, xs, e, hx, q⟩ := q1
  subst e
  obtain ⟨u, rfl, ru⟩ := vals1 r1
  cases ru
  obtain ⟨its, _, p1, _⟩ := I1.list hx
  refine call_enum_lst p1.isList fun h' z1 z4 kp => ?_
  refine wpAny_pyIter_enum z1 ?_
  have lx : x < s1.heap.objs.size := by obtain ⟨_, e, _⟩ := p1.isList; exact Heap.lt_size e
  refine ⟨_, _, _, _, H1, rfl, I1.kept (t' := s1.toks) kp, turn_enum (e := s1.heap.objs.size + 1) (it := s1.heap.objs.size) (a := x) (Nat.succ_ne_self _) (Nat.ne_of_gt (Nat.lt_succ_of_lt lx)) (Nat.ne_of_lt lx), ⟨⟨_, z1⟩, z4⟩, fun c hc => ?_, q⟩
  have hle : s1.heap.objs.size ≤ c := by
    simp only [List.mem_cons, List.not_mem_nil, or_false] at hc
    rcases hc with q | q <;> subst q
    · exact Nat.le_add_right _ 1
    · exact Nat.le_refl _
  exact I1.fpOk hle (I1.hok.fresh hle)
end
end L2.EL

set_option Elab.async false
set_option linter.all false
set_option maxRecDepth 100000
/-! sum of ints; sorted of two pairs of ints. -/
namespace L2
open PySem PySem.Spec PyProof.Rows PySem.Calls
section
variable {X : Cx}
theorem call_sumL (hc : X.calm = true) : CallR X (.builtin "sum") (fun xs H Q => ∃ (p : Addr) (ns : List Int), xs = [.ref p] ∧ (SqL X.K H p (ns.map V.int) ∨ SqT X.K H p (ns.map V.int)) ∧ Q (.int ns.sum) H) := by
  intro pins s σ H xs us Q I r h
  obtain ⟨p, ns, rfl, hq, q⟩ := h
  obtain ⟨u, rfl, ru⟩ := vals1 r
  cases ru
  have go : ∀ its : List Value, Vals (ns.map V.int) its → ∃ zs : Array (Int × Tok), its.toArray = intItems zs ∧ preSum (numAt zs) zs.size = ns.sum := fun its rv => by
    have hi : IntsAre its ns := intsAre_of rv
    obtain ⟨zs, ez⟩ := (hi.allInts : AllInts its.toArray).items
    refine ⟨zs, ez, ?_⟩
    have en : numsOf its.toArray.toList = ns := hi.numsOf
    rw [ez, nums_intItems] at en
    rw [preSum_eq, List.take_of_length_le (by simp), en]
  rcases hq with hq | hq
  · obtain ⟨its, rv, pl, hz⟩ := I.list hq
    obtain ⟨zs, ez, es⟩ := go its rv
    refine sum_intListG (I.ok.hd hc) (ez ▸ pl.isList) fun h' tk t' hk => ?_
    rw [es]
    exact ⟨.int _, H, I.kept (t' := tk) hk, ⟨t', rfl⟩, q⟩
  · obtain ⟨its, rv, pl, hz⟩ := I.tuple hq
    obtain ⟨zs, ez, es⟩ := go its rv
    have ht : s.heap.IsTuple p its.toArray := pl
    refine PySem.W.ktm_sumG (I.ok.hd hc) (ez ▸ ht) fun h' tk t' hk => ?_
    rw [es]
    exact ⟨.int _, H, I.kept (t' := tk) hk, ⟨t', rfl⟩, q⟩
end
section
open PySem.W
variable {prog : Program} {w : World} {A : Around} {E : Value → Shared → Prop} {s : Shared}
end
section
variable {X : Cx}
end
end L2

set_option Elab.async false
set_option linter.all false
set_option maxRecDepth 100000
/-! a comprehension whose own name is a cell (a block inside captures it). -/
namespace L2
open PySem PySem.Spec PyProof.Rows

section
variable {X : Cx} {tg iter elt : Expr} {ifs : List Expr} {scope : Scope} {pos : Pos} {Nc : List Str} {wi : TI} {g : TG} {tt : TT} {te : TE}
end
end L2

set_option Elab.async false
set_option linter.all false
set_option maxRecDepth 100000
/-! list.sort from 64 items on: the merge of runs. -/
namespace Srt
open PySem PyProof.Rows
def gallopP : Bool → Keyed → Array Keyed → Nat → Nat → Nat → StateT SortSt Sem (Option Nat) := sortPriv% PySem.Builtin.gallop
section
variable {prog : Program} {w : World} {A : Around} {E : Value → Shared → Prop} {s : Shared} {κ : PyProof.Rows.KeyKind}
/-- the comparison of two keys, at a state -/
def LtOk (prog : Program) (w : World) (A : Around) (E : Value → Shared → Prop) (s : Shared) (κ : PyProof.Rows.KeyKind) (st : SortSt) : Prop :=
  ∀ (x y : Keyed) (a b : κ.α) (Q : Option Bool → SortSt → Prop), κ.keyOf x.1 = some a → κ.keyOf y.1 = some b → Q (some (κ.blt a b)) st → wpS (model prog w) A E s (lt' x y) Q st
theorem wpS_elem {arr : Array Keyed} {i : Nat} {p : Keyed} {Q : Keyed → SortSt → Prop} {st : SortSt} (e : arr[i]? = some p) (h : Q p st) : wpS (model prog w) A E s (elem' arr i) Q st := by
  rw [elem'_eq, e]
  exact wpS_pure h
/-- where the key belongs: behind all that are beyond -/
def bey (κ : PyProof.Rows.KeyKind) (left : Bool) (k : κ.α) (x : κ.α) : Bool := if left then κ.blt x k else !(κ.blt k x)
theorem wpS_gallop {left : Bool} {key : Keyed} {arr : Array Keyed} {b n h : Nat} {Q : Option Nat → SortSt → Prop} {st : SortSt} {kk : κ.α} (hL : LtOk prog w A E s κ st) (hk : κ.keyOf key.1 = some kk) (hn : h < n)
    (hin : ∀ i, i < n → ∃ p a, arr[b + i]? = some p ∧ κ.keyOf p.1 = some a ∧ KK κ arr (b + i) = a) (hm : ∀ i j, i ≤ j → j < n → bey κ left kk (KK κ arr (b + j)) = true → bey κ left kk (KK κ arr (b + i)) = true)
    (q : ∀ k, k ≤ n → (∀ i, i < k → bey κ left kk (KK κ arr (b + i)) = true) → (∀ i, k ≤ i → i < n → bey κ left kk (KK κ arr (b + i)) = false) → Q (some k) st) :
    wpS (model prog w) A E s (gallopP left key arr b n h) Q st := by
  have hbey : ∀ (i : Nat) (R : Option Bool → SortSt → Prop), i < n → R (some (bey κ left kk (KK κ arr (b + i)))) st → wpS (model prog w) A E s (do
      let x ← elem' arr (b + i)
      if left = true then lt' x key else do
        let r ← lt' key x
        pure (Option.map (fun x => !x) r)) R st := fun i R hi hR => by
    obtain ⟨p, a, e1, e2, e3⟩ := hin i hi
    refine wpS_bind (wpS_elem e1 ?_)
    unfold bey at hR
    rw [e3] at hR
    cases left with
    | true =>
      rw [if_pos rfl]
      exact hL _ _ _ _ _ e2 hk hR
    | false =>
      rw [if_neg (by decide)]
      exact wpS_bind (hL _ _ _ _ _ hk e2 (wpS_pure hR))
  generalize hβ : (fun i => bey κ left kk (KK κ arr (b + i))) = β
  have hβi : ∀ i, bey κ left kk (KK κ arr (b + i)) = β i := fun i => by rw [← hβ]
  simp only [hβi] at hbey hm q
  delta gallopP
  refine wpS_bind (hbey h _ hn ?_)
  cases e0 : β h with
  | true =>
    dsimp only
    rw [if_pos rfl]
    refine wpS_bind (wpS_mono (wpS_forRange (I := fun x c st' => st' = st ∧ c.1 = none ∧ c.2.1 < c.2.2 ∧ c.2.1 < n - h ∧ x < c.2.2 ∧ β (h + c.2.1) = true)
      (Q := fun c st' => st' = st ∧ c.1 = none ∧ c.2.1 < c.2.2 ∧ c.2.1 < n - h ∧ β (h + c.2.1) = true ∧ (c.2.2 ≥ n - h ∨ (c.2.2 < n - h ∧ β (h + c.2.2) = false))) ?_ ?_ ⟨rfl, rfl, (by show 0 < 1; decide), (by show 0 < n - h; omega), (by show 0 < 1; decide), (show β (h + 0) = true from e0)⟩) ?_)
    · rintro x ⟨c0, l, o⟩ st' _ hx ⟨rfl, rfl, g1, g2, g3, g4⟩
      dsimp only at g1 g2 g3 g4 ⊢
      by_cases ho : o ≥ n - h
      · rw [if_pos ho]
        exact wpS_pure ⟨rfl, rfl, g1, g2, g4, .inl ho⟩
      · rw [if_neg ho]
        refine wpS_bind (hbey (h + o) _ (by omega) ?_)
        cases eb : β (h + o) with
        | true =>
          dsimp only
          rw [if_neg (by decide)]
          exact wpS_pure ⟨rfl, rfl, by dsimp only; omega, by dsimp only; omega, by dsimp only; omega, eb⟩
        | false =>
          dsimp only
          rw [if_pos (by decide)]
          exact wpS_pure ⟨rfl, rfl, g1, g2, g4, .inr ⟨by dsimp only; omega, eb⟩⟩
    · rintro ⟨c0, l, o⟩ st' ⟨rfl, rfl, g1, g2, g3, g4⟩
      dsimp only at g1 g2 g3 g4 ⊢
      exact ⟨rfl, rfl, g1, g2, g4, .inl (by omega)⟩
    · rintro ⟨c0, l, o⟩ st' ⟨rfl, rfl, g1, g2, g4, g5⟩
      dsimp only at g1 g2 g4 g5 ⊢
      have w4 : ∀ i, h + min o (n - h) ≤ i → i < n → β i = false := fun i hi hin' => by
        rcases g5 with g5 | ⟨g5, g6⟩
        · omega
        · cases e2 : β i with
          | false => rfl
          | true =>
            have := hm (h + o) i (by omega) hin' e2
            rw [g6] at this
            cases this
      obtain ⟨lo, hlo⟩ : ∃ lo, lo = h + l + 1 := ⟨_, rfl⟩
      obtain ⟨hi, hhi⟩ : ∃ hi, hi = h + min o (n - h) := ⟨_, rfl⟩
      have w1 : lo ≤ hi := by omega
      have w2 : hi ≤ n := by omega
      have w3 : ∀ i, i < lo → β i = true := fun i hi => hm i (h + l) (by omega) (by omega) g4
      have w4 : ∀ i, hi ≤ i → i < n → β i = false := by rw [hhi]; exact w4
      rw [← hlo, ← hhi]
      refine wpS_bind (wpS_mono (wpS_forRange (I := fun x c st'' => st'' = st' ∧ c.1 = none ∧ c.2.1 ≤ c.2.2 ∧ c.2.2 ≤ n ∧ c.2.2 - c.2.1 ≤ n - x ∧ (∀ i, i < c.2.1 → β i = true) ∧ (∀ i, c.2.2 ≤ i → i < n → β i = false))
        (Q := fun c st'' => st'' = st' ∧ c.1 = none ∧ c.2.2 ≤ n ∧ (∀ i, i < c.2.2 → β i = true) ∧ (∀ i, c.2.2 ≤ i → i < n → β i = false)) ?_ ?_ ⟨rfl, rfl, w1, w2, (by show hi - lo ≤ n - 0; omega), w3, w4⟩) ?_)
      · rintro x ⟨c0, l, r⟩ st'' _ hx ⟨rfl, rfl, g1, g2, g3, g4, g5⟩
        dsimp only at g1 g2 g3 g4 g5 ⊢
        by_cases hlr : l ≥ r
        · rw [if_pos hlr]
          have e : l = r := by omega
          exact wpS_pure ⟨rfl, rfl, g2, by rw [← e]; exact g4, g5⟩
        · rw [if_neg hlr]
          refine wpS_bind (hbey (l + (r - l) / 2) _ (by omega) ?_)
          cases eb : β (l + (r - l) / 2) with
          | true =>
            dsimp only
            rw [if_pos rfl]
            exact wpS_pure ⟨rfl, rfl, by dsimp only; omega, g2, by dsimp only; omega, fun i hi => hm i _ (by dsimp only at hi; omega) (by omega) eb, g5⟩
          | false =>
            dsimp only
            rw [if_neg (by decide)]
            refine wpS_pure ⟨rfl, rfl, by dsimp only; omega, by dsimp only; omega, by dsimp only; omega, g4, fun i hi hin' => ?_⟩
            cases e2 : β i with
            | false => rfl
            | true =>
              have := hm (l + (r - l) / 2) i hi hin' e2
              rw [eb] at this
              cases this
      · rintro ⟨c0, l, r⟩ st'' ⟨rfl, rfl, g1, g2, g3, g4, g5⟩
        dsimp only at g1 g2 g3 g4 g5 ⊢
        have e : l = r := by omega
        exact ⟨rfl, rfl, g2, by rw [← e]; exact g4, g5⟩
      · rintro ⟨c0, l, r⟩ st'' ⟨rfl, rfl, g1, g2, g3⟩
        exact wpS_pure (q _ g1 g2 g3)
  | false =>
    dsimp only
    rw [if_neg (by decide)]
    refine wpS_bind (wpS_mono (wpS_forRange (I := fun x c st' => st' = st ∧ c.1 = none ∧ c.2.1 < c.2.2 ∧ c.2.1 < h + 1 ∧ x < c.2.2 ∧ β (h - c.2.1) = false)
      (Q := fun c st' => st' = st ∧ c.1 = none ∧ c.2.1 < c.2.2 ∧ c.2.1 < h + 1 ∧ β (h - c.2.1) = false ∧ (c.2.2 ≥ h + 1 ∨ (c.2.2 < h + 1 ∧ β (h - c.2.2) = true))) ?_ ?_ ⟨rfl, rfl, (by show 0 < 1; decide), (by show 0 < h + 1; omega), (by show 0 < 1; decide), (show β (h - 0) = false from e0)⟩) ?_)
    · rintro x ⟨c0, l, o⟩ st' _ hx ⟨rfl, rfl, g1, g2, g3, g4⟩
      dsimp only at g1 g2 g3 g4 ⊢
      by_cases ho : o ≥ h + 1
      · rw [if_pos ho]
        exact wpS_pure ⟨rfl, rfl, g1, g2, g4, .inl ho⟩
      · rw [if_neg ho]
        refine wpS_bind (hbey (h - o) _ (by omega) ?_)
        cases eb : β (h - o) with
        | false =>
          dsimp only
          rw [if_neg (by decide)]
          exact wpS_pure ⟨rfl, rfl, by dsimp only; omega, by dsimp only; omega, by dsimp only; omega, eb⟩
        | true =>
          dsimp only
          rw [if_pos rfl]
          exact wpS_pure ⟨rfl, rfl, g1, g2, g4, .inr ⟨by dsimp only; omega, eb⟩⟩
    · rintro ⟨c0, l, o⟩ st' ⟨rfl, rfl, g1, g2, g3, g4⟩
      dsimp only at g1 g2 g3 g4 ⊢
      exact ⟨rfl, rfl, g1, g2, g4, .inl (by omega)⟩
    · rintro ⟨c0, l, o⟩ st' ⟨rfl, rfl, g1, g2, g4, g5⟩
      dsimp only at g1 g2 g4 g5 ⊢
      have w3 : ∀ i, i < h + 1 - min o (h + 1) → β i = true := fun i hi => by
        rcases g5 with g5 | ⟨g5, g6⟩
        · omega
        · exact hm i (h - o) (by omega) (by omega) g6
      have w4 : ∀ i, h - l ≤ i → i < n → β i = false := fun i hi hin' => by
        cases e2 : β i with
        | false => rfl
        | true =>
          have := hm (h - l) i hi hin' e2
          rw [g4] at this
          cases this
      obtain ⟨lo, hlo⟩ : ∃ lo, lo = h + 1 - min o (h + 1) := ⟨_, rfl⟩
      obtain ⟨hi, hhi⟩ : ∃ hi, hi = h - l := ⟨_, rfl⟩
      have w1 : lo ≤ hi := by omega
      have w2 : hi ≤ n := by omega
      have w3 : ∀ i, i < lo → β i = true := by rw [hlo]; exact w3
      have w4 : ∀ i, hi ≤ i → i < n → β i = false := by rw [hhi]; exact w4
      rw [← hlo, ← hhi]
      refine wpS_bind (wpS_mono (wpS_forRange (I := fun x c st'' => st'' = st' ∧ c.1 = none ∧ c.2.1 ≤ c.2.2 ∧ c.2.2 ≤ n ∧ c.2.2 - c.2.1 ≤ n - x ∧ (∀ i, i < c.2.1 → β i = true) ∧ (∀ i, c.2.2 ≤ i → i < n → β i = false))
        (Q := fun c st'' => st'' = st' ∧ c.1 = none ∧ c.2.2 ≤ n ∧ (∀ i, i < c.2.2 → β i = true) ∧ (∀ i, c.2.2 ≤ i → i < n → β i = false)) ?_ ?_ ⟨rfl, rfl, w1, w2, (by show hi - lo ≤ n - 0; omega), w3, w4⟩) ?_)
      · rintro x ⟨c0, l, r⟩ st'' _ hx ⟨rfl, rfl, g1, g2, g3, g4, g5⟩
        dsimp only at g1 g2 g3 g4 g5 ⊢
        by_cases hlr : l ≥ r
        · rw [if_pos hlr]
          have e : l = r := by omega
          exact wpS_pure ⟨rfl, rfl, g2, by rw [← e]; exact g4, g5⟩
        · rw [if_neg hlr]
          refine wpS_bind (hbey (l + (r - l) / 2) _ (by omega) ?_)
          cases eb : β (l + (r - l) / 2) with
          | true =>
            dsimp only
            rw [if_pos rfl]
            exact wpS_pure ⟨rfl, rfl, by dsimp only; omega, g2, by dsimp only; omega, fun i hi => hm i _ (by dsimp only at hi; omega) (by omega) eb, g5⟩
          | false =>
            dsimp only
            rw [if_neg (by decide)]
            refine wpS_pure ⟨rfl, rfl, by dsimp only; omega, by dsimp only; omega, by dsimp only; omega, g4, fun i hi hin' => ?_⟩
            cases e2 : β i with
            | false => rfl
            | true =>
              have := hm (l + (r - l) / 2) i hi hin' e2
              rw [eb] at this
              cases this
      · rintro ⟨c0, l, r⟩ st'' ⟨rfl, rfl, g1, g2, g3, g4, g5⟩
        dsimp only at g1 g2 g3 g4 g5 ⊢
        have e : l = r := by omega
        exact ⟨rfl, rfl, g2, by rw [← e]; exact g4, g5⟩
      · rintro ⟨c0, l, r⟩ st'' ⟨rfl, rfl, g1, g2, g3⟩
        exact wpS_pure (q _ g1 g2 g3)
end
end Srt

set_option Elab.async false
set_option linter.all false
set_option maxRecDepth 100000
namespace Srt
open PySem PyProof.Rows
section
variable {α : Type} {le : α → α → Prop}
/-- lo is the merge of what stands ahead of ia in la and ahead of ib in lb; the rest lies behind it -/
structure MI (le : α → α → Prop) (la lb lo : List α) (ia ib : Nat) : Prop where
  pm : lo.Perm (la.take ia ++ lb.take ib)
  sr : lo.Pairwise le
  be : ∀ x ∈ lo, ∀ y, y ∈ la.drop ia ∨ y ∈ lb.drop ib → le x y
theorem mem_drop_of {l : List α} {i j : Nat} {y : α} (hij : i ≤ j) (h : y ∈ l.drop j) : y ∈ l.drop i := by
  have : l.drop j = (l.drop i).drop (j - i) := by rw [List.drop_drop]; congr 1; omega
  rw [this] at h
  exact List.mem_of_mem_drop h
theorem pw_drop {l : List α} (h : l.Pairwise le) {i j : Nat} (hij : i ≤ j) : ∀ x ∈ (l.drop i).take (j - i), ∀ y ∈ l.drop j, le x y := by
  have e : l.drop i = (l.drop i).take (j - i) ++ l.drop j := by
    have := List.take_append_drop (j - i) (l.drop i)
    rw [List.drop_drop] at this
    rw [show i + (j - i) = j by omega] at this
    exact this.symm
  have hp : (l.drop i).Pairwise le := h.sublist (List.drop_sublist _ _)
  rw [e] at hp
  exact fun x hx y hy => (List.pairwise_append.mp hp).2.2 x hx y hy
theorem take_add' (l : List α) (i k : Nat) : l.take (i + k) = l.take i ++ (l.drop i).take k := List.take_add
theorem MI.segA {la lb lo : List α} {ia ib k : Nat} (m : MI le la lb lo ia ib) (sa : la.Pairwise le) (h : ∀ x ∈ (la.drop ia).take k, ∀ y ∈ lb.drop ib, le x y) : MI le la lb (lo ++ (la.drop ia).take k) (ia + k) ib := by
  refine ⟨?_, List.pairwise_append.mpr ⟨m.sr, (sa.sublist (List.drop_sublist _ _)).sublist (List.take_sublist _ _), fun x hx y hy => m.be x hx y (.inl (List.mem_of_mem_take hy))⟩, fun x hx y hy => ?_⟩
  · rw [take_add']
    refine (m.pm.append_right _).trans ?_
    rw [List.append_assoc, List.append_assoc]
    exact List.Perm.append_left _ (List.perm_append_comm)
  · rcases List.mem_append.mp hx with z | z
    · exact m.be x z y (hy.imp (mem_drop_of (by omega)) id)
    · rcases hy with hy | hy
      · have := pw_drop sa (i := ia) (j := ia + k) (by omega) x (by rw [show ia + k - ia = k by omega]; exact z) y hy
        exact this
      · exact h x z y hy
theorem MI.segB {la lb lo : List α} {ia ib k : Nat} (m : MI le la lb lo ia ib) (sb : lb.Pairwise le) (h : ∀ x ∈ (lb.drop ib).take k, ∀ y ∈ la.drop ia, le x y) : MI le la lb (lo ++ (lb.drop ib).take k) ia (ib + k) := by
  refine ⟨?_, List.pairwise_append.mpr ⟨m.sr, (sb.sublist (List.drop_sublist _ _)).sublist (List.take_sublist _ _), fun x hx y hy => m.be x hx y (.inr (List.mem_of_mem_take hy))⟩, fun x hx y hy => ?_⟩
  · rw [take_add']
    refine (m.pm.append_right _).trans ?_
    rw [List.append_assoc]
  · rcases List.mem_append.mp hx with z | z
    · exact m.be x z y (hy.imp id (mem_drop_of (by omega)))
    · rcases hy with hy | hy
      · exact h x z y hy
      · have := pw_drop sb (i := ib) (j := ib + k) (by omega) x (by rw [show ib + k - ib = k by omega]; exact z) y hy
        exact this
/-- what a merge tells: both, in order -/
structure Done (le : α → α → Prop) (la lb lo : List α) : Prop where
  pm : lo.Perm (la ++ lb)
  sr : lo.Pairwise le
theorem MI.endB {la lb lo : List α} {ia ib : Nat} (m : MI le la lb lo ia ib) (sa : la.Pairwise le) (hb : lb.length ≤ ib) : Done le la lb (lo ++ la.drop ia ++ lb.drop ib) := by
  have e : lb.drop ib = [] := List.drop_of_length_le hb
  have e2 : lb.take ib = lb := List.take_of_length_le hb
  rw [e, List.append_nil]
  refine ⟨?_, List.pairwise_append.mpr ⟨m.sr, sa.sublist (List.drop_sublist _ _), fun x hx y hy => m.be x hx y (.inl hy)⟩⟩
  have := m.pm
  rw [e2] at this
  refine (this.append_right _).trans ?_
  rw [List.append_assoc]
  refine (List.Perm.append_left _ List.perm_append_comm).trans ?_
  rw [← List.append_assoc, List.take_append_drop]
theorem MI.endA {la lb lo : List α} {ia ib : Nat} (m : MI le la lb lo ia ib) (sb : lb.Pairwise le) (ha : la.length ≤ ia) : Done le la lb (lo ++ la.drop ia ++ lb.drop ib) := by
  have e : la.drop ia = [] := List.drop_of_length_le ha
  have e2 : la.take ia = la := List.take_of_length_le ha
  rw [e, List.append_nil]
  refine ⟨?_, List.pairwise_append.mpr ⟨m.sr, sb.sublist (List.drop_sublist _ _), fun x hx y hy => m.be x hx y (.inr hy)⟩⟩
  have := m.pm
  rw [e2] at this
  refine (this.append_right _).trans ?_
  rw [List.append_assoc, List.take_append_drop]
theorem MI.last {la lb lo : List α} {ia ib : Nat} (m : MI le la lb lo ia ib) (sa : la.Pairwise le) (sb : lb.Pairwise le) (h : ∀ y ∈ lb.drop ib, ∀ x ∈ la.drop ia, le y x) : Done le la lb (lo ++ lb.drop ib ++ la.drop ia) := by
  refine ⟨?_, List.pairwise_append.mpr ⟨List.pairwise_append.mpr ⟨m.sr, sb.sublist (List.drop_sublist _ _), fun x hx y hy => m.be x hx y (.inr hy)⟩, sa.sublist (List.drop_sublist _ _), fun x hx y hy => ?_⟩⟩
  · refine ((m.pm.append_right _).append_right _).trans ?_
    have e : (la.take ia ++ lb.take ib ++ lb.drop ib ++ la.drop ia) = la.take ia ++ (lb ++ la.drop ia) := by
      rw [List.append_assoc (la.take ia), List.take_append_drop, List.append_assoc]
    rw [e]
    refine (List.Perm.append_left _ List.perm_append_comm).trans ?_
    rw [← List.append_assoc, List.take_append_drop]
  · rcases List.mem_append.mp hx with z | z
    · exact m.be x z y (.inl hy)
    · exact h x z y hy
end
end Srt

set_option Elab.async false
set_option linter.all false
set_option maxRecDepth 100000
/-! list.sort: a run counted, a run made longer, at any place. -/
namespace Srt
open PySem PyProof.Rows
abbrev Sm := StateT SortSt Sem
def ascL (lo a m : Nat) : Sm AscSt :=
  forIn [a:m] ((none, a) : AscSt) fun _ c => do
    let x ← ltAt' (lo + c.snd) (lo + c.snd - 1)
    match x with
    | some b => if b = true then pure (ForInStep.done (none, c.snd)) else pure (ForInStep.yield (none, c.snd + 1))
    | _ => pure (ForInStep.done (some none, c.snd))
def tailL (lo n m : Nat) : Sm (Option Nat) := do
  reverseSlice' lo (lo + n)
  let c ← ascL lo n m
  match c.fst with
  | some r => pure r
  | none => pure (some c.snd)
def descL (lo n m : Nat) : Sm DescSt :=
  forIn [n:m] ((none, n, 0) : DescSt) fun _ c => do
    let x ← ltAt' (lo + c.snd.fst) (lo + c.snd.fst - 1)
    match x with
    | some b =>
      if b = true then
        if c.snd.snd > 0 then do
          reverseSlice' (lo + c.snd.fst - (c.snd.snd + 1)) (lo + c.snd.fst)
          pure (ForInStep.yield (none, c.snd.fst + 1, 0))
        else pure (ForInStep.yield (none, c.snd.fst + 1, 0))
      else do
        let y ← ltAt' (lo + c.snd.fst - 1) (lo + c.snd.fst)
        match y with
        | some d =>
          if d = true then pure (ForInStep.done (none, c.snd.fst, c.snd.snd))
          else pure (ForInStep.yield (none, c.snd.fst + 1, c.snd.snd + 1))
        | _ => pure (ForInStep.done (some none, c.snd.fst, c.snd.snd))
    | _ => pure (ForInStep.done (some none, c.snd.fst, c.snd.snd))
def partL (lo n m : Nat) : Sm (Option Nat) := do
  liftM (rule "list.sort.descending-run")
  let c ← descL lo (n + 1) m
  match c.fst with
  | some r => pure r
  | none =>
    if c.snd.snd > 0 then do
      reverseSlice' (lo + c.snd.fst - (c.snd.snd + 1)) (lo + c.snd.fst)
      tailL lo c.snd.fst m
    else tailL lo c.snd.fst m
theorem bc {α β : Type} {m m' : Sm α} {f f' : α → Sm β} (h : m = m') (h' : f = f') : (m >>= f) = (m' >>= f') := by rw [h, h']
theorem countL_eq (lo m : Nat) : countRun' lo m = (do
    let c ← ascL lo 1 m
    match c.fst with
    | some r => pure r
    | none =>
      if (c.snd == m) = true then pure (some c.snd)
      else if c.snd > 1 then do
        let x ← ltAt' lo (lo + c.snd - 1)
        match x with
        | some b => if b = true then pure (some c.snd) else do
            reverseSlice' lo (lo + c.snd)
            partL lo c.snd m
        | _ => pure none
      else partL lo c.snd m) := by
  rw [countRun'_eq]
  have tl : ∀ n : Nat, ((do
      reverseSlice' lo (lo + n)
      let mut n := n
      for _ in [n:m] do
        let some smaller ← ltAt' (lo + n) (lo + n - 1) | return none
        if smaller then break
        n := n + 1
      return some n) : Sm (Option Nat)) = tailL lo n m := fun n => by
    unfold tailL ascL
    refine bc rfl (funext fun u => bc rfl (funext fun c => ?_))
    obtain ⟨r, n⟩ := c
    cases r <;> rfl
  have pl : ∀ n : Nat, ((do
      rule "list.sort.descending-run"
      let mut n := n + 1
      let mut neq := 0
      for _ in [n:m] do
        let some smaller ← ltAt' (lo + n) (lo + n - 1) | return none
        if smaller then
          if neq > 0 then reverseSlice' (lo + n - (neq + 1)) (lo + n)
          neq := 0
        else
          let some larger ← ltAt' (lo + n - 1) (lo + n) | return none
          if larger then break
          neq := neq + 1
        n := n + 1
      if neq > 0 then reverseSlice' (lo + n - (neq + 1)) (lo + n)
      reverseSlice' lo (lo + n)
      for _ in [n:m] do
        let some smaller ← ltAt' (lo + n) (lo + n - 1) | return none
        if smaller then break
        n := n + 1
      return some n) : Sm (Option Nat)) = partL lo n m := fun n => by
    unfold partL descL
    refine bc rfl (funext fun u => bc rfl (funext fun c => ?_))
    obtain ⟨r, n2, q2⟩ := c
    cases r with
    | some r => rfl
    | none =>
      dsimp only
      split
      · exact bc rfl (funext fun u => tl n2)
      · exact tl n2
  unfold ascL
  refine bc rfl (funext fun c => ?_)
  obtain ⟨r, n⟩ := c
  cases r with
  | some r => rfl
  | none =>
    dsimp only
    split
    · rfl
    · split
      · refine bc rfl (funext fun x => ?_)
        cases x with
        | none => rfl
        | some b =>
          dsimp only
          split
          · rfl
          · exact bc rfl (funext fun u => pl n)
      · exact pl n
/-- what stays through: the kind, no fault, the things -/
structure SB (ks : SortKind) (a₀ : Array Keyed) (st : SortSt) : Prop where
  kind : kindOf st = ks
  ok : failedOf st = none
  pm : (arrOf st).Perm a₀
def Seg (κ : PyProof.Rows.KeyKind) (xs : Array Keyed) (a b : Nat) : Prop := ∀ i j, a ≤ i → i ≤ j → j < b → κ.kle (KK κ xs i) (KK κ xs j)
def Non (κ : PyProof.Rows.KeyKind) (xs : Array Keyed) (a b : Nat) : Prop := ∀ i j, a ≤ i → i ≤ j → j < b → κ.kle (KK κ xs j) (KK κ xs i)
/-- outside of a .. b nothing is turned; the rest of the state as well -/
structure Out (st st' : SortSt) (a b : Nat) : Prop where
  out : ∀ k, (k < a ∨ b ≤ k) → (arrOf st')[k]? = (arrOf st)[k]?
  pend : pendingOf st' = pendingOf st
theorem Out.refl (st : SortSt) (a b : Nat) : Out st st a b := ⟨fun _ _ => rfl, rfl⟩
theorem Out.trans {st st1 st2 : SortSt} {a b : Nat} (h : Out st st1 a b) (h' : Out st1 st2 a b) : Out st st2 a b := ⟨fun k hk => (h'.out k hk).trans (h.out k hk), h'.pend.trans h.pend⟩
section
variable {prog : Program} {w : World} {A : Around} {E : Value → Shared → Prop} {s : Shared} {κ : PyProof.Rows.KeyKind} {ks : SortKind} {a₀ : Array Keyed}
def LtAll (prog : Program) (w : World) (A : Around) (E : Value → Shared → Prop) (s : Shared) (κ : PyProof.Rows.KeyKind) (ks : SortKind) : Prop := ∀ st, kindOf st = ks → LtOk prog w A E s κ st
theorem SB.size {st : SortSt} (B : SB ks a₀ st) : (arrOf st).size = a₀.size := B.pm.size_eq
theorem SB.item {st : SortSt} (B : SB ks a₀ st) (h0 : KeysOf κ a₀) {i : Nat} (hi : i < a₀.size) : ∃ p a, (arrOf st)[i]? = some p ∧ κ.keyOf p.1 = some a ∧ KK κ (arrOf st) i = a := by
  have hi' : i < (arrOf st).size := by rw [B.size]; exact hi
  have e : (arrOf st)[i]? = some (arrOf st)[i] := Array.getElem?_eq_getElem hi'
  have hm : (arrOf st)[i] ∈ a₀.toList := (Array.perm_iff_toList_perm.mp B.pm).mem_iff.mp (Array.mem_toList_iff.mpr (Array.getElem_mem hi'))
  obtain ⟨a, ha⟩ := h0 _ hm
  refine ⟨_, a, e, ha, ?_⟩
  unfold KK
  rw [e]
  dsimp only
  rw [ha]
  rfl
theorem SB.arr {st : SortSt} (B : SB ks a₀ st) {xs : Array Keyed} (h : xs.Perm (arrOf st)) : SB ks a₀ (setArr st xs) := ⟨B.kind, B.ok, h.trans B.pm⟩
theorem ltA (hL : LtAll prog w A E s κ ks) {st : SortSt} {i j : Nat} {Q : Option Bool → SortSt → Prop} (B : SB ks a₀ st) (h0 : KeysOf κ a₀) (hi : i < a₀.size) (hj : j < a₀.size) (h : Q (some (κ.blt (KK κ (arrOf st) i) (KK κ (arrOf st) j))) st) :
    wpS (model prog w) A E s (ltAt' i j) Q st := by
  obtain ⟨p, a, e1, ka, ea⟩ := B.item (κ := κ) h0 hi
  obtain ⟨q, b, e2, kb, eb⟩ := B.item (κ := κ) h0 hj
  rw [ea, eb] at h
  rw [ltAt'_eq]
  refine wpS_bind (wpS_get (wpS_bind (wpS_elem e1 (wpS_bind (wpS_elem e2 ?_)))))
  exact hL st B.kind p q a b Q ka kb h
theorem rev_wp {st : SortSt} {i j : Nat} {Q : Unit → SortSt → Prop} (h : Q () (setArr st (mirror (arrOf st) i j ((j - i) / 2)))) : wpS (model prog w) A E s (reverseSlice' i j) Q st := wpS_reverse h
theorem Out.rev {st : SortSt} {i j a b : Nat} (hj : j ≤ (arrOf st).size) (h1 : a ≤ i) (h2 : j ≤ b) : Out st (setArr st (mirror (arrOf st) i j ((j - i) / 2))) a b := by
  refine ⟨fun k hk => ?_, rfl⟩
  show (mirror (arrOf st) i j ((j - i) / 2))[k]? = _
  rw [getElem?_mirror_all hj, if_neg (by omega)]
theorem ascL_wp (hL : LtAll prog w A E s κ ks) (h0 : KeysOf κ a₀) {st : SortSt} {lo a m : Nat} {Q : AscSt → SortSt → Prop} (hn : lo + m ≤ a₀.size) (ha : 1 ≤ a) (ham : a ≤ m) (B : SB ks a₀ st) (hs : Seg κ (arrOf st) lo (lo + a))
    (h : ∀ n, a ≤ n → n ≤ m → Seg κ (arrOf st) lo (lo + n) → (n = m ∨ κ.klt (KK κ (arrOf st) (lo + n)) (KK κ (arrOf st) (lo + n - 1))) → Q (none, n) st) : wpS (model prog w) A E s (ascL lo a m) Q st := by
  unfold ascL
  refine wpS_forRange (I := fun x c st' => st' = st ∧ c = (none, x) ∧ Seg κ (arrOf st) lo (lo + x)) ?_ ?_ ⟨rfl, rfl, hs⟩
  · rintro x c st' hax hxm ⟨rfl, rfl, hs'⟩
    dsimp only
    refine wpS_bind (ltA hL B h0 (by omega) (by omega) ?_)
    cases e : κ.blt (KK κ (arrOf st') (lo + x)) (KK κ (arrOf st') (lo + x - 1)) with
    | true =>
      dsimp only
      rw [if_pos rfl]
      exact wpS_pure (h x hax (by omega) hs' (.inr e))
    | false =>
      dsimp only
      rw [if_neg (by decide)]
      refine wpS_pure ⟨rfl, rfl, fun i j hi hij hj => ?_⟩
      by_cases hjx : j < lo + x
      · exact hs' i j hi hij hjx
      · have ej : j = lo + x := by omega
        subst ej
        by_cases ei : i = lo + x
        · rw [ei]
          exact KeyOrd.kle_refl _
        · exact KeyOrd.kle_trans (hs' i (lo + x - 1) hi (by omega) (by omega)) e
  · rintro c st' ⟨rfl, rfl, hs'⟩
    rw [show max a m = m by omega] at hs' ⊢
    exact h m ham (Nat.le_refl _) hs' (.inl rfl)
theorem tailL_wp (hL : LtAll prog w A E s κ ks) (h0 : KeysOf κ a₀) {st : SortSt} {lo n m : Nat} {Q : Option Nat → SortSt → Prop} (hn : lo + m ≤ a₀.size) (h1 : 1 ≤ n) (hnm : n ≤ m) (B : SB ks a₀ st) (hs : Non κ (arrOf st) lo (lo + n))
    (h : ∀ k st', SB ks a₀ st' → Out st st' lo (lo + m) → 1 ≤ k → k ≤ m → Seg κ (arrOf st') lo (lo + k) → Q (some k) st') : wpS (model prog w) A E s (tailL lo n m) Q st := by
  unfold tailL
  have hsz : lo + n ≤ (arrOf st).size := by rw [B.size]; omega
  refine wpS_bind (rev_wp ?_)
  have B' := B.arr (mirror_perm (arrOf st) lo (lo + n) ((lo + n - lo) / 2))
  refine wpS_bind (ascL_wp hL h0 hn h1 hnm B' ?_ fun k hk1 hk2 hsk _ => wpS_pure (h k _ B' (Out.rev hsz (Nat.le_refl _) (by omega)) (by omega) hk2 hsk))
  intro i j hi hij hj
  show κ.kle (KK κ (mirror (arrOf st) lo (lo + n) ((lo + n - lo) / 2)) i) (KK κ (mirror (arrOf st) lo (lo + n) ((lo + n - lo) / 2)) j)
  rw [KK_mirror hsz, KK_mirror hsz, if_pos (by omega), if_pos (by omega)]
  exact hs _ _ (by omega) (by omega) (by omega)
theorem descL_wp (hL : LtAll prog w A E s κ ks) (h0 : KeysOf κ a₀) {st : SortSt} {lo n m : Nat} {Q : DescSt → SortSt → Prop} (hn : lo + m ≤ a₀.size) (h1 : 1 ≤ n) (hnm : n ≤ m) (B : SB ks a₀ st) (hs : Non κ (arrOf st) lo (lo + n))
    (h : ∀ k q st', SB ks a₀ st' → Out st st' lo (lo + m) → n ≤ k → k ≤ m → Non κ (arrOf st') lo (lo + k) → q + 1 ≤ k → (∀ i, lo + k - (q + 1) ≤ i → i < lo + k → KK κ (arrOf st') i = KK κ (arrOf st') (lo + k - 1)) → Q (none, k, q) st') :
    wpS (model prog w) A E s (descL lo n m) Q st := by
  unfold descL
  refine wpS_forRange (I := fun x c st' => ∃ q, c = (none, x, q) ∧ SB ks a₀ st' ∧ Out st st' lo (lo + m) ∧ Non κ (arrOf st') lo (lo + x) ∧ q + 1 ≤ x ∧ (∀ i, lo + x - (q + 1) ≤ i → i < lo + x → KK κ (arrOf st') i = KK κ (arrOf st') (lo + x - 1))) ?_ ?_
    ⟨0, rfl, B, Out.refl _ _ _, hs, by omega, fun i z1 z2 => by congr 1; omega⟩
  · rintro x c st' hax hxm ⟨q, rfl, B', O', hs', hq, he⟩
    dsimp only
    have hsz : lo + x ≤ (arrOf st').size := by rw [B'.size]; omega
    refine wpS_bind (ltA hL B' h0 (by omega) (by omega) ?_)
    cases e : κ.blt (KK κ (arrOf st') (lo + x)) (KK κ (arrOf st') (lo + x - 1)) with
    | true =>
      dsimp only
      rw [if_pos rfl]
      have more : ∀ xs : Array Keyed, (∀ k, KK κ xs k = KK κ (arrOf st') k) → Non κ xs lo (lo + (x + 1)) := fun xs hk i j hi hij hj => by
        rw [hk, hk]
        by_cases hjx : j < lo + x
        · exact hs' i j hi hij hjx
        · have ej : j = lo + x := by omega
          subst ej
          by_cases ei : i = lo + x
          · rw [ei]
            exact KeyOrd.kle_refl _
          · exact KeyOrd.kle_trans (KeyOrd.kle_of_klt e) (hs' i (lo + x - 1) hi (by omega) (by omega))
      by_cases hq0 : q > 0
      · rw [if_pos hq0]
        refine wpS_bind (rev_wp (wpS_pure ⟨0, rfl, B'.arr (mirror_perm _ _ _ _), O'.trans (Out.rev hsz (by omega) (by omega)), more _ (KK_mirror_equal hsz he), by omega, fun i z1 z2 => by congr 1; omega⟩))
      · rw [if_neg hq0]
        exact wpS_pure ⟨0, rfl, B', O', more _ (fun _ => rfl), by omega, fun i z1 z2 => by congr 1; omega⟩
    | false =>
      dsimp only
      rw [if_neg (by decide)]
      refine wpS_bind (ltA hL B' h0 (by omega) (by omega) ?_)
      cases e2 : κ.blt (KK κ (arrOf st') (lo + x - 1)) (KK κ (arrOf st') (lo + x)) with
      | true =>
        dsimp only
        rw [if_pos rfl]
        exact wpS_pure (h x q st' B' O' hax (by omega) hs' hq he)
      | false =>
        dsimp only
        rw [if_neg (by decide)]
        have ex : KK κ (arrOf st') (lo + x) = KK κ (arrOf st') (lo + x - 1) := KeyOrd.kle_antisymm e2 e
        refine wpS_pure ⟨q + 1, rfl, B', O', fun i j hi hij hj => ?_, by omega, fun i z1 z2 => ?_⟩
        · by_cases hjx : j < lo + x
          · exact hs' i j hi hij hjx
          · have ej : j = lo + x := by omega
            subst ej
            by_cases ei : i = lo + x
            · rw [ei]
              exact KeyOrd.kle_refl _
            · rw [ex]
              exact hs' i (lo + x - 1) hi (by omega) (by omega)
        · rw [show lo + (x + 1) - 1 = lo + x by omega]
          by_cases ei : i = lo + x
          · rw [ei]
          · rw [ex]
            exact he i (by omega) (by omega)
  · rintro c st' ⟨q, rfl, B', O', hs', hq, he⟩
    rw [show max n m = m by omega] at hs' hq he ⊢
    exact h m q st' B' O' hnm (Nat.le_refl _) hs' hq he
theorem partL_wp (hL : LtAll prog w A E s κ ks) (h0 : KeysOf κ a₀) {st : SortSt} {lo n m : Nat} {Q : Option Nat → SortSt → Prop} (hn : lo + m ≤ a₀.size) (hnm : n + 1 ≤ m) (B : SB ks a₀ st) (hs : Non κ (arrOf st) lo (lo + (n + 1)))
    (h : ∀ k st', SB ks a₀ st' → Out st st' lo (lo + m) → 1 ≤ k → k ≤ m → Seg κ (arrOf st') lo (lo + k) → Q (some k) st') : wpS (model prog w) A E s (partL lo n m) Q st := by
  unfold partL
  refine wpS_bind (wpS_lift (wpAny_rule ⟨rfl, ?_⟩))
  refine wpS_bind (descL_wp hL h0 hn (by omega) hnm B hs fun k q st' B' O' k1 k2 hs' hq he => ?_)
  dsimp only
  have hsz : lo + k ≤ (arrOf st').size := by rw [B'.size]; omega
  by_cases hq0 : q > 0
  · rw [if_pos hq0]
    refine wpS_bind (rev_wp (tailL_wp hL h0 hn (by omega) k2 (B'.arr (mirror_perm _ _ _ _)) ?_ fun k' st2 B2 O2 => h k' st2 B2 ((O'.trans (Out.rev hsz (by omega) (by omega))).trans O2)))
    intro i j hi hij hj
    show κ.kle (KK κ (mirror (arrOf st') _ _ _) j) (KK κ (mirror (arrOf st') _ _ _) i)
    rw [KK_mirror_equal hsz he, KK_mirror_equal hsz he]
    exact hs' i j hi hij hj
  · rw [if_neg hq0]
    exact tailL_wp hL h0 hn (by omega) k2 B' hs' fun k' st2 B2 O2 => h k' st2 B2 (O'.trans O2)
theorem count_wp (hL : LtAll prog w A E s κ ks) (h0 : KeysOf κ a₀) {st : SortSt} {lo m : Nat} {Q : Option Nat → SortSt → Prop} (hn : lo + m ≤ a₀.size) (h1 : 1 ≤ m) (B : SB ks a₀ st)
    (h : ∀ k st', SB ks a₀ st' → Out st st' lo (lo + m) → 1 ≤ k → k ≤ m → Seg κ (arrOf st') lo (lo + k) → Q (some k) st') : wpS (model prog w) A E s (countRun' lo m) Q st := by
  rw [countL_eq]
  refine wpS_bind (ascL_wp hL h0 hn (Nat.le_refl 1) h1 B (fun i j hi hij hj => by have : i = j := (by omega); rw [this]; exact KeyOrd.kle_refl _) fun n n1 n2 hsn hor => ?_)
  dsimp only
  by_cases hnm : n = m
  · rw [if_pos (by simpa using hnm)]
    exact wpS_pure (h n st B (Out.refl _ _ _) n1 n2 hsn)
  · rw [if_neg (by simpa using hnm)]
    have hlt := hor.resolve_left hnm
    by_cases hgt : n > 1
    · rw [if_pos hgt]
      refine wpS_bind (ltA hL B h0 (by omega) (by omega) ?_)
      cases e : κ.blt (KK κ (arrOf st) lo) (KK κ (arrOf st) (lo + n - 1)) with
      | true =>
        dsimp only
        rw [if_pos rfl]
        exact wpS_pure (h n st B (Out.refl _ _ _) n1 n2 hsn)
      | false =>
        dsimp only
        rw [if_neg (by decide)]
        have hsz : lo + n ≤ (arrOf st).size := by rw [B.size]; omega
        have hall : ∀ k, lo ≤ k → k < lo + n → KK κ (arrOf st) k = KK κ (arrOf st) (lo + n - 1) := fun k hk0 hk => by
          have a1 := hsn lo k (Nat.le_refl _) hk0 hk
          have a2 := hsn k (lo + n - 1) hk0 (by omega) (by omega)
          exact KeyOrd.kle_antisymm a2 (KeyOrd.kle_trans e a1)
        refine wpS_bind (rev_wp (partL_wp hL h0 hn (by omega) (B.arr (mirror_perm _ _ _ _)) ?_ fun k st2 B2 O2 => h k st2 B2 ((Out.rev hsz (Nat.le_refl _) (by omega)).trans O2)))
        intro i j hi hij hj
        show κ.kle (KK κ (mirror (arrOf st) _ _ _) j) (KK κ (mirror (arrOf st) _ _ _) i)
        rw [KK_mirror_equal hsz hall, KK_mirror_equal hsz hall]
        by_cases hjn : j < lo + n
        · rw [hall i hi (by omega), hall j (by omega) hjn]
          exact KeyOrd.kle_refl _
        · have ej : j = lo + n := by omega
          subst ej
          by_cases ei : i = lo + n
          · rw [ei]
            exact KeyOrd.kle_refl _
          · rw [hall i hi (by omega)]
            exact KeyOrd.kle_of_klt hlt
    · rw [if_neg hgt]
      have e1 : n = 1 := by omega
      subst e1
      refine partL_wp hL h0 hn (by omega) B ?_ h
      intro i j hi hij hj
      by_cases ei : i = j
      · rw [ei]
        exact KeyOrd.kle_refl _
      · have i0 : i = lo := by omega
        have j1 : j = lo + 1 := by omega
        rw [i0, j1]
        exact KeyOrd.kle_of_klt hlt
/-- binary insertion -/
theorem bin_wp (hL : LtAll prog w A E s κ ks) (h0 : KeysOf κ a₀) {st : SortSt} {lo n ok : Nat} {Q : Bool → SortSt → Prop} (hn : lo + n ≤ a₀.size) (hok : ok ≤ n) (B : SB ks a₀ st) (hs : Seg κ (arrOf st) lo (lo + ok))
    (h : ∀ st', SB ks a₀ st' → Out st st' lo (lo + n) → Seg κ (arrOf st') lo (lo + n) → Q true st') : wpS (model prog w) A E s (binarySort' lo n ok) Q st := by
  rw [binarySort'_eq]
  refine wpS_bind (wpS_mono (wpS_forRange (I := fun k c st' => c = (none, ()) ∧ SB ks a₀ st' ∧ Out st st' lo (lo + n) ∧ Seg κ (arrOf st') lo (lo + min k n))
    (Q := fun c st' => c = (none, ()) ∧ SB ks a₀ st' ∧ Out st st' lo (lo + n) ∧ Seg κ (arrOf st') lo (lo + n)) ?_ ?_ ?_) ?_)
  · rintro k c st' hk0 hkn ⟨rfl, B', O', hs'⟩
    rw [show min k n = k by omega] at hs'
    refine wpS_bind (wpS_mono (wpS_forRange (I := fun x c st2 => st2 = st' ∧ ∃ l r, c = (none, l, r) ∧ l ≤ r ∧ r ≤ k ∧ r - l ≤ k - x ∧ (∀ i, i < l → κ.kle (KK κ (arrOf st') (lo + i)) (KK κ (arrOf st') (lo + k))) ∧ (∀ i, r ≤ i → i < k → κ.klt (KK κ (arrOf st') (lo + k)) (KK κ (arrOf st') (lo + i))))
      (Q := fun c st2 => st2 = st' ∧ ∃ l r, c = (none, l, r) ∧ l ≤ k ∧ (∀ i, i < l → κ.kle (KK κ (arrOf st') (lo + i)) (KK κ (arrOf st') (lo + k))) ∧ (∀ i, l ≤ i → i < k → κ.klt (KK κ (arrOf st') (lo + k)) (KK κ (arrOf st') (lo + i)))) ?_ ?_ ?_) ?_)
    · rintro x c st2 _ hxk ⟨rfl, l, r, rfl, hlr, hrk, hm, hlo, hhi⟩
      dsimp only
      by_cases hge : l ≥ r
      · rw [if_pos hge]
        have e : l = r := by omega
        subst e
        exact wpS_pure ⟨rfl, l, l, rfl, hrk, hlo, hhi⟩
      · rw [if_neg hge]
        refine wpS_bind (ltA hL B' h0 (by omega) (by omega) ?_)
        cases e : κ.blt (KK κ (arrOf st2) (lo + k)) (KK κ (arrOf st2) (lo + (l + r) / 2)) with
        | true =>
          dsimp only
          rw [if_pos rfl]
          exact wpS_pure ⟨rfl, l, (l + r) / 2, rfl, by omega, by omega, by omega, hlo, fun i z1 z2 => KeyOrd.klt_of_klt_of_kle e (hs' (lo + (l + r) / 2) (lo + i) (by omega) (by omega) (by omega))⟩
        | false =>
          dsimp only
          rw [if_neg (by decide)]
          exact wpS_pure ⟨rfl, (l + r) / 2 + 1, r, rfl, by omega, by omega, by omega, fun i z1 => KeyOrd.kle_trans (hs' (lo + i) (lo + (l + r) / 2) (by omega) (by omega) (by omega)) (show κ.kle _ _ from e), hhi⟩
    · rintro c st2 ⟨rfl, l, r, rfl, hlr, hrk, hm, hlo, hhi⟩
      have e : l = r := by omega
      subst e
      exact ⟨rfl, l, l, rfl, hrk, hlo, hhi⟩
    · exact ⟨rfl, 0, k, rfl, by omega, by omega, by omega, fun i hi => by omega, fun i z1 z2 => by omega⟩
    · rintro c st2 ⟨rfl, l, r, rfl, hlk, hlo, hhi⟩
      show wpS _ _ _ _ (do moveDown' (lo + k) (lo + l); pure (ForInStep.yield (none, ()))) _ _
      rw [moveDown'_eq]
      have hks : lo + k < (arrOf st2).size := by rw [B'.size]; omega
      refine wpS_bind (wpS_modify (wpS_pure ⟨rfl, B'.arr (bubble_perm _ _ _), O'.trans ⟨fun z hz => ?_, rfl⟩, ?_⟩))
      · show (bubble (arrOf st2) (lo + k) (lo + k - (lo + l)))[z]? = _
        rw [getElem?_bubble hks _ (by omega), if_neg (by omega), if_neg (by omega)]
      · rw [show min (k + 1) n = k + 1 by omega]
        intro i j hi hij hj
        show κ.kle (KK κ (bubble (arrOf st2) (lo + k) (lo + k - (lo + l))) i) (KK κ (bubble (arrOf st2) (lo + k) (lo + k - (lo + l))) j)
        rw [KK_bubble hks (by omega), KK_bubble hks (by omega), show lo + k - (lo + k - (lo + l)) = lo + l by omega]
        have hlo' : ∀ z, lo ≤ z → z < lo + l → κ.kle (KK κ (arrOf st2) z) (KK κ (arrOf st2) (lo + k)) := fun z z1 z2 => by
          have := hlo (z - lo) (by omega)
          rw [show lo + (z - lo) = z by omega] at this
          exact this
        have hhi' : ∀ z, lo + l ≤ z → z < lo + k → κ.kle (KK κ (arrOf st2) (lo + k)) (KK κ (arrOf st2) z) := fun z z1 z2 => by
          have := hhi (z - lo) (by omega) (by omega)
          rw [show lo + (z - lo) = z by omega] at this
          exact KeyOrd.kle_of_klt this
        repeat' split
        all_goals first
          | (exfalso; omega)
          | exact KeyOrd.kle_refl _
          | exact hlo' _ (by omega) (by omega)
          | exact hhi' _ (by omega) (by omega)
          | exact hs' _ _ (by omega) (by omega) (by omega)
  · rintro c st' ⟨hc, B', O', hs'⟩
    refine ⟨hc, B', O', ?_⟩
    rwa [show min (max (max ok 1) n) n = n by omega] at hs'
  · refine ⟨rfl, B, Out.refl _ _ _, fun i j hi hij hj => ?_⟩
    by_cases z : ok = 0
    · have e : i = j := by omega
      rw [e]
      exact KeyOrd.kle_refl _
    · exact hs i j hi hij (by omega)
  · rintro c st' ⟨rfl, B', O', hs'⟩
    exact wpS_pure (h st' B' O' hs')
end
end Srt

set_option Elab.async false
set_option linter.all false
set_option maxRecDepth 100000
/-! list.sort: two runs merged from the left. -/
namespace Srt
open PySem PyProof.Rows
def mergeLoP : Array Keyed → Array Keyed → Sm (Array Keyed) := sortPriv% PySem.Builtin.mergeLo
def setMinP : Nat → Sm Unit := sortPriv% PySem.Builtin.setMinGallop
/-- told, out, ia, ib; the counts -/
abbrev C1 := Option (Array Keyed) × Array Keyed × Nat × Nat × Nat × Nat
abbrev C2 := Option (Array Keyed) × Array Keyed × Nat × Nat × Nat × Nat × Nat
abbrev C0 := Option (Array Keyed) × Array Keyed × Nat × Nat × Nat
def one (a b : Array Keyed) (g : Nat) (out : Array Keyed) (ia ib ac bc : Nat) : Sm (ForInStep C1) := do
  let y ← elem' b ib
  let x ← elem' a ia
  let r ← lt' y x
  match r with
  | some w =>
    if w = true then do
      let y ← elem' b ib
      if (ib + 1 == b.size) = true then pure (ForInStep.done (some (out.push y ++ a.extract ia a.size ++ b.extract (ib + 1) b.size), out.push y, ia, ib + 1, 0, bc + 1))
      else if bc + 1 ≥ g then pure (ForInStep.done (none, out.push y, ia, ib + 1, 0, bc + 1)) else pure (ForInStep.yield (none, out.push y, ia, ib + 1, 0, bc + 1))
    else do
      let x ← elem' a ia
      if (ia + 1 + 1 == a.size) = true then pure (ForInStep.done (some (out.push x ++ b.extract ib b.size ++ a.extract (ia + 1) a.size), out.push x, ia + 1, ib, ac + 1, 0))
      else if ac + 1 ≥ g then pure (ForInStep.done (none, out.push x, ia + 1, ib, ac + 1, 0)) else pure (ForInStep.yield (none, out.push x, ia + 1, ib, ac + 1, 0))
  | _ => pure (ForInStep.done (some (out ++ a.extract ia a.size ++ b.extract ib b.size), out, ia, ib, ac, bc))
def gl4 (a b : Array Keyed) (out : Array Keyed) (ia ib g k k1 : Nat) : Sm (ForInStep C2) := do
  let x ← elem' a ia
  if (ia + 1 + 1 == a.size) = true then pure (ForInStep.done (some (out.push x ++ b.extract ib b.size ++ a.extract (ia + 1) a.size), out.push x, ia + 1, ib, g, k, k1))
  else if (decide (k < 7) && decide (k1 < 7)) = true then pure (ForInStep.done (none, out.push x, ia + 1, ib, g, k, k1)) else pure (ForInStep.yield (none, out.push x, ia + 1, ib, g, k, k1))
def gl3 (a b : Array Keyed) (out : Array Keyed) (ia ib g k bc : Nat) : Sm (ForInStep C2) := do
  let x ← elem' a ia
  let r ← gallopP true x b ib (b.size - ib) 0
  match r with
  | some k1 =>
    if k1 > 0 then
      if (ib + k1 == b.size) = true then pure (ForInStep.done (some (out ++ b.extract ib (ib + k1) ++ a.extract ia a.size ++ b.extract (ib + k1) b.size), out ++ b.extract ib (ib + k1), ia, ib + k1, g, k, k1))
      else gl4 a b (out ++ b.extract ib (ib + k1)) ia (ib + k1) g k k1
    else gl4 a b out ia ib g k k1
  | _ => pure (ForInStep.done (some (out ++ a.extract ia a.size ++ b.extract ib b.size), out, ia, ib, g, k, bc))
def gl2 (a b : Array Keyed) (out : Array Keyed) (ia ib g k bc : Nat) : Sm (ForInStep C2) := do
  let y ← elem' b ib
  if (ib + 1 == b.size) = true then pure (ForInStep.done (some (out.push y ++ a.extract ia a.size ++ b.extract (ib + 1) b.size), out.push y, ia, ib + 1, g, k, bc))
  else gl3 a b (out.push y) ia (ib + 1) g k bc
def gl1 (a b : Array Keyed) (out : Array Keyed) (ia ib g ac bc : Nat) : Sm (ForInStep C2) := do
  setMinP g
  let y ← elem' b ib
  let r ← gallopP false y a ia (a.size - ia) 0
  match r with
  | some k =>
    if k > 0 then
      if (ia + k + 1 == a.size) = true then pure (ForInStep.done (some (out ++ a.extract ia (ia + k) ++ b.extract ib b.size ++ a.extract (ia + k) a.size), out ++ a.extract ia (ia + k), ia + k, ib, g, k, bc))
      else if (ia + k == a.size) = true then pure (ForInStep.done (some (out ++ a.extract ia (ia + k) ++ a.extract (ia + k) a.size ++ b.extract ib b.size), out ++ a.extract ia (ia + k), ia + k, ib, g, k, bc))
      else gl2 a b (out ++ a.extract ia (ia + k)) (ia + k) ib g k bc
    else gl2 a b out ia ib g k bc
  | _ => pure (ForInStep.done (some (out ++ a.extract ia a.size ++ b.extract ib b.size), out, ia, ib, g, ac, bc))
def gal (a b : Array Keyed) (out : Array Keyed) (ia ib g ac bc : Nat) : Sm (ForInStep C2) := if g > 1 then gl1 a b out ia ib (g - 1) ac bc else gl1 a b out ia ib g ac bc
def round (a b : Array Keyed) (out : Array Keyed) (ia ib g : Nat) : Sm (ForInStep C0) := do
  let c ← forIn [0:a.size + b.size] ((none, out, ia, ib, 0, 0) : C1) fun _ c => one a b g c.2.1 c.2.2.1 c.2.2.2.1 c.2.2.2.2.1 c.2.2.2.2.2
  match c.1 with
  | some r => pure (ForInStep.done (some r, c.2.1, c.2.2.1, c.2.2.2.1, g))
  | none => do
    liftM (rule "list.sort.gallop")
    let d ← forIn [0:a.size + b.size] ((none, c.2.1, c.2.2.1, c.2.2.2.1, g + 1, c.2.2.2.2.1, c.2.2.2.2.2) : C2) fun _ d => gal a b d.2.1 d.2.2.1 d.2.2.2.1 d.2.2.2.2.1 d.2.2.2.2.2.1 d.2.2.2.2.2.2
    match d.1 with
    | some r => pure (ForInStep.done (some r, d.2.1, d.2.2.1, d.2.2.2.1, d.2.2.2.2.1))
    | none => do
      setMinP (d.2.2.2.2.1 + 1)
      pure (ForInStep.yield (none, d.2.1, d.2.2.1, d.2.2.2.1, d.2.2.2.2.1 + 1))
theorem fi {β : Type} {r : Std.Legacy.Range} {c : β} {f f' : Nat → β → Sm (ForInStep β)} (h : f = f') : (forIn r c f : Sm β) = forIn r c f' := by rw [h]
theorem ic {α : Type} {c : Prop} [Decidable c] {x x' y y' : α} (h : x = x') (h' : y = y') : (if c then x else y) = if c then x' else y' := by rw [h, h']
theorem lo_eq (a b : Array Keyed) : mergeLoP a b = (do
    liftM (rule "list.sort.merge-lo")
    let e ← elem' b 0
    if (1 == b.size) = true then pure (#[e] ++ a.extract 0 a.size ++ b.extract 1 b.size)
    else if (0 + 1 == a.size) = true then pure (#[e] ++ b.extract 1 b.size ++ a.extract 0 a.size)
    else do
      let s ← get
      let c ← forIn [0:a.size + b.size] ((none, #[e], 0, 1, gallopOf s) : C0) fun _ c => round a b c.2.1 c.2.2.1 c.2.2.2.1 c.2.2.2.2
      match c.1 with
      | some r => pure r
      | none => liftM (unsupported "internal:list.sort.merge-bound")) := by
  delta mergeLoP
  refine bc rfl (funext fun u => bc rfl (funext fun e => ic rfl (ic rfl (bc rfl (funext fun s => bc (fi (funext fun x => funext fun c => ?_)) (funext fun c => ?_))))))
  · unfold round
    refine bc (fi (funext fun x => funext fun c1 => ?_)) (funext fun c1 => ?_)
    · unfold one
      refine bc rfl (funext fun y => bc rfl (funext fun x => bc rfl (funext fun r => ?_)))
      cases r with
      | none => rfl
      | some w => exact ic (bc rfl (funext fun y => ic rfl (ic rfl rfl))) (bc rfl (funext fun y => ic rfl (ic rfl rfl)))
    · obtain ⟨r, c1⟩ := c1
      cases r with
      | some r => rfl
      | none =>
        refine bc rfl (funext fun u => bc (fi (funext fun x => funext fun d => ?_)) (funext fun d => ?_))
        · unfold gal
          refine ic ?_ ?_
          · unfold gl1; exact bc rfl (funext fun u => bc rfl (funext fun y => bc rfl (funext fun r => by cases r with | none => rfl | some k => exact ic (ic rfl (ic rfl (by unfold gl2; exact bc rfl (funext fun y => ic rfl (by unfold gl3; exact bc rfl (funext fun x => bc rfl (funext fun r => by cases r with | none => rfl | some k1 => exact ic (ic rfl (by unfold gl4; exact bc rfl (funext fun x => ic rfl (ic rfl rfl)))) (by unfold gl4; exact bc rfl (funext fun x => ic rfl (ic rfl rfl)))))))))) (by unfold gl2; exact bc rfl (funext fun y => ic rfl (by unfold gl3; exact bc rfl (funext fun x => bc rfl (funext fun r => by cases r with | none => rfl | some k1 => exact ic (ic rfl (by unfold gl4; exact bc rfl (funext fun x => ic rfl (ic rfl rfl)))) (by unfold gl4; exact bc rfl (funext fun x => ic rfl (ic rfl rfl)))))))))))
          · unfold gl1; exact bc rfl (funext fun u => bc rfl (funext fun y => bc rfl (funext fun r => by cases r with | none => rfl | some k => exact ic (ic rfl (ic rfl (by unfold gl2; exact bc rfl (funext fun y => ic rfl (by unfold gl3; exact bc rfl (funext fun x => bc rfl (funext fun r => by cases r with | none => rfl | some k1 => exact ic (ic rfl (by unfold gl4; exact bc rfl (funext fun x => ic rfl (ic rfl rfl)))) (by unfold gl4; exact bc rfl (funext fun x => ic rfl (ic rfl rfl)))))))))) (by unfold gl2; exact bc rfl (funext fun y => ic rfl (by unfold gl3; exact bc rfl (funext fun x => bc rfl (funext fun r => by cases r with | none => rfl | some k1 => exact ic (ic rfl (by unfold gl4; exact bc rfl (funext fun x => ic rfl (ic rfl rfl)))) (by unfold gl4; exact bc rfl (funext fun x => ic rfl (ic rfl rfl)))))))))))
        · obtain ⟨r, d⟩ := d
          cases r <;> rfl
  · obtain ⟨r, c⟩ := c
    cases r <;> rfl
def key (κ : PyProof.Rows.KeyKind) (p : Keyed) : κ.α := (κ.keyOf p.1).getD κ.dflt
def leK (κ : PyProof.Rows.KeyKind) (x y : Keyed) : Prop := κ.kle (key κ x) (key κ y)
theorem leK_trans {κ : PyProof.Rows.KeyKind} {x y z : Keyed} (h : leK κ x y) (h' : leK κ y z) : leK κ x z := KeyOrd.kle_trans h h'
/-- only the gallop's number may be another one -/
structure SG (st st' : SortSt) : Prop where
  kind : kindOf st' = kindOf st
  arr : arrOf st' = arrOf st
  pend : pendingOf st' = pendingOf st
  fail : failedOf st' = failedOf st
theorem SG.refl (st : SortSt) : SG st st := ⟨rfl, rfl, rfl, rfl⟩
/-- two runs that may be merged -/
structure Two (κ : PyProof.Rows.KeyKind) (a b : Array Keyed) : Prop where
  ka : KeysOf κ a
  kb : KeysOf κ b
  sa : a.toList.Pairwise (leK κ)
  sb : b.toList.Pairwise (leK κ)
theorem item {κ : PyProof.Rows.KeyKind} {a : Array Keyed} (ka : KeysOf κ a) {i : Nat} (hi : i < a.size) : ∃ p, a[i]? = some p ∧ κ.keyOf p.1 = some (key κ p) ∧ KK κ a i = key κ p ∧ a.toList.drop i = p :: a.toList.drop (i + 1) := by
  have e : a[i]? = some a[i] := Array.getElem?_eq_getElem hi
  obtain ⟨k, hk⟩ := ka a[i] (Array.mem_toList_iff.mpr (Array.getElem_mem hi))
  have ek : key κ a[i] = k := by
    unfold key
    rw [hk]
    rfl
  refine ⟨a[i], e, by rw [ek]; exact hk, ?_, ?_⟩
  · unfold KK
    rw [e, ek]
    dsimp only
    rw [hk]
    rfl
  · have := List.drop_eq_getElem_cons (l := a.toList) (i := i) (by simpa using hi)
    rw [this]
    simp
theorem pw_head {κ : PyProof.Rows.KeyKind} {l r : List Keyed} {p : Keyed} {i : Nat} (h : l.Pairwise (leK κ)) (e : l.drop i = p :: r) : ∀ y ∈ l.drop i, leK κ p y := by
  have hp := h.sublist (List.drop_sublist i l)
  rw [e] at hp ⊢
  intro y hy
  rcases List.mem_cons.mp hy with z | z
  · rw [z]
    exact KeyOrd.kle_refl _
  · exact (List.pairwise_cons.mp hp).1 y z
theorem ext_list (a : Array Keyed) (i j : Nat) : (a.extract i j).toList = (a.toList.drop i).take (j - i) := by
  rw [Array.toList_extract]
theorem ext_all (a : Array Keyed) (i : Nat) : (a.extract i a.size).toList = a.toList.drop i := by
  rw [ext_list]
  refine List.take_of_length_le ?_
  rw [List.length_drop, Array.length_toList]
  exact Nat.le_refl _
theorem take_mem {κ : PyProof.Rows.KeyKind} {a : Array Keyed} (ka : KeysOf κ a) {i k : Nat} {x : Keyed} (h : x ∈ (a.toList.drop i).take k) : ∃ j, j < k ∧ i + j < a.size ∧ KK κ a (i + j) = key κ x := by
  obtain ⟨j, hj, rfl⟩ := List.getElem_of_mem h
  rw [List.length_take, List.length_drop, Array.length_toList] at hj
  refine ⟨j, by omega, by omega, ?_⟩
  obtain ⟨p, e1, e2, e3, e4⟩ := item ka (i := i + j) (by omega)
  rw [e3, List.getElem_take, List.getElem_drop]
  have : a.toList[i + j]? = some p := by
    rw [Array.getElem?_toList]
    exact e1
  rw [List.getElem?_eq_getElem (by rw [Array.length_toList]; omega)] at this
  rw [Option.some.inj this]
theorem drop_mem {κ : PyProof.Rows.KeyKind} {a : Array Keyed} (ka : KeysOf κ a) {i : Nat} {x : Keyed} (h : x ∈ a.toList.drop i) : ∃ j, i ≤ j ∧ j < a.size ∧ KK κ a j = key κ x := by
  have h' : x ∈ (a.toList.drop i).take (a.toList.drop i).length := by rw [List.take_length]; exact h
  obtain ⟨j, _, h2, h3⟩ := take_mem ka h'
  exact ⟨i + j, by omega, h2, h3⟩
theorem KK_mono {κ : PyProof.Rows.KeyKind} {a : Array Keyed} (ka : KeysOf κ a) (sa : a.toList.Pairwise (leK κ)) {i j : Nat} (hij : i ≤ j) (hj : j < a.size) : κ.kle (KK κ a i) (KK κ a j) := by
  obtain ⟨p, _, _, e3, e4⟩ := item ka (i := i) (by omega)
  obtain ⟨q, _, _, f3, f4⟩ := item ka (i := j) hj
  rw [e3, f3]
  refine pw_head sa e4 q ?_
  have : q ∈ a.toList.drop j := by rw [f4]; exact List.mem_cons_self
  exact mem_drop_of hij this
section
variable {prog : Program} {w : World} {A : Around} {E : Value → Shared → Prop} {s : Shared} {κ : PyProof.Rows.KeyKind} {ks : SortKind} {a b : Array Keyed}
theorem setMin_wp {g : Nat} {Q : Unit → SortSt → Prop} {st : SortSt} (h : ∀ st', SG st st' → Q () st') : wpS (model prog w) A E s (setMinP g) Q st := wpS_modify (h _ ⟨rfl, rfl, rfl, rfl⟩)
/-- the merge stands at ia, ib -/
structure At (κ : PyProof.Rows.KeyKind) (a b out : Array Keyed) (ia ib : Nat) : Prop where
  mi : MI (leK κ) a.toList b.toList out.toList ia ib
  ha : ia + 1 < a.size
  hb : ib < b.size
theorem At.pushA {out : Array Keyed} {ia ib : Nat} {x : Keyed} (T : Two κ a b) (m : MI (leK κ) a.toList b.toList out.toList ia ib) (e : a.toList.drop ia = x :: a.toList.drop (ia + 1)) (h : ∀ y ∈ b.toList.drop ib, leK κ x y) :
    MI (leK κ) a.toList b.toList (out.push x).toList (ia + 1) ib := by
  have := m.segA (k := 1) T.sa fun z hz y hy => by
    rw [e] at hz
    have : z = x := by simpa using hz
    rw [this]
    exact h y hy
  rw [e] at this
  rw [Array.toList_push]
  exact this
theorem At.pushB {out : Array Keyed} {ia ib : Nat} {x : Keyed} (T : Two κ a b) (m : MI (leK κ) a.toList b.toList out.toList ia ib) (e : b.toList.drop ib = x :: b.toList.drop (ib + 1)) (h : ∀ y ∈ a.toList.drop ia, leK κ x y) :
    MI (leK κ) a.toList b.toList (out.push x).toList ia (ib + 1) := by
  have := m.segB (k := 1) T.sb fun z hz y hy => by
    rw [e] at hz
    have : z = x := by simpa using hz
    rw [this]
    exact h y hy
  rw [e] at this
  rw [Array.toList_push]
  exact this
theorem At.segA {out : Array Keyed} {ia ib k : Nat} (T : Two κ a b) (m : MI (leK κ) a.toList b.toList out.toList ia ib) (h : ∀ x ∈ (a.toList.drop ia).take k, ∀ y ∈ b.toList.drop ib, leK κ x y) : MI (leK κ) a.toList b.toList (out ++ a.extract ia (ia + k)).toList (ia + k) ib := by
  have := m.segA (k := k) T.sa h
  rw [Array.toList_append, ext_list, show ia + k - ia = k by omega]
  exact this
theorem At.segB {out : Array Keyed} {ia ib k : Nat} (T : Two κ a b) (m : MI (leK κ) a.toList b.toList out.toList ia ib) (h : ∀ x ∈ (b.toList.drop ib).take k, ∀ y ∈ a.toList.drop ia, leK κ x y) : MI (leK κ) a.toList b.toList (out ++ b.extract ib (ib + k)).toList ia (ib + k) := by
  have := m.segB (k := k) T.sb h
  rw [Array.toList_append, ext_list, show ib + k - ib = k by omega]
  exact this
abbrev Rs (κ : PyProof.Rows.KeyKind) (a b : Array Keyed) (r : Array Keyed) : Prop := Done (leK κ) a.toList b.toList r.toList
/-- nothing of b is greater than the last of a -/
def LastA (κ : PyProof.Rows.KeyKind) (a b : Array Keyed) : Prop := ∀ y ∈ b.toList, ∀ x ∈ a.toList.drop (a.size - 1), leK κ y x
theorem end_b {out : Array Keyed} {ia ib : Nat} (T : Two κ a b) (m : MI (leK κ) a.toList b.toList out.toList ia ib) (h : ib = b.size) : Rs κ a b (out ++ a.extract ia a.size ++ b.extract ib b.size) := by
  have := m.endB T.sa (by rw [Array.length_toList]; omega)
  unfold Rs
  rw [Array.toList_append, Array.toList_append, ext_all, ext_all]
  exact this
theorem end_a {out : Array Keyed} {ia ib : Nat} (T : Two κ a b) (m : MI (leK κ) a.toList b.toList out.toList ia ib) (h : ia = a.size) : Rs κ a b (out ++ a.extract ia a.size ++ b.extract ib b.size) := by
  have := m.endA T.sb (by rw [Array.length_toList]; omega)
  unfold Rs
  rw [Array.toList_append, Array.toList_append, ext_all, ext_all]
  exact this
theorem end_l {out : Array Keyed} {ia ib : Nat} (T : Two κ a b) (L : LastA κ a b) (m : MI (leK κ) a.toList b.toList out.toList ia ib) (h : ia + 1 = a.size) : Rs κ a b (out ++ b.extract ib b.size ++ a.extract ia a.size) := by
  have := m.last T.sa T.sb fun y hy x hx => L y (List.mem_of_mem_drop hy) x (by rw [show a.size - 1 = ia by omega]; exact hx)
  unfold Rs
  rw [Array.toList_append, Array.toList_append, ext_all, ext_all]
  exact this
theorem one_wp (hL : LtAll prog w A E s κ ks) (T : Two κ a b) (L : LastA κ a b) {g ia ib ac bc : Nat} {out : Array Keyed} {st : SortSt} (hk : kindOf st = ks) (m : At κ a b out ia ib) :
    wpS (model prog w) A E s (one a b g out ia ib ac bc) (fun r st' => st' = st ∧ match r with
      | .done c => (∃ z, c.1 = some z ∧ Rs κ a b z) ∨ (c.1 = none ∧ At κ a b c.2.1 c.2.2.1 c.2.2.2.1 ∧ ia + ib + 1 = c.2.2.1 + c.2.2.2.1)
      | .yield c => c.1 = none ∧ At κ a b c.2.1 c.2.2.1 c.2.2.2.1 ∧ ia + ib + 1 = c.2.2.1 + c.2.2.2.1) st := by
  obtain ⟨x, x1, x2, x3, x4⟩ := item T.ka (i := ia) (by have := m.ha; omega)
  obtain ⟨y, y1, y2, y3, y4⟩ := item T.kb m.hb
  unfold one
  refine wpS_bind (wpS_elem y1 (wpS_bind (wpS_elem x1 (wpS_bind (hL st hk _ _ _ _ _ y2 x2 ?_)))))
  cases e : κ.blt (key κ y) (key κ x) with
  | true =>
    dsimp only
    rw [if_pos rfl]
    refine wpS_bind (wpS_elem y1 ?_)
    have m' := At.pushB T m.mi y4 fun z hz => leK_trans (KeyOrd.kle_of_klt e) (pw_head T.sa x4 z hz)
    by_cases hb : ib + 1 = b.size
    · rw [if_pos (by simpa using hb)]
      exact wpS_pure ⟨rfl, .inl ⟨_, rfl, end_b T m' hb⟩⟩
    · rw [if_neg (by simpa using hb)]
      have at' : At κ a b (out.push y) ia (ib + 1) := ⟨m', m.ha, by have := m.hb; omega⟩
      split
      · exact wpS_pure ⟨rfl, .inr ⟨rfl, at', by dsimp only; omega⟩⟩
      · exact wpS_pure ⟨rfl, rfl, at', by dsimp only; omega⟩
  | false =>
    dsimp only
    rw [if_neg (by decide)]
    refine wpS_bind (wpS_elem x1 ?_)
    have m' := At.pushA T m.mi x4 fun z hz => leK_trans (show leK κ x y from e) (pw_head T.sb y4 z hz)
    by_cases ha : ia + 1 + 1 = a.size
    · rw [if_pos (by simpa using ha)]
      exact wpS_pure ⟨rfl, .inl ⟨_, rfl, end_l T L m' ha⟩⟩
    · rw [if_neg (by simpa using ha)]
      have at' : At κ a b (out.push x) (ia + 1) ib := ⟨m', by have := m.ha; omega, m.hb⟩
      split
      · exact wpS_pure ⟨rfl, .inr ⟨rfl, at', by dsimp only; omega⟩⟩
      · exact wpS_pure ⟨rfl, rfl, at', by dsimp only; omega⟩
/-- the end of a turn of the gallop -/
def G2 (κ : PyProof.Rows.KeyKind) (a b : Array Keyed) (n : Nat) (st : SortSt) (r : ForInStep C2) (st' : SortSt) : Prop := SG st st' ∧ match r with
  | .done c => (∃ z, c.1 = some z ∧ Rs κ a b z) ∨ (c.1 = none ∧ At κ a b c.2.1 c.2.2.1 c.2.2.2.1 ∧ n ≤ c.2.2.1 + c.2.2.2.1)
  | .yield c => c.1 = none ∧ At κ a b c.2.1 c.2.2.1 c.2.2.2.1 ∧ n ≤ c.2.2.1 + c.2.2.2.1
theorem gl4_wp (T : Two κ a b) (L : LastA κ a b) {g ia ib k k1 n : Nat} {out : Array Keyed} {st0 st : SortSt} (sg : SG st0 st) (m : At κ a b out ia ib) (hn : n ≤ ia + ib + 1) (h : ∀ y ∈ b.toList.drop ib, ∀ x, a[ia]? = some x → leK κ x y) :
    wpS (model prog w) A E s (gl4 a b out ia ib g k k1) (G2 κ a b n st0) st := by
  obtain ⟨x, x1, x2, x3, x4⟩ := item T.ka (i := ia) (by have := m.ha; omega)
  unfold gl4
  refine wpS_bind (wpS_elem x1 ?_)
  have m' := At.pushA T m.mi x4 fun z hz => h z hz x x1
  by_cases ha : ia + 1 + 1 = a.size
  · rw [if_pos (by simpa using ha)]
    exact wpS_pure ⟨sg, .inl ⟨_, rfl, end_l T L m' ha⟩⟩
  · rw [if_neg (by simpa using ha)]
    have at' : At κ a b (out.push x) (ia + 1) ib := ⟨m', by have := m.ha; omega, m.hb⟩
    split
    · exact wpS_pure ⟨sg, .inr ⟨rfl, at', by dsimp only; omega⟩⟩
    · exact wpS_pure ⟨sg, rfl, at', by dsimp only; omega⟩
theorem gl3_wp (hL : LtAll prog w A E s κ ks) (T : Two κ a b) (L : LastA κ a b) {g ia ib k bc n : Nat} {out : Array Keyed} {st0 st : SortSt} (hk : kindOf st = ks) (sg : SG st0 st) (m : At κ a b out ia ib) (hn : n ≤ ia + ib + 1) :
    wpS (model prog w) A E s (gl3 a b out ia ib g k bc) (G2 κ a b n st0) st := by
  obtain ⟨x, x1, x2, x3, x4⟩ := item T.ka (i := ia) (by have := m.ha; omega)
  have hb := m.hb
  unfold gl3
  refine wpS_bind (wpS_elem x1 ?_)
  refine wpS_bind (wpS_gallop (κ := κ) (kk := key κ x) (hL st hk) x2 (by omega) (fun i hi => ?_) (fun i j hij hj hbj => ?_) fun k1 kn kt kf => ?_)
  · obtain ⟨p, p1, p2, p3, _⟩ := item T.kb (i := ib + i) (by omega)
    exact ⟨p, _, p1, p2, p3⟩
  · have mono := KK_mono T.kb T.sb (i := ib + i) (j := ib + j) (by omega) (by omega)
    exact KeyOrd.klt_of_kle_of_klt mono hbj
  · have late : ∀ y ∈ b.toList.drop (ib + k1), ∀ z, a[ia]? = some z → leK κ z y := fun y hy z hz => by
      rw [x1] at hz
      cases hz
      obtain ⟨j, j1, j2, j3⟩ := drop_mem T.kb hy
      have := kf (j - ib) (by omega) (by omega)
      rw [show ib + (j - ib) = j by omega, j3] at this
      exact this
    by_cases h0 : k1 > 0
    · dsimp only
      rw [if_pos h0]
      have m' := At.segB (k := k1) T m.mi fun z hz y hy => by
        obtain ⟨j, j1, j2, j3⟩ := take_mem T.kb hz
        have := kt j j1
        rw [j3] at this
        exact leK_trans (KeyOrd.kle_of_klt this) (pw_head T.sa x4 y hy)
      by_cases e : ib + k1 = b.size
      · rw [if_pos (by simpa using e)]
        exact wpS_pure ⟨sg, .inl ⟨_, rfl, end_b T m' e⟩⟩
      · rw [if_neg (by simpa using e)]
        exact gl4_wp T L sg ⟨m', m.ha, by omega⟩ (by omega) late
    · dsimp only
      rw [if_neg h0]
      have e : k1 = 0 := by omega
      rw [e] at late
      exact gl4_wp T L sg m hn late
theorem gl2_wp (hL : LtAll prog w A E s κ ks) (T : Two κ a b) (L : LastA κ a b) {g ia ib k bc n : Nat} {out : Array Keyed} {st0 st : SortSt} (hk : kindOf st = ks) (sg : SG st0 st) (m : At κ a b out ia ib) (hn : n ≤ ia + ib + 1) (h : ∀ x ∈ a.toList.drop ia, ∀ y, b[ib]? = some y → leK κ y x) :
    wpS (model prog w) A E s (gl2 a b out ia ib g k bc) (G2 κ a b n st0) st := by
  obtain ⟨y, y1, y2, y3, y4⟩ := item T.kb m.hb
  unfold gl2
  refine wpS_bind (wpS_elem y1 ?_)
  have m' := At.pushB T m.mi y4 fun z hz => h z hz y y1
  by_cases hb : ib + 1 = b.size
  · rw [if_pos (by simpa using hb)]
    exact wpS_pure ⟨sg, .inl ⟨_, rfl, end_b T m' hb⟩⟩
  · rw [if_neg (by simpa using hb)]
    exact gl3_wp hL T L hk sg ⟨m', m.ha, by have := m.hb; omega⟩ (by omega)
theorem gl1_wp (hL : LtAll prog w A E s κ ks) (T : Two κ a b) (L : LastA κ a b) {g ia ib ac bc n : Nat} {out : Array Keyed} {st0 st : SortSt} (hk : kindOf st = ks) (sg : SG st0 st) (m : At κ a b out ia ib) (hn : n ≤ ia + ib + 1) :
    wpS (model prog w) A E s (gl1 a b out ia ib g ac bc) (G2 κ a b n st0) st := by
  obtain ⟨y, y1, y2, y3, y4⟩ := item T.kb m.hb
  have ha := m.ha
  unfold gl1
  refine wpS_bind (setMin_wp fun st' sg' => ?_)
  have hk' : kindOf st' = ks := sg'.kind.trans hk
  have sg2 : SG st0 st' := ⟨sg'.kind.trans sg.kind, sg'.arr.trans sg.arr, sg'.pend.trans sg.pend, sg'.fail.trans sg.fail⟩
  refine wpS_bind (wpS_elem y1 ?_)
  refine wpS_bind (wpS_gallop (κ := κ) (kk := key κ y) (hL st' hk') y2 (by omega) (fun i hi => ?_) (fun i j hij hj hbj => ?_) fun k kn kt kf => ?_)
  · obtain ⟨p, p1, p2, p3, _⟩ := item T.ka (i := ia + i) (by omega)
    exact ⟨p, _, p1, p2, p3⟩
  · have mono := KK_mono T.ka T.sa (i := ia + i) (j := ia + j) (by omega) (by omega)
    have hbj : (!κ.blt (key κ y) (KK κ a (ia + j))) = true := hbj
    show (!κ.blt (key κ y) (KK κ a (ia + i))) = true
    rw [Bool.not_eq_true'] at hbj ⊢
    exact KeyOrd.kle_trans mono hbj
  · have late : ∀ x ∈ a.toList.drop (ia + k), ∀ z, b[ib]? = some z → leK κ z x := fun x hx z hz => by
      rw [y1] at hz
      cases hz
      obtain ⟨j, j1, j2, j3⟩ := drop_mem T.ka hx
      have := kf (j - ia) (by omega) (by omega)
      rw [show ia + (j - ia) = j by omega, j3] at this
      have this : (!κ.blt (key κ y) (key κ x)) = false := this
      rw [Bool.not_eq_false'] at this
      exact KeyOrd.kle_of_klt this
    by_cases h0 : k > 0
    · dsimp only
      rw [if_pos h0]
      have m' := At.segA (k := k) T m.mi fun z hz x hx => by
        obtain ⟨j, j1, j2, j3⟩ := take_mem T.ka hz
        have := kt j j1
        rw [j3] at this
        have this : (!κ.blt (key κ y) (key κ z)) = true := this
        rw [Bool.not_eq_true'] at this
        exact leK_trans (show leK κ z y from this) (pw_head T.sb y4 x hx)
      by_cases e : ia + k + 1 = a.size
      · rw [if_pos (by simpa using e)]
        exact wpS_pure ⟨sg2, .inl ⟨_, rfl, end_l T L m' e⟩⟩
      · rw [if_neg (by simpa using e)]
        by_cases e2 : ia + k = a.size
        · rw [if_pos (by simpa using e2)]
          exact wpS_pure ⟨sg2, .inl ⟨_, rfl, end_a T m' e2⟩⟩
        · rw [if_neg (by simpa using e2)]
          exact gl2_wp hL T L hk' sg2 ⟨m', by omega, m.hb⟩ (by omega) late
    · dsimp only
      rw [if_neg h0]
      have e : k = 0 := by omega
      rw [e] at late
      exact gl2_wp hL T L hk' sg2 m hn late
theorem round_wp (hL : LtAll prog w A E s κ ks) (T : Two κ a b) (L : LastA κ a b) {g ia ib : Nat} {out : Array Keyed} {st0 st : SortSt} (hk : kindOf st = ks) (sg : SG st0 st) (m : At κ a b out ia ib) :
    wpS (model prog w) A E s (round a b out ia ib g) (fun r st' => SG st0 st' ∧ match r with
      | .done c => ∃ z, c.1 = some z ∧ Rs κ a b z
      | .yield c => c.1 = none ∧ At κ a b c.2.1 c.2.2.1 c.2.2.2.1 ∧ ia + ib + 1 ≤ c.2.2.1 + c.2.2.2.1) st := by
  unfold round
  have tot : 0 < a.size + b.size := by have := m.ha; omega
  refine wpS_bind (wpS_mono (wpS_forRange (I := fun x c st' => st' = st ∧ c.1 = none ∧ At κ a b c.2.1 c.2.2.1 c.2.2.2.1 ∧ ia + ib + x = c.2.2.1 + c.2.2.2.1)
    (Q := fun c st' => st' = st ∧ ((∃ z, c.1 = some z ∧ Rs κ a b z) ∨ (c.1 = none ∧ At κ a b c.2.1 c.2.2.1 c.2.2.2.1 ∧ ia + ib + 1 ≤ c.2.2.1 + c.2.2.2.1))) ?_ ?_ ⟨rfl, rfl, m, rfl⟩) ?_)
  · rintro x ⟨c0, o, i, j, ac, bc⟩ st' _ hx ⟨rfl, rfl, m', e⟩
    dsimp only at m' e ⊢
    refine wpS_mono (one_wp hL T L hk m') fun r st2 h2 => ?_
    obtain ⟨rfl, h2⟩ := h2
    cases r with
    | done c =>
      rcases h2 with h2 | ⟨h2, h3, h4⟩
      · exact ⟨rfl, .inl h2⟩
      · exact ⟨rfl, .inr ⟨h2, h3, by omega⟩⟩
    | yield c =>
      obtain ⟨h2, h3, h4⟩ := h2
      exact ⟨rfl, h2, h3, by omega⟩
  · rintro c st' ⟨rfl, h1, h2, h3⟩
    exact ⟨rfl, .inr ⟨h1, h2, by omega⟩⟩
  · rintro ⟨c0, o, i, j, ac, bc⟩ st' ⟨rfl, h⟩
    dsimp only at h ⊢
    rcases h with ⟨z, rfl, hz⟩ | ⟨rfl, m', hij⟩
    · exact wpS_pure ⟨sg, z, rfl, hz⟩
    · dsimp only
      refine wpS_bind (wpS_lift (wpAny_rule ⟨rfl, ?_⟩))
      refine wpS_bind (wpS_mono (wpS_forRange (I := fun x c st2 => SG st0 st2 ∧ c.1 = none ∧ At κ a b c.2.1 c.2.2.1 c.2.2.2.1 ∧ ia + ib + 1 ≤ c.2.2.1 + c.2.2.2.1)
        (Q := fun c st2 => SG st0 st2 ∧ ((∃ z, c.1 = some z ∧ Rs κ a b z) ∨ (c.1 = none ∧ At κ a b c.2.1 c.2.2.1 c.2.2.2.1 ∧ ia + ib + 1 ≤ c.2.2.1 + c.2.2.2.1))) ?_ ?_ ⟨sg, rfl, m', hij⟩) ?_)
      · rintro x ⟨c0, o, i, j, g2, ac, bc⟩ st2 _ hx ⟨sg2, rfl, m2, e2⟩
        dsimp only at m2 e2 ⊢
        have hk2 : kindOf st2 = ks := sg2.kind.trans (sg.kind.symm.trans hk)
        have go : ∀ g', wpS (model prog w) A E s (gl1 a b o i j g' ac bc) (G2 κ a b (ia + ib + 1) st0) st2 := fun g' => gl1_wp hL T L hk2 sg2 m2 (by omega)
        unfold gal
        split
        · refine wpS_mono (go _) fun r st3 h3 => ?_
          obtain ⟨h3, h4⟩ := h3
          cases r with
          | done c => exact ⟨h3, h4⟩
          | yield c => exact ⟨h3, h4⟩
        · refine wpS_mono (go _) fun r st3 h3 => ?_
          obtain ⟨h3, h4⟩ := h3
          cases r with
          | done c => exact ⟨h3, h4⟩
          | yield c => exact ⟨h3, h4⟩
      · rintro c st2 ⟨h0, h1, h2, h3⟩
        exact ⟨h0, .inr ⟨h1, h2, h3⟩⟩
      · rintro ⟨c0, o, i, j, g2, ac, bc⟩ st2 ⟨sg2, h⟩
        dsimp only at h ⊢
        rcases h with ⟨z, rfl, hz⟩ | ⟨rfl, m2, hij2⟩
        · exact wpS_pure ⟨sg2, z, rfl, hz⟩
        · dsimp only
          refine wpS_bind (setMin_wp fun st3 sg3 => wpS_pure ⟨⟨sg3.kind.trans sg2.kind, sg3.arr.trans sg2.arr, sg3.pend.trans sg2.pend, sg3.fail.trans sg2.fail⟩, rfl, m2, hij2⟩)
/-- the merge from the left -/
theorem lo_wp (hL : LtAll prog w A E s κ ks) (T : Two κ a b) (L : LastA κ a b) (ha : 0 < a.size) (hb : 0 < b.size) (F : ∀ x ∈ a.toList, ∀ y, b[0]? = some y → leK κ y x) {st : SortSt} (hk : kindOf st = ks) {Q : Array Keyed → SortSt → Prop}
    (h : ∀ r st', SG st st' → Rs κ a b r → Q r st') : wpS (model prog w) A E s (mergeLoP a b) Q st := by
  rw [lo_eq]
  obtain ⟨y, y1, y2, y3, y4⟩ := item T.kb hb
  refine wpS_bind (wpS_lift (wpAny_rule ⟨rfl, ?_⟩))
  refine wpS_bind (wpS_elem y1 ?_)
  have m0 : MI (leK κ) a.toList b.toList ([] : List Keyed) 0 0 := ⟨by simp, .nil, fun x hx => absurd hx (by simp)⟩
  have m : MI (leK κ) a.toList b.toList (#[y] : Array Keyed).toList 0 1 := by
    have := At.pushB (out := #[]) T m0 y4 fun z hz => F z hz y y1
    exact this
  by_cases e1 : 1 = b.size
  · rw [if_pos (by simpa using e1)]
    exact wpS_pure (h _ st (SG.refl _) (end_b T m e1))
  · rw [if_neg (by simpa using e1)]
    by_cases e2 : 0 + 1 = a.size
    · rw [if_pos (by simpa using e2)]
      exact wpS_pure (h _ st (SG.refl _) (end_l T L m e2))
    · rw [if_neg (by simpa using e2)]
      refine wpS_bind (wpS_get ?_)
      refine wpS_bind (wpS_mono (wpS_forRange (I := fun x c st' => SG st st' ∧ c.1 = none ∧ At κ a b c.2.1 c.2.2.1 c.2.2.2.1 ∧ 1 + x ≤ c.2.2.1 + c.2.2.2.1)
        (Q := fun c st' => SG st st' ∧ ∃ z, c.1 = some z ∧ Rs κ a b z) ?_ ?_ ⟨SG.refl _, rfl, ⟨m, by dsimp only; omega, by dsimp only; omega⟩, by dsimp only; omega⟩) ?_)
      · rintro x ⟨c0, o, i, j, g⟩ st' _ hx ⟨sg, rfl, m', e⟩
        dsimp only at m' e ⊢
        refine wpS_mono (round_wp hL T L (sg.kind.trans hk) sg m') fun r st2 h2 => ?_
        obtain ⟨sg2, h2⟩ := h2
        cases r with
        | done c => exact ⟨sg2, h2⟩
        | yield c =>
          obtain ⟨h2, h3, h4⟩ := h2
          exact ⟨sg2, h2, h3, by omega⟩
      · rintro c st' ⟨sg, h1, m', e⟩
        have := m'.ha
        have := m'.hb
        exact absurd e (by omega)
      · rintro ⟨c0, o, i, j, g⟩ st' ⟨sg, z, e, hz⟩
        dsimp only at e
        rw [e]
        exact wpS_pure (h z st' sg hz)
end
end Srt

set_option Elab.async false
set_option linter.all false
set_option maxRecDepth 100000
/-! list.sort: two runs merged from the right. -/
namespace Srt
open PySem PyProof.Rows
def mergeHiP : Array Keyed → Array Keyed → Sm (Array Keyed) := sortPriv% PySem.Builtin.mergeHi
namespace Hi
abbrev dn (a b out : Array Keyed) (na nb : Nat) : Array Keyed := a.extract 0 na ++ b.extract 0 nb ++ out.reverse
abbrev fb (a b out : Array Keyed) (na nb : Nat) : Array Keyed := b.extract 0 nb ++ a.extract 0 na ++ out.reverse
abbrev H1 := Option (Array Keyed) × Nat × Nat × Array Keyed × Nat × Nat
abbrev H2 := Option (Array Keyed) × Nat × Nat × Array Keyed × Nat × Nat × Nat
abbrev H0 := Option (Array Keyed) × Nat × Nat × Array Keyed × Nat
def one (a b : Array Keyed) (g : Nat) (na nb : Nat) (out : Array Keyed) (ac bc : Nat) : Sm (ForInStep H1) := do
  let y ← elem' b (nb - 1)
  let x ← elem' a (na - 1)
  let r ← lt' y x
  match r with
  | some w =>
    if w = true then do
      let x ← elem' a (na - 1)
      if (na - 1 == 0) = true then pure (ForInStep.done (some (dn a b (out.push x) (na - 1) nb), na - 1, nb, out.push x, ac + 1, 0))
      else if ac + 1 ≥ g then pure (ForInStep.done (none, na - 1, nb, out.push x, ac + 1, 0)) else pure (ForInStep.yield (none, na - 1, nb, out.push x, ac + 1, 0))
    else do
      let y ← elem' b (nb - 1)
      if (nb - 1 == 1) = true then pure (ForInStep.done (some (fb a b (out.push y) na (nb - 1)), na, nb - 1, out.push y, 0, bc + 1))
      else if bc + 1 ≥ g then pure (ForInStep.done (none, na, nb - 1, out.push y, 0, bc + 1)) else pure (ForInStep.yield (none, na, nb - 1, out.push y, 0, bc + 1))
  | _ => pure (ForInStep.done (some (dn a b out na nb), na, nb, out, ac, bc))
def gl4 (a b : Array Keyed) (na nb : Nat) (out : Array Keyed) (g k k1 : Nat) : Sm (ForInStep H2) := do
  let x ← elem' a (na - 1)
  if (na - 1 == 0) = true then pure (ForInStep.done (some (dn a b (out.push x) (na - 1) nb), na - 1, nb, out.push x, g, k, k1))
  else if (decide (k < 7) && decide (k1 < 7)) = true then pure (ForInStep.done (none, na - 1, nb, out.push x, g, k, k1)) else pure (ForInStep.yield (none, na - 1, nb, out.push x, g, k, k1))
def gl3 (a b : Array Keyed) (na nb : Nat) (out : Array Keyed) (g k bc : Nat) : Sm (ForInStep H2) := do
  let x ← elem' a (na - 1)
  let r ← gallopP true x b 0 nb (nb - 1)
  match r with
  | some t =>
    if nb - t > 0 then
      if (t == 1) = true then pure (ForInStep.done (some (fb a b (out ++ (b.extract t nb).reverse) na t), na, t, out ++ (b.extract t nb).reverse, g, k, nb - t))
      else if (t == 0) = true then pure (ForInStep.done (some (dn a b (out ++ (b.extract t nb).reverse) na t), na, t, out ++ (b.extract t nb).reverse, g, k, nb - t))
      else gl4 a b na t (out ++ (b.extract t nb).reverse) g k (nb - t)
    else gl4 a b na nb out g k (nb - t)
  | _ => pure (ForInStep.done (some (dn a b out na nb), na, nb, out, g, k, bc))
def gl2 (a b : Array Keyed) (na nb : Nat) (out : Array Keyed) (g k bc : Nat) : Sm (ForInStep H2) := do
  let y ← elem' b (nb - 1)
  if (nb - 1 == 1) = true then pure (ForInStep.done (some (fb a b (out.push y) na (nb - 1)), na, nb - 1, out.push y, g, k, bc))
  else gl3 a b na (nb - 1) (out.push y) g k bc
def gl1 (a b : Array Keyed) (na nb : Nat) (out : Array Keyed) (g ac bc : Nat) : Sm (ForInStep H2) := do
  setMinP g
  let y ← elem' b (nb - 1)
  let r ← gallopP false y a 0 na (na - 1)
  match r with
  | some t =>
    if na - t > 0 then
      if (t == 0) = true then pure (ForInStep.done (some (dn a b (out ++ (a.extract t na).reverse) t nb), t, nb, out ++ (a.extract t na).reverse, g, na - t, bc))
      else gl2 a b t nb (out ++ (a.extract t na).reverse) g (na - t) bc
    else gl2 a b na nb out g (na - t) bc
  | _ => pure (ForInStep.done (some (dn a b out na nb), na, nb, out, g, ac, bc))
def gal (a b : Array Keyed) (na nb : Nat) (out : Array Keyed) (g ac bc : Nat) : Sm (ForInStep H2) := if g > 1 then gl1 a b na nb out (g - 1) ac bc else gl1 a b na nb out g ac bc
def round (a b : Array Keyed) (na nb : Nat) (out : Array Keyed) (g : Nat) : Sm (ForInStep H0) := do
  let c ← forIn [0:a.size + b.size] ((none, na, nb, out, 0, 0) : H1) fun _ c => one a b g c.2.1 c.2.2.1 c.2.2.2.1 c.2.2.2.2.1 c.2.2.2.2.2
  match c.1 with
  | some r => pure (ForInStep.done (some r, c.2.1, c.2.2.1, c.2.2.2.1, g))
  | none => do
    liftM (rule "list.sort.gallop")
    let d ← forIn [0:a.size + b.size] ((none, c.2.1, c.2.2.1, c.2.2.2.1, g + 1, c.2.2.2.2.1, c.2.2.2.2.2) : H2) fun _ d => gal a b d.2.1 d.2.2.1 d.2.2.2.1 d.2.2.2.2.1 d.2.2.2.2.2.1 d.2.2.2.2.2.2
    match d.1 with
    | some r => pure (ForInStep.done (some r, d.2.1, d.2.2.1, d.2.2.2.1, d.2.2.2.2.1))
    | none => do
      setMinP (d.2.2.2.2.1 + 1)
      pure (ForInStep.yield (none, d.2.1, d.2.2.1, d.2.2.2.1, d.2.2.2.2.1 + 1))
theorem hi_eq (a b : Array Keyed) : mergeHiP a b = (do
    liftM (rule "list.sort.merge-hi")
    let e ← elem' a (a.size - 1)
    if (a.size - 1 == 0) = true then pure (dn a b #[e] (a.size - 1) b.size)
    else if (b.size == 1) = true then pure (fb a b #[e] (a.size - 1) b.size)
    else do
      let s ← get
      let c ← forIn [0:a.size + b.size] ((none, a.size - 1, b.size, #[e], gallopOf s) : H0) fun _ c => round a b c.2.1 c.2.2.1 c.2.2.2.1 c.2.2.2.2
      match c.1 with
      | some r => pure r
      | none => liftM (unsupported "internal:list.sort.merge-bound")) := by
  delta mergeHiP
  refine bc rfl (funext fun u => bc rfl (funext fun e => ic rfl (ic rfl (bc rfl (funext fun s => bc (fi (funext fun x => funext fun c => ?_)) (funext fun c => ?_))))))
  · unfold round
    refine bc (fi (funext fun x => funext fun c1 => ?_)) (funext fun c1 => ?_)
    · unfold one
      refine bc rfl (funext fun y => bc rfl (funext fun x => bc rfl (funext fun r => ?_)))
      cases r with
      | none => rfl
      | some w => exact ic (bc rfl (funext fun y => ic rfl (ic rfl rfl))) (bc rfl (funext fun y => ic rfl (ic rfl rfl)))
    · obtain ⟨r, c1⟩ := c1
      cases r with
      | some r => rfl
      | none =>
        refine bc rfl (funext fun u => bc (fi (funext fun x => funext fun d => ?_)) (funext fun d => ?_))
        · unfold gal
          refine ic ?_ ?_
          · unfold gl1; exact bc rfl (funext fun u => bc rfl (funext fun y => bc rfl (funext fun r => by cases r with | none => rfl | some k => exact ic (ic rfl (by unfold gl2; exact bc rfl (funext fun y => ic rfl (by unfold gl3; exact bc rfl (funext fun x => bc rfl (funext fun r => by cases r with | none => rfl | some k1 => exact ic (ic rfl (ic rfl (by unfold gl4; exact bc rfl (funext fun x => ic rfl (ic rfl rfl))))) (by unfold gl4; exact bc rfl (funext fun x => ic rfl (ic rfl rfl))))))))) (by unfold gl2; exact bc rfl (funext fun y => ic rfl (by unfold gl3; exact bc rfl (funext fun x => bc rfl (funext fun r => by cases r with | none => rfl | some k1 => exact ic (ic rfl (ic rfl (by unfold gl4; exact bc rfl (funext fun x => ic rfl (ic rfl rfl))))) (by unfold gl4; exact bc rfl (funext fun x => ic rfl (ic rfl rfl)))))))))))
          · unfold gl1; exact bc rfl (funext fun u => bc rfl (funext fun y => bc rfl (funext fun r => by cases r with | none => rfl | some k => exact ic (ic rfl (by unfold gl2; exact bc rfl (funext fun y => ic rfl (by unfold gl3; exact bc rfl (funext fun x => bc rfl (funext fun r => by cases r with | none => rfl | some k1 => exact ic (ic rfl (ic rfl (by unfold gl4; exact bc rfl (funext fun x => ic rfl (ic rfl rfl))))) (by unfold gl4; exact bc rfl (funext fun x => ic rfl (ic rfl rfl))))))))) (by unfold gl2; exact bc rfl (funext fun y => ic rfl (by unfold gl3; exact bc rfl (funext fun x => bc rfl (funext fun r => by cases r with | none => rfl | some k1 => exact ic (ic rfl (ic rfl (by unfold gl4; exact bc rfl (funext fun x => ic rfl (ic rfl rfl))))) (by unfold gl4; exact bc rfl (funext fun x => ic rfl (ic rfl rfl)))))))))))
        · obtain ⟨r, d⟩ := d
          cases r <;> rfl
  · obtain ⟨r, c⟩ := c
    cases r <;> rfl
section
variable {α : Type} {le : α → α → Prop}
/-- lo is the merge of what stands from na on in la and from nb on in lb; the rest lies ahead of it -/
structure MH (le : α → α → Prop) (la lb lo : List α) (na nb : Nat) : Prop where
  pm : lo.Perm (la.drop na ++ lb.drop nb)
  sr : lo.Pairwise le
  be : ∀ x ∈ lo, ∀ y, y ∈ la.take na ∨ y ∈ lb.take nb → le y x
theorem take_le {l : List α} {i j : Nat} {y : α} (h : i ≤ j) (hy : y ∈ l.take i) : y ∈ l.take j := by
  rw [show i = min i j by omega, ← List.take_take] at hy
  exact List.mem_of_mem_take hy
theorem cut_drop {l : List α} {t n : Nat} (h : t ≤ n) (hn : n ≤ l.length) : (l.take n).drop t ++ l.drop n = l.drop t := by
  have e := List.take_append_drop n l
  have : (l.take n ++ l.drop n).drop t = (l.take n).drop t ++ l.drop n := List.drop_append_of_le_length (by rw [List.length_take]; omega)
  rw [e] at this
  exact this.symm
theorem cut_pw {l : List α} (hp : l.Pairwise le) {t n : Nat} (h : t ≤ n) : ∀ y ∈ l.take t, ∀ x ∈ (l.take n).drop t, le y x := by
  have h2 : (l.take n).Pairwise le := hp.sublist (List.take_sublist _ _)
  have e := List.take_append_drop t (l.take n)
  rw [← e] at h2
  rw [List.take_take, show min t n = t by omega] at h2
  exact fun y hy x hx => (List.pairwise_append.mp h2).2.2 y hy x hx
theorem MH.segA {la lb lo : List α} {na nb t : Nat} (m : MH le la lb lo na nb) (sa : la.Pairwise le) (ht : t ≤ na) (hn : na ≤ la.length) (h : ∀ x ∈ (la.take na).drop t, ∀ y ∈ lb.take nb, le y x) : MH le la lb ((la.take na).drop t ++ lo) t nb := by
  refine ⟨?_, List.pairwise_append.mpr ⟨(sa.sublist (List.take_sublist _ _)).sublist (List.drop_sublist _ _), m.sr, fun x hx y hy => m.be y hy x (.inl (List.mem_of_mem_drop hx))⟩, fun x hx y hy => ?_⟩
  · refine (List.Perm.append_left _ m.pm).trans ?_
    rw [← List.append_assoc, cut_drop ht hn]
  · rcases List.mem_append.mp hx with z | z
    · rcases hy with hy | hy
      · exact cut_pw sa ht y hy x z
      · exact h x z y hy
    · exact m.be x z y (hy.imp (take_le ht) id)
theorem MH.segB {la lb lo : List α} {na nb t : Nat} (m : MH le la lb lo na nb) (sb : lb.Pairwise le) (ht : t ≤ nb) (hn : nb ≤ lb.length) (h : ∀ x ∈ (lb.take nb).drop t, ∀ y ∈ la.take na, le y x) : MH le la lb ((lb.take nb).drop t ++ lo) na t := by
  refine ⟨?_, List.pairwise_append.mpr ⟨(sb.sublist (List.take_sublist _ _)).sublist (List.drop_sublist _ _), m.sr, fun x hx y hy => m.be y hy x (.inr (List.mem_of_mem_drop hx))⟩, fun x hx y hy => ?_⟩
  · refine (List.Perm.append_left _ m.pm).trans ?_
    refine (List.perm_append_comm_assoc _ _ _).trans ?_
    rw [cut_drop ht hn]
  · rcases List.mem_append.mp hx with z | z
    · rcases hy with hy | hy
      · exact h x z y hy
      · exact cut_pw sb ht y hy x z
    · exact m.be x z y (hy.imp id (take_le ht))
theorem MH.first {la lb lo : List α} {na nb : Nat} (m : MH le la lb lo na nb) (sa : la.Pairwise le) (sb : lb.Pairwise le) (h : ∀ y ∈ lb.take nb, ∀ x ∈ la.take na, le y x) : Done le la lb (lb.take nb ++ la.take na ++ lo) := by
  refine ⟨?_, List.pairwise_append.mpr ⟨List.pairwise_append.mpr ⟨sb.sublist (List.take_sublist _ _), sa.sublist (List.take_sublist _ _), h⟩, m.sr, fun x hx y hy => m.be y hy x ((List.mem_append.mp hx).symm)⟩⟩
  refine (List.Perm.append_left _ m.pm).trans ?_
  have e : lb.take nb ++ la.take na ++ (la.drop na ++ lb.drop nb) = lb.take nb ++ (la ++ lb.drop nb) := by
    rw [List.append_assoc, ← List.append_assoc (la.take na), List.take_append_drop]
  rw [e]
  refine (List.perm_append_comm_assoc _ _ _).trans ?_
  rw [List.take_append_drop]
theorem MH.endA {la lb lo : List α} {nb : Nat} (m : MH le la lb lo 0 nb) (sa : la.Pairwise le) (sb : lb.Pairwise le) : Done le la lb (la.take 0 ++ lb.take nb ++ lo) := by
  have := m.first sa sb fun y _ x hx => absurd hx (by simp)
  rw [List.take_zero, List.append_nil] at this
  rw [List.take_zero, List.nil_append]
  exact this
theorem MH.endB {la lb lo : List α} {na : Nat} (m : MH le la lb lo na 0) (sa : la.Pairwise le) (sb : lb.Pairwise le) : Done le la lb (la.take na ++ lb.take 0 ++ lo) := by
  have := m.first sa sb fun y hy x _ => absurd hy (by simp)
  rw [List.take_zero, List.nil_append] at this
  rw [List.take_zero, List.append_nil]
  exact this
end
section
variable {prog : Program} {w : World} {A : Around} {E : Value → Shared → Prop} {s : Shared} {κ : PyProof.Rows.KeyKind} {ks : SortKind} {a b : Array Keyed}
theorem ext0 (a : Array Keyed) (n : Nat) : (a.extract 0 n).toList = a.toList.take n := by
  rw [ext_list]
  simp
theorem ext_cut (a : Array Keyed) (t n : Nat) : (a.extract t n).toList = (a.toList.take n).drop t := by
  rw [ext_list, List.drop_take]
theorem rev_push (out : Array Keyed) (x : Keyed) : (out.push x).reverse.toList = x :: out.reverse.toList := by simp
theorem rev_seg (out seg : Array Keyed) : (out ++ seg.reverse).reverse.toList = seg.toList ++ out.reverse.toList := by simp
abbrev Mh (κ : PyProof.Rows.KeyKind) (a b out : Array Keyed) (na nb : Nat) : Prop := MH (leK κ) a.toList b.toList out.reverse.toList na nb
structure At (κ : PyProof.Rows.KeyKind) (a b out : Array Keyed) (na nb : Nat) : Prop where
  mi : Mh κ a b out na nb
  a1 : 1 ≤ na
  a2 : na ≤ a.size
  b1 : 2 ≤ nb
  b2 : nb ≤ b.size
/-- the last of the first n -/
theorem last_of {κ : PyProof.Rows.KeyKind} {a : Array Keyed} (ka : KeysOf κ a) {n : Nat} (h1 : 1 ≤ n) (h2 : n ≤ a.size) : ∃ p, a[n - 1]? = some p ∧ κ.keyOf p.1 = some (key κ p) ∧ KK κ a (n - 1) = key κ p ∧ (a.toList.take n).drop (n - 1) = [p] := by
  obtain ⟨p, p1, p2, p3, p4⟩ := item ka (i := n - 1) (by omega)
  refine ⟨p, p1, p2, p3, ?_⟩
  rw [List.drop_take, p4, show n - (n - 1) = 1 by omega]
  rfl
theorem take_key {κ : PyProof.Rows.KeyKind} {a : Array Keyed} (ka : KeysOf κ a) {n t : Nat} {x : Keyed} (h : x ∈ (a.toList.take n).drop t) : ∃ j, t ≤ j ∧ j < n ∧ j < a.size ∧ KK κ a j = key κ x := by
  rw [List.drop_take] at h
  obtain ⟨j, j1, j2, j3⟩ := take_mem ka h
  exact ⟨t + j, by omega, by omega, j2, j3⟩
theorem take_key0 {κ : PyProof.Rows.KeyKind} {a : Array Keyed} (ka : KeysOf κ a) {n : Nat} {x : Keyed} (h : x ∈ a.toList.take n) : ∃ j, j < n ∧ j < a.size ∧ KK κ a j = key κ x := by
  have h' : x ∈ (a.toList.take n).drop 0 := by rw [List.drop_zero]; exact h
  obtain ⟨j, _, j1, j2, j3⟩ := take_key ka h'
  exact ⟨j, j1, j2, j3⟩
theorem up_to {κ : PyProof.Rows.KeyKind} {a : Array Keyed} (ka : KeysOf κ a) (sa : a.toList.Pairwise (leK κ)) {n : Nat} {p : Keyed} (h1 : 1 ≤ n) (h2 : n ≤ a.size) (e : KK κ a (n - 1) = key κ p) : ∀ y ∈ a.toList.take n, leK κ y p := fun y hy => by
  obtain ⟨j, j1, j2, j3⟩ := take_key0 ka hy
  have := KK_mono ka sa (i := j) (j := n - 1) (by omega) (by omega)
  rw [j3, e] at this
  exact this
theorem pushA {out : Array Keyed} {na nb : Nat} {x : Keyed} (T : Two κ a b) (m : Mh κ a b out na nb) (h1 : 1 ≤ na) (h2 : na ≤ a.size) (e : (a.toList.take na).drop (na - 1) = [x]) (h : ∀ y ∈ b.toList.take nb, leK κ y x) : Mh κ a b (out.push x) (na - 1) nb := by
  have := MH.segA (t := na - 1) m T.sa (by omega) (by rw [Array.length_toList]; exact h2) fun z hz y hy => by
    rw [e] at hz
    rw [List.mem_singleton.mp hz]
    exact h y hy
  rw [e] at this
  unfold Mh
  rw [rev_push]
  exact this
theorem pushB {out : Array Keyed} {na nb : Nat} {x : Keyed} (T : Two κ a b) (m : Mh κ a b out na nb) (h1 : 1 ≤ nb) (h2 : nb ≤ b.size) (e : (b.toList.take nb).drop (nb - 1) = [x]) (h : ∀ y ∈ a.toList.take na, leK κ y x) : Mh κ a b (out.push x) na (nb - 1) := by
  have := MH.segB (t := nb - 1) m T.sb (by omega) (by rw [Array.length_toList]; exact h2) fun z hz y hy => by
    rw [e] at hz
    rw [List.mem_singleton.mp hz]
    exact h y hy
  rw [e] at this
  unfold Mh
  rw [rev_push]
  exact this
theorem segA' {out : Array Keyed} {na nb t : Nat} (T : Two κ a b) (m : Mh κ a b out na nb) (ht : t ≤ na) (h2 : na ≤ a.size) (h : ∀ x ∈ (a.toList.take na).drop t, ∀ y ∈ b.toList.take nb, leK κ y x) : Mh κ a b (out ++ (a.extract t na).reverse) t nb := by
  have := MH.segA m T.sa ht (by rw [Array.length_toList]; exact h2) h
  unfold Mh
  rw [rev_seg, ext_cut]
  exact this
theorem segB' {out : Array Keyed} {na nb t : Nat} (T : Two κ a b) (m : Mh κ a b out na nb) (ht : t ≤ nb) (h2 : nb ≤ b.size) (h : ∀ x ∈ (b.toList.take nb).drop t, ∀ y ∈ a.toList.take na, leK κ y x) : Mh κ a b (out ++ (b.extract t nb).reverse) na t := by
  have := MH.segB m T.sb ht (by rw [Array.length_toList]; exact h2) h
  unfold Mh
  rw [rev_seg, ext_cut]
  exact this
/-- the first of b is not greater than any of a -/
def FirstB (κ : PyProof.Rows.KeyKind) (a b : Array Keyed) : Prop := ∀ y ∈ b.toList.take 1, ∀ x ∈ a.toList, leK κ y x
theorem e_a {out : Array Keyed} {na nb : Nat} (T : Two κ a b) (m : Mh κ a b out na nb) (h : na = 0) : Rs κ a b (dn a b out na nb) := by
  subst h
  have := MH.endA m T.sa T.sb
  unfold Rs dn
  rw [Array.toList_append, Array.toList_append, ext0, ext0]
  exact this
theorem e_b {out : Array Keyed} {na nb : Nat} (T : Two κ a b) (m : Mh κ a b out na nb) (h : nb = 0) : Rs κ a b (dn a b out na nb) := by
  subst h
  have := MH.endB m T.sa T.sb
  unfold Rs dn
  rw [Array.toList_append, Array.toList_append, ext0, ext0]
  exact this
theorem e_f {out : Array Keyed} {na nb : Nat} (T : Two κ a b) (F : FirstB κ a b) (m : Mh κ a b out na nb) (h : nb = 1) : Rs κ a b (fb a b out na nb) := by
  subst h
  have := MH.first m T.sa T.sb fun y hy x hx => F y hy x (List.mem_of_mem_take hx)
  unfold Rs fb
  rw [Array.toList_append, Array.toList_append, ext0, ext0]
  exact this
theorem one_wp (hL : LtAll prog w A E s κ ks) (T : Two κ a b) (F : FirstB κ a b) {g na nb ac bc : Nat} {out : Array Keyed} {st : SortSt} (hk : kindOf st = ks) (m : At κ a b out na nb) :
    wpS (model prog w) A E s (one a b g na nb out ac bc) (fun r st' => st' = st ∧ match r with
      | .done c => (∃ z, c.1 = some z ∧ Rs κ a b z) ∨ (c.1 = none ∧ At κ a b c.2.2.2.1 c.2.1 c.2.2.1 ∧ c.2.1 + c.2.2.1 + 1 = na + nb)
      | .yield c => c.1 = none ∧ At κ a b c.2.2.2.1 c.2.1 c.2.2.1 ∧ c.2.1 + c.2.2.1 + 1 = na + nb) st := by
  obtain ⟨mi, a1, a2, b1, b2⟩ := m
  obtain ⟨x, x1, x2, x3, x4⟩ := last_of T.ka a1 a2
  obtain ⟨y, y1, y2, y3, y4⟩ := last_of T.kb (show 1 ≤ nb by omega) b2
  unfold one
  refine wpS_bind (wpS_elem y1 (wpS_bind (wpS_elem x1 (wpS_bind (hL st hk _ _ _ _ _ y2 x2 ?_)))))
  cases e : κ.blt (key κ y) (key κ x) with
  | true =>
    dsimp only
    rw [if_pos rfl]
    refine wpS_bind (wpS_elem x1 ?_)
    have m' := pushA T mi a1 a2 x4 fun z hz => leK_trans (up_to T.kb T.sb (by omega) b2 y3 z hz) (KeyOrd.kle_of_klt e)
    by_cases h0 : na - 1 = 0
    · rw [if_pos (by simpa using h0)]
      exact wpS_pure ⟨rfl, .inl ⟨_, rfl, e_a T m' h0⟩⟩
    · rw [if_neg (by simpa using h0)]
      have at' : At κ a b (out.push x) (na - 1) nb := ⟨m', by omega, by omega, b1, b2⟩
      split
      · exact wpS_pure ⟨rfl, .inr ⟨rfl, at', by dsimp only; omega⟩⟩
      · exact wpS_pure ⟨rfl, rfl, at', by dsimp only; omega⟩
  | false =>
    dsimp only
    rw [if_neg (by decide)]
    refine wpS_bind (wpS_elem y1 ?_)
    have m' := pushB T mi (by omega) b2 y4 fun z hz => leK_trans (up_to T.ka T.sa a1 a2 x3 z hz) (show leK κ x y from e)
    by_cases h0 : nb - 1 = 1
    · rw [if_pos (by simpa using h0)]
      exact wpS_pure ⟨rfl, .inl ⟨_, rfl, e_f T F m' h0⟩⟩
    · rw [if_neg (by simpa using h0)]
      have at' : At κ a b (out.push y) na (nb - 1) := ⟨m', a1, a2, by omega, by omega⟩
      split
      · exact wpS_pure ⟨rfl, .inr ⟨rfl, at', by dsimp only; omega⟩⟩
      · exact wpS_pure ⟨rfl, rfl, at', by dsimp only; omega⟩
def G2 (κ : PyProof.Rows.KeyKind) (a b : Array Keyed) (n : Nat) (st : SortSt) (r : ForInStep H2) (st' : SortSt) : Prop := SG st st' ∧ match r with
  | .done c => (∃ z, c.1 = some z ∧ Rs κ a b z) ∨ (c.1 = none ∧ At κ a b c.2.2.2.1 c.2.1 c.2.2.1 ∧ c.2.1 + c.2.2.1 < n)
  | .yield c => c.1 = none ∧ At κ a b c.2.2.2.1 c.2.1 c.2.2.1 ∧ c.2.1 + c.2.2.1 < n
theorem gl4_wp (T : Two κ a b) {g na nb k k1 n : Nat} {out : Array Keyed} {st0 st : SortSt} (sg : SG st0 st) (m : At κ a b out na nb) (hn : na + nb ≤ n) (h : ∀ y ∈ b.toList.take nb, ∀ x, a[na - 1]? = some x → leK κ y x) :
    wpS (model prog w) A E s (gl4 a b na nb out g k k1) (G2 κ a b n st0) st := by
  obtain ⟨mi, a1, a2, b1, b2⟩ := m
  obtain ⟨x, x1, x2, x3, x4⟩ := last_of T.ka a1 a2
  unfold gl4
  refine wpS_bind (wpS_elem x1 ?_)
  have m' := pushA T mi a1 a2 x4 fun z hz => h z hz x x1
  by_cases h0 : na - 1 = 0
  · rw [if_pos (by simpa using h0)]
    exact wpS_pure ⟨sg, .inl ⟨_, rfl, e_a T m' h0⟩⟩
  · rw [if_neg (by simpa using h0)]
    have at' : At κ a b (out.push x) (na - 1) nb := ⟨m', by omega, by omega, b1, b2⟩
    split
    · exact wpS_pure ⟨sg, .inr ⟨rfl, at', by dsimp only; omega⟩⟩
    · exact wpS_pure ⟨sg, rfl, at', by dsimp only; omega⟩
theorem gl3_wp (hL : LtAll prog w A E s κ ks) (T : Two κ a b) (F : FirstB κ a b) {g na nb k bc n : Nat} {out : Array Keyed} {st0 st : SortSt} (hk : kindOf st = ks) (sg : SG st0 st) (m : At κ a b out na nb) (hn : na + nb ≤ n) :
    wpS (model prog w) A E s (gl3 a b na nb out g k bc) (G2 κ a b n st0) st := by
  obtain ⟨mi, a1, a2, b1, b2⟩ := id m
  obtain ⟨x, x1, x2, x3, x4⟩ := last_of T.ka a1 a2
  unfold gl3
  refine wpS_bind (wpS_elem x1 ?_)
  refine wpS_bind (wpS_gallop (κ := κ) (kk := key κ x) (hL st hk) x2 (by omega) (fun i hi => ?_) (fun i j hij hj hbj => ?_) fun t kn kt kf => ?_)
  · obtain ⟨p, p1, p2, p3, _⟩ := item T.kb (i := 0 + i) (by omega)
    exact ⟨p, _, p1, p2, p3⟩
  · have mono := KK_mono T.kb T.sb (i := 0 + i) (j := 0 + j) (by omega) (by omega)
    exact KeyOrd.klt_of_kle_of_klt mono hbj
  · have early : ∀ y ∈ b.toList.take t, ∀ z, a[na - 1]? = some z → leK κ y z := fun y hy z hz => by
      rw [x1] at hz
      cases hz
      obtain ⟨j, j1, j2, j3⟩ := take_key0 T.kb hy
      have := kt j j1
      rw [Nat.zero_add, j3] at this
      exact KeyOrd.kle_of_klt this
    by_cases h0 : nb - t > 0
    · dsimp only
      rw [if_pos h0]
      have m' := segB' T mi (show t ≤ nb by omega) b2 fun z hz y hy => by
        obtain ⟨j, j1, j2, j3, j4⟩ := take_key T.kb hz
        have := kf j j1 j2
        rw [Nat.zero_add, j4] at this
        exact leK_trans (up_to T.ka T.sa a1 a2 x3 y hy) (show leK κ x z from this)
      by_cases e : t = 1
      · rw [if_pos (by simpa using e)]
        exact wpS_pure ⟨sg, .inl ⟨_, rfl, e_f T F m' e⟩⟩
      · rw [if_neg (by simpa using e)]
        by_cases e2 : t = 0
        · rw [if_pos (by simpa using e2)]
          exact wpS_pure ⟨sg, .inl ⟨_, rfl, e_b T m' e2⟩⟩
        · rw [if_neg (by simpa using e2)]
          exact gl4_wp T sg ⟨m', a1, a2, by omega, by omega⟩ (by omega) early
    · dsimp only
      rw [if_neg h0]
      have e : t = nb := by omega
      rw [e] at early
      exact gl4_wp T sg m hn early
theorem gl2_wp (hL : LtAll prog w A E s κ ks) (T : Two κ a b) (F : FirstB κ a b) {g na nb k bc n : Nat} {out : Array Keyed} {st0 st : SortSt} (hk : kindOf st = ks) (sg : SG st0 st) (m : At κ a b out na nb) (hn : na + nb ≤ n) (h : ∀ x ∈ a.toList.take na, ∀ y, b[nb - 1]? = some y → leK κ x y) :
    wpS (model prog w) A E s (gl2 a b na nb out g k bc) (G2 κ a b n st0) st := by
  obtain ⟨mi, a1, a2, b1, b2⟩ := m
  obtain ⟨y, y1, y2, y3, y4⟩ := last_of T.kb (show 1 ≤ nb by omega) b2
  unfold gl2
  refine wpS_bind (wpS_elem y1 ?_)
  have m' := pushB T mi (by omega) b2 y4 fun z hz => h z hz y y1
  by_cases h0 : nb - 1 = 1
  · rw [if_pos (by simpa using h0)]
    exact wpS_pure ⟨sg, .inl ⟨_, rfl, e_f T F m' h0⟩⟩
  · rw [if_neg (by simpa using h0)]
    exact gl3_wp hL T F hk sg ⟨m', a1, a2, by omega, by omega⟩ (by omega)
theorem gl1_wp (hL : LtAll prog w A E s κ ks) (T : Two κ a b) (F : FirstB κ a b) {g na nb ac bc n : Nat} {out : Array Keyed} {st0 st : SortSt} (hk : kindOf st = ks) (sg : SG st0 st) (m : At κ a b out na nb) (hn : na + nb ≤ n) :
    wpS (model prog w) A E s (gl1 a b na nb out g ac bc) (G2 κ a b n st0) st := by
  obtain ⟨mi, a1, a2, b1, b2⟩ := id m
  obtain ⟨y, y1, y2, y3, y4⟩ := last_of T.kb (show 1 ≤ nb by omega) b2
  unfold gl1
  refine wpS_bind (setMin_wp fun st' sg' => ?_)
  have hk' : kindOf st' = ks := sg'.kind.trans hk
  have sg2 : SG st0 st' := ⟨sg'.kind.trans sg.kind, sg'.arr.trans sg.arr, sg'.pend.trans sg.pend, sg'.fail.trans sg.fail⟩
  refine wpS_bind (wpS_elem y1 ?_)
  refine wpS_bind (wpS_gallop (κ := κ) (kk := key κ y) (hL st' hk') y2 (by omega) (fun i hi => ?_) (fun i j hij hj hbj => ?_) fun t kn kt kf => ?_)
  · obtain ⟨p, p1, p2, p3, _⟩ := item T.ka (i := 0 + i) (by omega)
    exact ⟨p, _, p1, p2, p3⟩
  · have mono := KK_mono T.ka T.sa (i := 0 + i) (j := 0 + j) (by omega) (by omega)
    have hbj : (!κ.blt (key κ y) (KK κ a (0 + j))) = true := hbj
    show (!κ.blt (key κ y) (KK κ a (0 + i))) = true
    rw [Bool.not_eq_true'] at hbj ⊢
    exact KeyOrd.kle_trans mono hbj
  · have early : ∀ x ∈ a.toList.take t, ∀ z, b[nb - 1]? = some z → leK κ x z := fun x hx z hz => by
      rw [y1] at hz
      cases hz
      obtain ⟨j, j1, j2, j3⟩ := take_key0 T.ka hx
      have := kt j j1
      rw [Nat.zero_add, j3] at this
      have this : (!κ.blt (key κ y) (key κ x)) = true := this
      rw [Bool.not_eq_true'] at this
      exact this
    by_cases h0 : na - t > 0
    · dsimp only
      rw [if_pos h0]
      have m' := segA' T mi (show t ≤ na by omega) a2 fun z hz x hx => by
        obtain ⟨j, j1, j2, j3, j4⟩ := take_key T.ka hz
        have := kf j j1 j2
        rw [Nat.zero_add, j4] at this
        have this : (!κ.blt (key κ y) (key κ z)) = false := this
        rw [Bool.not_eq_false'] at this
        exact leK_trans (up_to T.kb T.sb (by omega) b2 y3 x hx) (KeyOrd.kle_of_klt this)
      by_cases e : t = 0
      · rw [if_pos (by simpa using e)]
        exact wpS_pure ⟨sg2, .inl ⟨_, rfl, e_a T m' e⟩⟩
      · rw [if_neg (by simpa using e)]
        exact gl2_wp hL T F hk' sg2 ⟨m', by omega, by omega, b1, b2⟩ (by omega) early
    · dsimp only
      rw [if_neg h0]
      have e : t = na := by omega
      rw [e] at early
      exact gl2_wp hL T F hk' sg2 m hn early
theorem round_wp (hL : LtAll prog w A E s κ ks) (T : Two κ a b) (F : FirstB κ a b) {g na nb : Nat} {out : Array Keyed} {st0 st : SortSt} (hk : kindOf st = ks) (sg : SG st0 st) (m : At κ a b out na nb) :
    wpS (model prog w) A E s (round a b na nb out g) (fun r st' => SG st0 st' ∧ match r with
      | .done c => ∃ z, c.1 = some z ∧ Rs κ a b z
      | .yield c => c.1 = none ∧ At κ a b c.2.2.2.1 c.2.1 c.2.2.1 ∧ c.2.1 + c.2.2.1 < na + nb) st := by
  unfold round
  have tot : 0 < a.size + b.size := by
    have := m.a1
    have := m.a2
    omega
  refine wpS_bind (wpS_mono (wpS_forRange (I := fun x c st' => st' = st ∧ c.1 = none ∧ At κ a b c.2.2.2.1 c.2.1 c.2.2.1 ∧ c.2.1 + c.2.2.1 + x = na + nb)
    (Q := fun c st' => st' = st ∧ ((∃ z, c.1 = some z ∧ Rs κ a b z) ∨ (c.1 = none ∧ At κ a b c.2.2.2.1 c.2.1 c.2.2.1 ∧ c.2.1 + c.2.2.1 < na + nb))) ?_ ?_ ⟨rfl, rfl, m, rfl⟩) ?_)
  · rintro x ⟨c0, i, j, o, ac, bc⟩ st' _ hx ⟨rfl, rfl, m', e⟩
    dsimp only at m' e ⊢
    refine wpS_mono (one_wp hL T F hk m') fun r st2 h2 => ?_
    obtain ⟨rfl, h2⟩ := h2
    cases r with
    | done c =>
      rcases h2 with h2 | ⟨h2, h3, h4⟩
      · exact ⟨rfl, .inl h2⟩
      · exact ⟨rfl, .inr ⟨h2, h3, by omega⟩⟩
    | yield c =>
      obtain ⟨h2, h3, h4⟩ := h2
      exact ⟨rfl, h2, h3, by omega⟩
  · rintro c st' ⟨rfl, h1, h2, h3⟩
    exact ⟨rfl, .inr ⟨h1, h2, by omega⟩⟩
  · rintro ⟨c0, i, j, o, ac, bc⟩ st' ⟨rfl, h⟩
    dsimp only at h ⊢
    rcases h with ⟨z, rfl, hz⟩ | ⟨rfl, m', hij⟩
    · exact wpS_pure ⟨sg, z, rfl, hz⟩
    · dsimp only
      refine wpS_bind (wpS_lift (wpAny_rule ⟨rfl, ?_⟩))
      refine wpS_bind (wpS_mono (wpS_forRange (I := fun x c st2 => SG st0 st2 ∧ c.1 = none ∧ At κ a b c.2.2.2.1 c.2.1 c.2.2.1 ∧ c.2.1 + c.2.2.1 < na + nb)
        (Q := fun c st2 => SG st0 st2 ∧ ((∃ z, c.1 = some z ∧ Rs κ a b z) ∨ (c.1 = none ∧ At κ a b c.2.2.2.1 c.2.1 c.2.2.1 ∧ c.2.1 + c.2.2.1 < na + nb))) ?_ ?_ ⟨sg, rfl, m', hij⟩) ?_)
      · rintro x ⟨c0, i, j, o, g2, ac, bc⟩ st2 _ hx ⟨sg2, rfl, m2, e2⟩
        dsimp only at m2 e2 ⊢
        have hk2 : kindOf st2 = ks := sg2.kind.trans (sg.kind.symm.trans hk)
        have go : ∀ g', wpS (model prog w) A E s (gl1 a b i j o g' ac bc) (G2 κ a b (na + nb) st0) st2 := fun g' => gl1_wp hL T F hk2 sg2 m2 (by omega)
        unfold gal
        split
        · refine wpS_mono (go _) fun r st3 h3 => ?_
          obtain ⟨h3, h4⟩ := h3
          cases r with
          | done c => exact ⟨h3, h4⟩
          | yield c => exact ⟨h3, h4⟩
        · refine wpS_mono (go _) fun r st3 h3 => ?_
          obtain ⟨h3, h4⟩ := h3
          cases r with
          | done c => exact ⟨h3, h4⟩
          | yield c => exact ⟨h3, h4⟩
      · rintro c st2 ⟨h0, h1, h2, h3⟩
        exact ⟨h0, .inr ⟨h1, h2, h3⟩⟩
      · rintro ⟨c0, i, j, o, g2, ac, bc⟩ st2 ⟨sg2, h⟩
        dsimp only at h ⊢
        rcases h with ⟨z, rfl, hz⟩ | ⟨rfl, m2, hij2⟩
        · exact wpS_pure ⟨sg2, z, rfl, hz⟩
        · dsimp only
          refine wpS_bind (setMin_wp fun st3 sg3 => wpS_pure ⟨⟨sg3.kind.trans sg2.kind, sg3.arr.trans sg2.arr, sg3.pend.trans sg2.pend, sg3.fail.trans sg2.fail⟩, rfl, m2, hij2⟩)
/-- the merge from the right -/
theorem hi_wp (hL : LtAll prog w A E s κ ks) (T : Two κ a b) (L : LastA κ a b) (F : FirstB κ a b) (ha : 0 < a.size) (hb : 0 < b.size) {st : SortSt} (hk : kindOf st = ks) {Q : Array Keyed → SortSt → Prop}
    (h : ∀ r st', SG st st' → Rs κ a b r → Q r st') : wpS (model prog w) A E s (mergeHiP a b) Q st := by
  rw [hi_eq]
  obtain ⟨x, x1, x2, x3, x4⟩ := last_of T.ka (n := a.size) ha (Nat.le_refl _)
  refine wpS_bind (wpS_lift (wpAny_rule ⟨rfl, ?_⟩))
  refine wpS_bind (wpS_elem x1 ?_)
  have m0 : Mh κ a b #[] a.size b.size := by
    refine ⟨?_, List.Pairwise.nil, fun x hx => absurd hx (by simp)⟩
    rw [List.drop_of_length_le (by rw [Array.length_toList]; exact Nat.le_refl _), List.drop_of_length_le (by rw [Array.length_toList]; exact Nat.le_refl _)]
    exact List.Perm.nil
  have m : Mh κ a b #[x] (a.size - 1) b.size := pushA (out := #[]) T m0 ha (Nat.le_refl _) x4 fun y hy => L y (List.mem_of_mem_take hy) x (by
    rw [← Array.length_toList, List.take_length, Array.length_toList] at x4
    rw [x4]
    exact List.mem_cons_self)
  by_cases e1 : a.size - 1 = 0
  · rw [if_pos (by simpa using e1)]
    exact wpS_pure (h _ st (SG.refl _) (e_a T m e1))
  · rw [if_neg (by simpa using e1)]
    by_cases e2 : b.size = 1
    · rw [if_pos (by simpa using e2)]
      exact wpS_pure (h _ st (SG.refl _) (e_f T F m e2))
    · rw [if_neg (by simpa using e2)]
      refine wpS_bind (wpS_get ?_)
      refine wpS_bind (wpS_mono (wpS_forRange (I := fun x c st' => SG st st' ∧ c.1 = none ∧ At κ a b c.2.2.2.1 c.2.1 c.2.2.1 ∧ c.2.1 + c.2.2.1 + x < a.size + b.size)
        (Q := fun c st' => SG st st' ∧ ∃ z, c.1 = some z ∧ Rs κ a b z) ?_ ?_ ⟨SG.refl _, rfl, ⟨m, by dsimp only; omega, by dsimp only; omega, by dsimp only; omega, Nat.le_refl _⟩, by dsimp only; omega⟩) ?_)
      · rintro x ⟨c0, i, j, o, g⟩ st' _ hx ⟨sg, rfl, m', e⟩
        dsimp only at m' e ⊢
        refine wpS_mono (round_wp hL T F (sg.kind.trans hk) sg m') fun r st2 h2 => ?_
        obtain ⟨sg2, h2⟩ := h2
        cases r with
        | done c => exact ⟨sg2, h2⟩
        | yield c =>
          obtain ⟨h2, h3, h4⟩ := h2
          exact ⟨sg2, h2, h3, by omega⟩
      · rintro c st' ⟨sg, h1, m', e⟩
        exact absurd e (by omega)
      · rintro ⟨c0, i, j, o, g⟩ st' ⟨sg, z, e, hz⟩
        dsimp only at e
        rw [e]
        exact wpS_pure (h z st' sg hz)
end
end Hi
end Srt

set_option Elab.async false
set_option linter.all false
set_option maxRecDepth 100000
/-! list.sort: two neighbour runs made one. -/
namespace Srt
open PySem PyProof.Rows
/-- l written over arr from n on -/
def over (arr : Array Keyed) (n : Nat) (l : List Keyed) : Array Keyed := l.zipIdx.foldl (fun a p => a.setIfInBounds (n + p.2) p.1) arr
theorem over_go : ∀ (l : List Keyed) (j n : Nat) (arr : Array Keyed), n + j + l.length ≤ arr.size →
    (((l.zipIdx j).foldl (fun a p => a.setIfInBounds (n + p.2) p.1) arr).size = arr.size ∧ ∀ i, ((l.zipIdx j).foldl (fun a p => a.setIfInBounds (n + p.2) p.1) arr)[i]? = if n + j ≤ i ∧ i < n + j + l.length then l[i - (n + j)]? else arr[i]?)
  | [], j, n, arr, _ => by
    refine ⟨rfl, fun i => ?_⟩
    rw [if_neg (by rw [List.length_nil]; omega)]
    rfl
  | p :: l, j, n, arr, h => by
    rw [List.length_cons] at h
    rw [List.zipIdx_cons, List.foldl_cons]
    obtain ⟨h1, h2⟩ := over_go l (j + 1) n (arr.setIfInBounds (n + j) p) (by rw [Array.size_setIfInBounds]; omega)
    refine ⟨by rw [h1, Array.size_setIfInBounds], fun i => ?_⟩
    rw [h2 i, List.length_cons, Array.getElem?_setIfInBounds]
    by_cases e : n + j = i
    · subst e
      rw [if_neg (by omega), if_pos rfl, if_pos (by omega), if_pos (by omega)]
      simp
    · rw [if_neg e]
      by_cases e2 : n + (j + 1) ≤ i ∧ i < n + (j + 1) + l.length
      · rw [if_pos e2, if_pos (by omega), show i - (n + j) = (i - (n + (j + 1))) + 1 by omega]
        rfl
      · rw [if_neg e2, if_neg (by omega)]
theorem over_list {arr : Array Keyed} {n : Nat} {l : List Keyed} (h : n + l.length ≤ arr.size) : (over arr n l).toList = arr.toList.take n ++ l ++ arr.toList.drop (n + l.length) := by
  obtain ⟨h1, h2⟩ := over_go l 0 n arr (by omega)
  refine List.ext_getElem? fun i => ?_
  rw [Array.getElem?_toList]
  show ((l.zipIdx 0).foldl (fun a p => a.setIfInBounds (n + p.2) p.1) arr)[i]? = _
  have hl : arr.toList.length = arr.size := Array.length_toList
  rw [h2 i, List.append_assoc, List.getElem?_append, List.length_take, hl, show min n arr.size = n by omega, List.getElem?_append]
  by_cases e1 : i < n
  · rw [if_neg (by omega), if_pos e1, List.getElem?_take, if_pos e1, Array.getElem?_toList]
  · rw [if_neg e1]
    by_cases e2 : i < n + l.length
    · rw [if_pos (by omega), if_pos (by omega)]
      rfl
    · rw [if_neg (by omega), if_neg (by omega), List.getElem?_drop, Array.getElem?_toList]
      congr 1
      omega
theorem pw_of_seg {κ : PyProof.Rows.KeyKind} {arr : Array Keyed} (ka : KeysOf κ arr) {lo hi : Nat} (hh : hi ≤ arr.size) (h : Seg κ arr lo hi) : ((arr.toList.take hi).drop lo).Pairwise (leK κ) := by
  rw [List.pairwise_iff_getElem]
  intro i j hi' hj' hij
  rw [List.length_drop, List.length_take, Array.length_toList] at hi' hj'
  rw [List.getElem_drop, List.getElem_drop, List.getElem_take, List.getElem_take]
  have key_at : ∀ k, (hk : k < arr.toList.length) → k < arr.size → key κ arr.toList[k] = KK κ arr k := fun k hk hk' => by
    obtain ⟨p, p1, p2, p3, p4⟩ := item ka hk'
    rw [p3]
    have e : arr.toList[k]? = some p := by
      rw [Array.getElem?_toList]
      exact p1
    rw [List.getElem?_eq_getElem hk] at e
    rw [Option.some.inj e]
  unfold leK
  rw [key_at _ _ (by omega), key_at _ _ (by omega)]
  exact h _ _ (by omega) (by omega) (by omega)
theorem seg_of_pw {κ : PyProof.Rows.KeyKind} {arr : Array Keyed} (ka : KeysOf κ arr) {lo hi : Nat} (hh : hi ≤ arr.size) (h : ((arr.toList.take hi).drop lo).Pairwise (leK κ)) : Seg κ arr lo hi := by
  intro i j h1 h2 h3
  by_cases e : i = j
  · rw [e]
    exact KeyOrd.kle_refl _
  · rw [List.pairwise_iff_getElem] at h
    have key_at : ∀ k, (hk : k < arr.toList.length) → k < arr.size → key κ arr.toList[k] = KK κ arr k := fun k hk hk' => by
      obtain ⟨p, p1, p2, p3, p4⟩ := item ka hk'
      rw [p3]
      have e : arr.toList[k]? = some p := by
        rw [Array.getElem?_toList]
        exact p1
      rw [List.getElem?_eq_getElem hk] at e
      rw [Option.some.inj e]
    have := h (i - lo) (j - lo) (by rw [List.length_drop, List.length_take, Array.length_toList]; omega) (by rw [List.length_drop, List.length_take, Array.length_toList]; omega) (by omega)
    rw [List.getElem_drop, List.getElem_drop, List.getElem_take, List.getElem_take] at this
    unfold leK at this
    rw [key_at _ _ (by omega), key_at _ _ (by omega)] at this
    rw [show lo + (i - lo) = i by omega, show lo + (j - lo) = j by omega] at this
    exact this
theorem at_eq (i : Nat) : mergeAt' i = (do
    let s ← get
    match (pendingOf s)[i]?, (pendingOf s)[i + 1]? with
    | some p, some q => do
      set (setPending s (((pendingOf s).setIfInBounds i (p.1, p.2.1 + q.2.1, p.2.2)).eraseIdxIfInBounds (i + 1)))
      let y ← elem' (arrOf s) q.1
      let r ← gallopP false y (arrOf s) p.1 p.2.1 0
      match r with
      | some k =>
        if (p.2.1 - k == 0) = true then pure true
        else do
          let x ← elem' (arrOf s) (p.1 + k + (p.2.1 - k) - 1)
          let r ← gallopP true x (arrOf s) q.1 q.2.1 (q.2.1 - 1)
          match r with
          | some n =>
            if (n == 0) = true then pure true
            else do
              let m ← if p.2.1 - k ≤ n then mergeLoP ((arrOf s).extract (p.1 + k) q.1) ((arrOf s).extract q.1 (q.1 + n)) else mergeHiP ((arrOf s).extract (p.1 + k) q.1) ((arrOf s).extract q.1 (q.1 + n))
              modify fun s' => setArr s' (over (arrOf s') (p.1 + k) m.toList)
              let s' ← get
              pure (failedOf s').isNone
          | _ => pure false
      | _ => pure false
    | _, _ => liftM (unsupported "internal:list.sort.pending")) := by
  delta mergeAt'
  refine bc rfl (funext fun s => ?_)
  generalize e1 : (pendingOf s)[i]? = o1
  generalize e2 : (pendingOf s)[i + 1]? = o2
  cases o1 with
  | none => cases o2 <;> rfl
  | some p =>
    obtain ⟨sa, na, pw⟩ := p
    cases o2 with
    | none => rfl
    | some q =>
      obtain ⟨sb, nb, pw2⟩ := q
      refine bc rfl (funext fun u => bc rfl (funext fun y => bc rfl (funext fun r => ?_)))
      cases r with
      | none => rfl
      | some k =>
        refine ic rfl (bc rfl (funext fun x => bc rfl (funext fun r => ?_)))
        cases r with
        | none => rfl
        | some n => exact ic rfl (ic (bc rfl (funext fun m => rfl)) (bc rfl (funext fun m => rfl)))
theorem keys_perm {κ : PyProof.Rows.KeyKind} {a₀ xs : Array Keyed} (h0 : KeysOf κ a₀) (h : xs.Perm a₀) : KeysOf κ xs := fun p hp => h0 p ((Array.perm_iff_toList_perm.mp h).mem_iff.mp hp)
theorem keys_ext {κ : PyProof.Rows.KeyKind} {xs : Array Keyed} (h0 : KeysOf κ xs) (i j : Nat) : KeysOf κ (xs.extract i j) := fun p hp => by
  rw [ext_list] at hp
  exact h0 p (List.mem_of_mem_drop (List.mem_of_mem_take hp))
section
variable {prog : Program} {w : World} {A : Around} {E : Value → Shared → Prop} {s : Shared} {κ : PyProof.Rows.KeyKind} {ks : SortKind} {a₀ : Array Keyed}
/-- what mergeAt leaves -/
structure Mg (κ : PyProof.Rows.KeyKind) (ks : SortKind) (a₀ : Array Keyed) (st st' : SortSt) (sa hi : Nat) (pend : Array (Nat × Nat × Nat)) : Prop where
  base : SB ks a₀ st'
  out : ∀ k, (k < sa ∨ hi ≤ k) → (arrOf st')[k]? = (arrOf st)[k]?
  seg : Seg κ (arrOf st') sa hi
  pend : pendingOf st' = pend
theorem split4 {l : List Keyed} {i j k m : Nat} (h1 : i ≤ j) (h2 : j ≤ k) (h3 : k ≤ m) (h4 : m ≤ l.length) : (l.take m).drop i = (l.take j).drop i ++ ((l.take k).drop j ++ (l.take m).drop k) := by
  have c : ∀ {x y z : Nat}, x ≤ y → y ≤ z → z ≤ l.length → (l.take z).drop x = (l.take y).drop x ++ (l.take z).drop y := fun {x y z} a b d => by
    have := Hi.cut_drop (l := l.take z) (t := x) (n := y) a (by rw [List.length_take]; omega)
    rw [List.take_take, show min y z = y by omega] at this
    exact this.symm
  rw [c h1 (by omega) h4, c h2 h3 h4]
theorem at_wp (hL : LtAll prog w A E s κ ks) (h0 : KeysOf κ a₀) {st : SortSt} (B : SB ks a₀ st) {i sa na pw nb pw2 : Nat} (e1 : (pendingOf st)[i]? = some (sa, na, pw)) (e2 : (pendingOf st)[i + 1]? = some (sa + na, nb, pw2))
    (n1 : 1 ≤ na) (n2 : 1 ≤ nb) (hz : sa + na + nb ≤ a₀.size) (s1 : Seg κ (arrOf st) sa (sa + na)) (s2 : Seg κ (arrOf st) (sa + na) (sa + na + nb)) {Q : Bool → SortSt → Prop}
    (h : ∀ st', Mg κ ks a₀ st st' sa (sa + na + nb) (((pendingOf st).setIfInBounds i (sa, na + nb, pw)).eraseIdxIfInBounds (i + 1)) → Q true st') : wpS (model prog w) A E s (mergeAt' i) Q st := by
  rw [at_eq]
  refine wpS_bind (wpS_get ?_)
  rw [e1, e2]
  dsimp only
  have kA : KeysOf κ (arrOf st) := keys_perm h0 B.pm
  have hsz : (arrOf st).size = a₀.size := B.size
  have hll : (arrOf st).toList.length = a₀.size := by rw [Array.length_toList, hsz]
  obtain ⟨P, eP⟩ : ∃ P, P = ((pendingOf st).setIfInBounds i (sa, na + nb, pw)).eraseIdxIfInBounds (i + 1) := ⟨_, rfl⟩
  rw [← eP] at h ⊢
  have setw : ∀ {R : PUnit → SortSt → Prop}, R ⟨⟩ (setPending st P) → wpS (model prog w) A E s (set (setPending st P) : Sm PUnit) R st := fun hR => by
    unfold wpS
    rw [StateT.run_set]
    exact wpAny_pure ⟨rfl, hR⟩
  refine wpS_bind (setw ?_)
  obtain ⟨st1, es1⟩ : ∃ st1, st1 = setPending st P := ⟨_, rfl⟩
  have k1 : kindOf st1 = ks := by rw [es1]; exact B.kind
  have a1 : arrOf st1 = arrOf st := by rw [es1]
  have p1 : pendingOf st1 = P := by rw [es1]
  have f1 : failedOf st1 = none := by rw [es1]; exact B.ok
  rw [← es1]
  have all : Seg κ (arrOf st) sa (sa + na + nb) → Mg κ ks a₀ st st1 sa (sa + na + nb) P := fun sg => ⟨⟨k1, f1, by rw [a1]; exact B.pm⟩, fun k _ => by rw [a1], by rw [a1]; exact sg, p1⟩
  obtain ⟨y, y1, y2, y3, y4⟩ := item kA (i := sa + na) (by omega)
  refine wpS_bind (wpS_elem y1 ?_)
  refine wpS_bind (wpS_gallop (κ := κ) (kk := key κ y) (hL st1 k1) y2 (by omega) (fun j hj => ?_) (fun j j' hjj hj' hb => ?_) fun k kn kt kf => ?_)
  · obtain ⟨p, q1, q2, q3, _⟩ := item kA (i := sa + j) (by omega)
    exact ⟨p, _, q1, q2, q3⟩
  · have mono := s1 (sa + j) (sa + j') (by omega) (by omega) (by omega)
    have hb : (!κ.blt (key κ y) (KK κ (arrOf st) (sa + j'))) = true := hb
    show (!κ.blt (key κ y) (KK κ (arrOf st) (sa + j))) = true
    rw [Bool.not_eq_true'] at hb ⊢
    exact KeyOrd.kle_trans mono hb
  · have kt' : ∀ j, sa ≤ j → j < sa + k → κ.kle (KK κ (arrOf st) j) (KK κ (arrOf st) (sa + na)) := fun j j1 j2 => by
      have := kt (j - sa) (by omega)
      rw [show sa + (j - sa) = j by omega] at this
      have this : (!κ.blt (key κ y) (KK κ (arrOf st) j)) = true := this
      rw [Bool.not_eq_true'] at this
      rw [y3]
      exact this
    have kf' : ∀ j, sa + k ≤ j → j < sa + na → κ.kle (KK κ (arrOf st) (sa + na)) (KK κ (arrOf st) j) := fun j j1 j2 => by
      have := kf (j - sa) (by omega) (by omega)
      rw [show sa + (j - sa) = j by omega] at this
      have this : (!κ.blt (key κ y) (KK κ (arrOf st) j)) = false := this
      rw [Bool.not_eq_false'] at this
      rw [y3]
      exact KeyOrd.kle_of_klt this
    dsimp only
    by_cases hk0 : na - k = 0
    · rw [if_pos (by simpa using hk0)]
      refine wpS_pure (h st1 (all fun u v hu huv hv => ?_))
      by_cases c1 : v < sa + na
      · exact s1 u v hu huv c1
      · by_cases c2 : u < sa + na
        · exact KeyOrd.kle_trans (kt' u hu (by omega)) (s2 (sa + na) v (Nat.le_refl _) (by omega) hv)
        · exact s2 u v (by omega) huv hv
    · rw [if_neg (by simpa using hk0)]
      rw [show sa + k + (na - k) - 1 = sa + na - 1 by omega]
      obtain ⟨x, x1, x2, x3, x4⟩ := item kA (i := sa + na - 1) (by omega)
      refine wpS_bind (wpS_elem x1 ?_)
      refine wpS_bind (wpS_gallop (κ := κ) (kk := key κ x) (hL st1 k1) x2 (by omega) (fun j hj => ?_) (fun j j' hjj hj' hb => ?_) fun n nn nt nf => ?_)
      · obtain ⟨p, q1, q2, q3, _⟩ := item kA (i := sa + na + j) (by omega)
        exact ⟨p, _, q1, q2, q3⟩
      · exact KeyOrd.klt_of_kle_of_klt (s2 (sa + na + j) (sa + na + j') (by omega) (by omega) (by omega)) hb
      · have nt' : ∀ j, sa + na ≤ j → j < sa + na + n → κ.kle (KK κ (arrOf st) j) (KK κ (arrOf st) (sa + na - 1)) := fun j j1 j2 => by
          have := nt (j - (sa + na)) (by omega)
          rw [show sa + na + (j - (sa + na)) = j by omega] at this
          rw [x3]
          exact KeyOrd.kle_of_klt this
        have nf' : ∀ j, sa + na + n ≤ j → j < sa + na + nb → κ.kle (KK κ (arrOf st) (sa + na - 1)) (KK κ (arrOf st) j) := fun j j1 j2 => by
          have := nf (j - (sa + na)) (by omega) (by omega)
          rw [show sa + na + (j - (sa + na)) = j by omega] at this
          rw [x3]
          exact this
        dsimp only
        by_cases hn0 : n = 0
        · rw [if_pos (by simpa using hn0)]
          refine wpS_pure (h st1 (all fun u v hu huv hv => ?_))
          by_cases c1 : v < sa + na
          · exact s1 u v hu huv c1
          · by_cases c2 : u < sa + na
            · exact KeyOrd.kle_trans (s1 u (sa + na - 1) hu (by omega) (by omega)) (nf' v (by omega) hv)
            · exact s2 u v (by omega) huv hv
        · rw [if_neg (by simpa using hn0)]
          -- the two that are merged
          obtain ⟨X, eX⟩ : ∃ X, X = (arrOf st).extract (sa + k) (sa + na) := ⟨_, rfl⟩
          obtain ⟨Y, eY⟩ : ∃ Y, Y = (arrOf st).extract (sa + na) (sa + na + n) := ⟨_, rfl⟩
          rw [← eX, ← eY]
          have lX : X.toList = ((arrOf st).toList.take (sa + na)).drop (sa + k) := by rw [eX, Hi.ext_cut]
          have lY : Y.toList = ((arrOf st).toList.take (sa + na + n)).drop (sa + na) := by rw [eY, Hi.ext_cut]
          have zX : X.size = na - k := by rw [← Array.length_toList, lX, List.length_drop, List.length_take, hll]; omega
          have zY : Y.size = n := by rw [← Array.length_toList, lY, List.length_drop, List.length_take, hll]; omega
          have pA := pw_of_seg kA (by omega) s1
          have pB := pw_of_seg kA (by omega) s2
          have eA := split4 (l := (arrOf st).toList) (i := sa) (j := sa + k) (k := sa + na) (m := sa + na) (by omega) (by omega) (Nat.le_refl _) (by rw [hll]; omega)
          have eB := split4 (l := (arrOf st).toList) (i := sa + na) (j := sa + na + n) (k := sa + na + nb) (m := sa + na + nb) (by omega) (by omega) (Nat.le_refl _) (by rw [hll]; omega)
          have nilA : ((arrOf st).toList.take (sa + na)).drop (sa + na) = [] := List.drop_of_length_le (by rw [List.length_take]; omega)
          have nilB : ((arrOf st).toList.take (sa + na + nb)).drop (sa + na + nb) = [] := List.drop_of_length_le (by rw [List.length_take]; omega)
          rw [nilA, List.append_nil, ← lX] at eA
          rw [nilB, List.append_nil, ← lY] at eB
          obtain ⟨A1, eA1⟩ : ∃ A1, A1 = ((arrOf st).toList.take (sa + k)).drop sa := ⟨_, rfl⟩
          obtain ⟨B2, eB2⟩ : ∃ B2, B2 = ((arrOf st).toList.take (sa + na + nb)).drop (sa + na + n) := ⟨_, rfl⟩
          rw [← eA1] at eA
          rw [← eB2] at eB
          rw [eA] at pA
          rw [eB] at pB
          obtain ⟨pA1, pX, pAX⟩ := List.pairwise_append.mp pA
          obtain ⟨pY, pB2, pYB⟩ := List.pairwise_append.mp pB
          have inX : ∀ z ∈ X.toList, ∃ j, sa + k ≤ j ∧ j < sa + na ∧ KK κ (arrOf st) j = key κ z := fun z hz' => by
            rw [lX] at hz'
            obtain ⟨j, j1, j2, _, j4⟩ := Hi.take_key kA hz'
            exact ⟨j, j1, j2, j4⟩
          have inY : ∀ z ∈ Y.toList, ∃ j, sa + na ≤ j ∧ j < sa + na + n ∧ KK κ (arrOf st) j = key κ z := fun z hz' => by
            rw [lY] at hz'
            obtain ⟨j, j1, j2, _, j4⟩ := Hi.take_key kA hz'
            exact ⟨j, j1, j2, j4⟩
          have inA : ∀ z ∈ A1, ∃ j, sa ≤ j ∧ j < sa + k ∧ KK κ (arrOf st) j = key κ z := fun z hz' => by
            rw [eA1] at hz'
            obtain ⟨j, j1, j2, _, j4⟩ := Hi.take_key kA hz'
            exact ⟨j, j1, j2, j4⟩
          have inB : ∀ z ∈ B2, ∃ j, sa + na + n ≤ j ∧ j < sa + na + nb ∧ KK κ (arrOf st) j = key κ z := fun z hz' => by
            rw [eB2] at hz'
            obtain ⟨j, j1, j2, _, j4⟩ := Hi.take_key kA hz'
            exact ⟨j, j1, j2, j4⟩
          have TT : Two κ X Y := ⟨by rw [eX]; exact keys_ext kA _ _, by rw [eY]; exact keys_ext kA _ _, pX, pY⟩
          have LL : LastA κ X Y := fun z hz' v hv => by
            obtain ⟨j, j1, j2, j3⟩ := inY z hz'
            obtain ⟨j', j1', j2', j3'⟩ := drop_mem TT.ka hv
            have ej : j' = X.size - 1 := by omega
            have e : KK κ X j' = KK κ (arrOf st) (sa + na - 1) := by
              refine KK_congr ?_
              rw [eX, Array.getElem?_extract, if_pos (by omega)]
              congr 1
              omega
            show κ.kle (key κ z) (key κ v)
            rw [← j3, ← j3', e]
            exact nt' j j1 j2
          have F0 : ∀ v ∈ X.toList, ∀ z, Y[0]? = some z → leK κ z v := fun v hv z hz' => by
            obtain ⟨j, j1, j2, j3⟩ := inX v hv
            have ez : z = y := by
              rw [eY, Array.getElem?_extract, if_pos (by omega), Nat.add_zero, y1] at hz'
              exact (Option.some.inj hz').symm
            show κ.kle (key κ z) (key κ v)
            rw [ez, ← y3, ← j3]
            exact kf' j j1 j2
          have FB : Hi.FirstB κ X Y := fun z hz' v hv => by
            obtain ⟨j, j1, j2, j3⟩ := Hi.take_key0 TT.kb hz'
            obtain ⟨q, q1, q2, q3, _⟩ := item TT.kb (i := 0) (by omega)
            have e0 : j = 0 := by omega
            rw [e0, q3] at j3
            have := F0 v hv q q1
            unfold leK at this ⊢
            rw [← j3]
            exact this
          have fin : ∀ m st2, SG st1 st2 → Rs κ X Y m → wpS (model prog w) A E s (do
              modify fun s' => setArr s' (over (arrOf s') (sa + k) m.toList)
              let s' ← get
              pure (failedOf s').isNone) Q st2 := fun m st2 sg D => by
            refine wpS_bind (wpS_modify (wpS_bind (wpS_get (wpS_pure ?_))))
            have ft : (failedOf (setArr st2 (over (arrOf st2) (sa + k) m.toList))).isNone = true := by
              show (failedOf st2).isNone = true
              rw [sg.fail, f1]
              rfl
            rw [ft]
            have am : arrOf st2 = arrOf st := sg.arr.trans a1
            have lm : m.toList.length = na - k + n := by
              rw [D.pm.length_eq, List.length_append, Array.length_toList, Array.length_toList, zX, zY]
            have ol : (over (arrOf st) (sa + k) m.toList).toList = (arrOf st).toList.take (sa + k) ++ m.toList ++ (arrOf st).toList.drop (sa + na + n) := by
              rw [over_list (by rw [lm, hsz]; omega), lm, show sa + k + (na - k + n) = sa + na + n by omega]
            have permL : (over (arrOf st) (sa + k) m.toList).toList.Perm (arrOf st).toList := by
              rw [ol]
              have e : (arrOf st).toList = (arrOf st).toList.take (sa + k) ++ (X.toList ++ Y.toList) ++ (arrOf st).toList.drop (sa + na + n) := by
                rw [lX, lY]
                have c1 := Hi.cut_drop (l := (arrOf st).toList) (t := sa + na) (n := sa + na + n) (by omega) (by rw [hll]; omega)
                have c2 := Hi.cut_drop (l := (arrOf st).toList) (t := sa + k) (n := sa + na) (by omega) (by rw [hll]; omega)
                rw [List.append_assoc, List.append_assoc, c1, c2, List.take_append_drop]
              conv => rhs; rw [e]
              exact List.Perm.append_right _ (List.Perm.append_left _ D.pm)
            have permA : (over (arrOf st) (sa + k) m.toList).Perm (arrOf st) := Array.perm_iff_toList_perm.mpr permL
            have kO : KeysOf κ (over (arrOf st) (sa + k) m.toList) := keys_perm kA permA
            have zO : (over (arrOf st) (sa + k) m.toList).size = a₀.size := permA.size_eq.trans hsz
            have og : ∀ j, (over (arrOf st) (sa + k) m.toList)[j]? = if sa + k + 0 ≤ j ∧ j < sa + k + 0 + m.toList.length then m.toList[j - (sa + k + 0)]? else (arrOf st)[j]? := (over_go m.toList 0 (sa + k) (arrOf st) (by rw [lm, hsz]; omega)).2
            refine h _ ⟨⟨sg.kind.trans k1, by show failedOf st2 = none; rw [sg.fail, f1], ?_⟩, fun j hj => ?_, ?_, ?_⟩
            · show (over (arrOf st2) (sa + k) m.toList).Perm a₀
              rw [am]
              exact permA.trans B.pm
            · show (over (arrOf st2) (sa + k) m.toList)[j]? = _
              rw [am, og j, if_neg (by rw [lm]; omega)]
            · show Seg κ (over (arrOf st2) (sa + k) m.toList) sa (sa + na + nb)
              rw [am]
              refine seg_of_pw kO (by rw [zO]; exact hz) ?_
              have cut : ((over (arrOf st) (sa + k) m.toList).toList.take (sa + na + nb)).drop sa = A1 ++ (m.toList ++ B2) := by
                rw [ol, eA1, eB2]
                have tl : ((arrOf st).toList.take (sa + k)).length = sa + k := by rw [List.length_take, hll]; omega
                rw [List.append_assoc, List.take_append, tl, List.take_of_length_le (l := (arrOf st).toList.take (sa + k)) (by rw [tl]; omega), List.take_append, lm, List.take_of_length_le (l := m.toList) (by rw [lm]; omega)]
                rw [List.drop_append_of_le_length (by rw [tl]; omega)]
                congr 2
                rw [List.drop_take]
                congr 1
                omega
              rw [cut]
              refine List.pairwise_append.mpr ⟨pA1, List.pairwise_append.mpr ⟨D.sr, pB2, fun u hu v hv => ?_⟩, fun u hu v hv => ?_⟩
              · rcases List.mem_append.mp (D.pm.mem_iff.mp hu) with c | c
                · obtain ⟨j, j1, j2, j3⟩ := inX u c
                  obtain ⟨j', j1', j2', j3'⟩ := inB v hv
                  show κ.kle (key κ u) (key κ v)
                  rw [← j3, ← j3']
                  exact KeyOrd.kle_trans (s1 j (sa + na - 1) (by omega) (by omega) (by omega)) (nf' j' j1' j2')
                · exact pYB u c v hv
              · obtain ⟨j, j1, j2, j3⟩ := inA u hu
                rcases List.mem_append.mp hv with c | c
                · rcases List.mem_append.mp (D.pm.mem_iff.mp c) with c | c
                  · exact pAX u hu v c
                  · obtain ⟨j', j1', j2', j3'⟩ := inY v c
                    show κ.kle (key κ u) (key κ v)
                    rw [← j3, ← j3']
                    exact KeyOrd.kle_trans (kt' j j1 j2) (s2 (sa + na) j' (Nat.le_refl _) j1' (by omega))
                · obtain ⟨j', j1', j2', j3'⟩ := inB v c
                  show κ.kle (key κ u) (key κ v)
                  rw [← j3, ← j3']
                  exact KeyOrd.kle_trans (kt' j j1 j2) (s2 (sa + na) j' (Nat.le_refl _) (by omega) j2')
            · show pendingOf st2 = P
              rw [sg.pend, p1]
          by_cases hc : na - k ≤ n
          · rw [if_pos hc]
            exact wpS_bind (lo_wp hL TT LL (by omega) (by omega) F0 k1 fun m st2 sg D => fin m st2 sg D)
          · rw [if_neg hc]
            exact wpS_bind (Hi.hi_wp hL TT LL FB (by omega) (by omega) k1 fun m st2 sg D => fin m st2 sg D)
end
end Srt

set_option Elab.async false
set_option linter.all false
set_option maxRecDepth 100000
/-! list.sort: the whole of it. -/
namespace Srt
open PySem PyProof.Rows
abbrev Run := Nat × Nat × Nat
/-- runs that stand one behind the other, from a to b, each in order -/
def Ch (κ : PyProof.Rows.KeyKind) (arr : Array Keyed) : List Run → Nat → Nat → Prop
  | [], a, b => a = b
  | r :: l, a, b => r.1 = a ∧ 1 ≤ r.2.1 ∧ Seg κ arr a (a + r.2.1) ∧ Ch κ arr l (a + r.2.1) b
theorem Ch.le {κ : PyProof.Rows.KeyKind} {arr : Array Keyed} : ∀ {l : List Run} {a b : Nat}, Ch κ arr l a b → a + l.length ≤ b
  | [], a, b, h => by
    have h : a = b := h
    simp [h]
  | r :: l, a, b, h => by
    have := Ch.le h.2.2.2
    have := h.2.1
    rw [List.length_cons]
    omega
theorem Ch.split {κ : PyProof.Rows.KeyKind} {arr : Array Keyed} : ∀ {l1 l2 : List Run} {a b : Nat}, Ch κ arr (l1 ++ l2) a b ↔ ∃ m, Ch κ arr l1 a m ∧ Ch κ arr l2 m b
  | [], l2, a, b => ⟨fun h => ⟨a, rfl, h⟩, fun ⟨m, h1, h2⟩ => by
    have h1 : a = m := h1
    rw [h1]
    exact h2⟩
  | r :: l1, l2, a, b => by
    constructor
    · intro h
      obtain ⟨m, h1, h2⟩ := Ch.split.mp h.2.2.2
      exact ⟨m, ⟨h.1, h.2.1, h.2.2.1, h1⟩, h2⟩
    · rintro ⟨m, h1, h2⟩
      exact ⟨h1.1, h1.2.1, h1.2.2.1, Ch.split.mpr ⟨m, h1.2.2.2, h2⟩⟩
theorem seg_same {κ : PyProof.Rows.KeyKind} {arr arr' : Array Keyed} {a b : Nat} (h : Seg κ arr a b) (e : ∀ k, a ≤ k → k < b → arr'[k]? = arr[k]?) : Seg κ arr' a b := fun i j h1 h2 h3 => by
  rw [KK_congr (e i h1 (by omega)), KK_congr (e j (by omega) h3)]
  exact h i j h1 h2 h3
theorem Ch.same {κ : PyProof.Rows.KeyKind} {arr arr' : Array Keyed} : ∀ {l : List Run} {a b : Nat}, Ch κ arr l a b → (∀ k, a ≤ k → k < b → arr'[k]? = arr[k]?) → Ch κ arr' l a b
  | [], _, _, h, _ => h
  | r :: l, a, b, h, e => by
    have := Ch.le h.2.2.2
    exact ⟨h.1, h.2.1, seg_same h.2.2.1 fun k k1 k2 => e k k1 (by omega), h.2.2.2.same fun k k1 k2 => e k (by omega) k2⟩
theorem pend_list {p : Array Run} {i : Nat} {v : Run} (h : i + 1 < p.size) : ((p.setIfInBounds i v).eraseIdxIfInBounds (i + 1)).toList = p.toList.take i ++ v :: p.toList.drop (i + 2) := by
  have hl : p.toList.length = p.size := Array.length_toList
  have e1 : (p.setIfInBounds i v).eraseIdxIfInBounds (i + 1) = (p.setIfInBounds i v).eraseIdx (i + 1) (by rw [Array.size_setIfInBounds]; exact h) := by
    rw [Array.eraseIdxIfInBounds, dif_pos (by rw [Array.size_setIfInBounds]; exact h)]
  rw [e1, Array.toList_eraseIdx, Array.toList_setIfInBounds, List.eraseIdx_eq_take_drop_succ, List.take_set, List.drop_set, if_pos (by omega)]
  have e2 : p.toList.take (i + 1) = p.toList.take i ++ [p.toList[i]'(by omega)] := by
    rw [List.take_add_one, List.getElem?_eq_getElem (by omega)]
    rfl
  rw [e2, List.set_append_right _ _ (by rw [List.length_take]; omega)]
  rw [List.length_take, show i - min i p.toList.length = 0 by omega]
  simp
section
variable {prog : Program} {w : World} {A : Around} {E : Value → Shared → Prop} {s : Shared} {κ : PyProof.Rows.KeyKind} {ks : SortKind} {a₀ : Array Keyed}
/-- what holds between two steps: all to lo lies in runs -/
structure St (κ : PyProof.Rows.KeyKind) (ks : SortKind) (a₀ : Array Keyed) (st : SortSt) (lo : Nat) : Prop where
  base : SB ks a₀ st
  ch : Ch κ (arrOf st) (pendingOf st).toList 0 lo
  le : lo ≤ a₀.size
theorem merge_wp (hL : LtAll prog w A E s κ ks) (h0 : KeysOf κ a₀) {st : SortSt} {lo i : Nat} (S : St κ ks a₀ st lo) (hi : i + 1 < (pendingOf st).size) {Q : Bool → SortSt → Prop}
    (h : ∀ st', St κ ks a₀ st' lo → (pendingOf st').size + 1 = (pendingOf st).size → (∀ k, lo ≤ k → (arrOf st')[k]? = (arrOf st)[k]?) → Q true st') : wpS (model prog w) A E s (mergeAt' i) Q st := by
  have hl : (pendingOf st).toList.length = (pendingOf st).size := Array.length_toList
  have d1 : (pendingOf st).toList.drop i = (pendingOf st).toList[i]'(by omega) :: (pendingOf st).toList.drop (i + 1) := List.drop_eq_getElem_cons (by omega)
  have d2 : (pendingOf st).toList.drop (i + 1) = (pendingOf st).toList[i + 1]'(by omega) :: (pendingOf st).toList.drop (i + 2) := List.drop_eq_getElem_cons (by omega)
  have g1 : (pendingOf st)[i]? = some ((pendingOf st).toList[i]'(by omega)) := by rw [← Array.getElem?_toList, List.getElem?_eq_getElem (by omega)]
  have g2 : (pendingOf st)[i + 1]? = some ((pendingOf st).toList[i + 1]'(by omega)) := by rw [← Array.getElem?_toList, List.getElem?_eq_getElem (by omega)]
  obtain ⟨⟨sa, na, pw⟩, ep⟩ : ∃ r, r = (pendingOf st).toList[i]'(by omega) := ⟨_, rfl⟩
  obtain ⟨⟨sb, nb, pw2⟩, eq⟩ : ∃ r, r = (pendingOf st).toList[i + 1]'(by omega) := ⟨_, rfl⟩
  rw [← ep] at d1 g1
  rw [← eq] at d2 g2
  have c := S.ch
  rw [← List.take_append_drop i (pendingOf st).toList, d1, d2] at c
  obtain ⟨m, c1, c2⟩ := Ch.split.mp c
  obtain ⟨q1, q2, q3, q4, q5, q6, q7⟩ := c2
  dsimp only at q1 q2 q3 q4 q5 q6 q7
  subst q1
  subst q4
  have lb := Ch.le q7
  have lm := Ch.le c1
  refine at_wp hL h0 S.base g1 g2 q2 q5 (by have := S.le; omega) q3 q6 fun st' M => ?_
  have pl : (pendingOf st').toList = (pendingOf st).toList.take i ++ (sa, na + nb, pw) :: (pendingOf st).toList.drop (i + 2) := by rw [M.pend, pend_list hi]
  refine h st' ⟨M.base, ?_, S.le⟩ ?_ fun k hk => M.out k (.inr (by omega))
  · rw [pl]
    refine Ch.split.mpr ⟨sa, c1.same fun k _ k2 => M.out k (.inl k2), rfl, by dsimp only; omega, ?_, ?_⟩
    · dsimp only
      rw [← Nat.add_assoc]
      exact M.seg
    · dsimp only
      rw [← Nat.add_assoc]
      exact q7.same fun k k1 _ => M.out k (.inr k1)
  · rw [← Array.length_toList, pl, List.length_append, List.length_cons, List.length_take, List.length_drop]
    omega
def rest (z lo n : Nat) : Sm (ForInStep (Option Unit × Nat)) := do
  let s ← get
  match (pendingOf s).back? with
  | some (s1, n1, _) => do
    let c ← forIn [0:z] ((none, ()) : Option Unit × Unit) fun _ _ => do
        let s ← get
        match (if (pendingOf s).size > 1 then (pendingOf s)[(pendingOf s).size - 2]? else none) with
        | some (_, _, older) =>
          if older ≤ power' z (2 * s1 + n1) (2 * s1 + n1 + n1 + n) z then pure (ForInStep.done (none, ()))
          else do
            let b ← mergeAt' ((pendingOf s).size - 2)
            if (!b) = true then pure (ForInStep.done (some (), ())) else pure (ForInStep.yield (none, ()))
        | _ => pure (ForInStep.done (none, ()))
    match c.1 with
    | some r => pure (ForInStep.done (some r, lo))
    | none => do
      modify fun s => setPending s ((pendingOf s).modify ((pendingOf s).size - 1) fun x => (x.1, x.2.1, power' z (2 * s1 + n1) (2 * s1 + n1 + n1 + n) z))
      modify fun s => setPending s ((pendingOf s).push (lo, n, 0))
      pure (ForInStep.yield (none, lo + n))
  | _ => do
    modify fun s => setPending s ((pendingOf s).push (lo, n, 0))
    pure (ForInStep.yield (none, lo + n))
theorem Ch.pw {κ : PyProof.Rows.KeyKind} {arr : Array Keyed} (f : Run → Run) (hf : ∀ r, (f r).1 = r.1 ∧ (f r).2.1 = r.2.1) : ∀ {l : List Run} {a b i : Nat}, Ch κ arr l a b → Ch κ arr (l.modify i f) a b
  | [], a, b, i, h => by
    cases i <;> exact h
  | r :: l, a, b, 0, h => by
    obtain ⟨e1, e2⟩ := hf r
    refine ⟨e1.trans h.1, by rw [e2]; exact h.2.1, by rw [e2]; exact h.2.2.1, ?_⟩
    rw [e2]
    exact h.2.2.2
  | r :: l, a, b, i + 1, h => ⟨h.1, h.2.1, h.2.2.1, Ch.pw f hf h.2.2.2⟩
theorem St.push {st : SortSt} {lo n : Nat} (S : St κ ks a₀ st lo) (n1 : 1 ≤ n) (hn : lo + n ≤ a₀.size) (sg : Seg κ (arrOf st) lo (lo + n)) : St κ ks a₀ (setPending st ((pendingOf st).push (lo, n, 0))) (lo + n) := by
  refine ⟨⟨S.base.kind, S.base.ok, S.base.pm⟩, ?_, hn⟩
  show Ch κ (arrOf st) ((pendingOf st).push (lo, n, 0)).toList 0 (lo + n)
  rw [Array.toList_push]
  exact Ch.split.mpr ⟨lo, S.ch, rfl, n1, sg, rfl⟩
theorem St.pw {st : SortSt} {lo i : Nat} (S : St κ ks a₀ st lo) (f : Run → Run) (hf : ∀ r, (f r).1 = r.1 ∧ (f r).2.1 = r.2.1) : St κ ks a₀ (setPending st ((pendingOf st).modify i f)) lo := by
  refine ⟨⟨S.base.kind, S.base.ok, S.base.pm⟩, ?_, S.le⟩
  show Ch κ (arrOf st) ((pendingOf st).modify i f).toList 0 lo
  rw [Array.toList_modify]
  exact S.ch.pw f hf
theorem rest_wp (hL : LtAll prog w A E s κ ks) (h0 : KeysOf κ a₀) {st : SortSt} {lo n x : Nat} (S : St κ ks a₀ st lo) (n1 : 1 ≤ n) (hn : lo + n ≤ a₀.size) (sg : Seg κ (arrOf st) lo (lo + n)) (hx : x ≤ lo) {Q : ForInStep (Option Unit × Nat) → SortSt → Prop}
    (h : ∀ st', St κ ks a₀ st' (lo + n) → Q (.yield (none, lo + n)) st') : wpS (model prog w) A E s (rest a₀.size lo n) Q st := by
  unfold rest
  refine wpS_bind (wpS_get ?_)
  cases (pendingOf st).back? with
  | none => exact wpS_bind (wpS_modify (wpS_pure (h _ (S.push n1 hn sg))))
  | some q =>
    obtain ⟨s1, n1', p1⟩ := q
    dsimp only
    refine wpS_bind (wpS_mono (wpS_forRange (I := fun _ c st' => c = (none, ()) ∧ St κ ks a₀ st' lo ∧ Seg κ (arrOf st') lo (lo + n)) (Q := fun c st' => c = (none, ()) ∧ St κ ks a₀ st' lo ∧ Seg κ (arrOf st') lo (lo + n)) ?_ (fun _ _ z => z) ⟨rfl, S, sg⟩) ?_)
    · rintro y c st' _ _ ⟨rfl, S', sg'⟩
      refine wpS_bind (wpS_get ?_)
      by_cases h1 : (pendingOf st').size > 1
      · rw [if_pos h1]
        have hl : (pendingOf st').size - 2 < (pendingOf st').size := by omega
        rw [Array.getElem?_eq_getElem hl]
        obtain ⟨⟨a1, a2, older⟩, eo⟩ : ∃ r, r = (pendingOf st')[(pendingOf st').size - 2] := ⟨_, rfl⟩
        rw [← eo]
        dsimp only
        split
        · exact wpS_pure ⟨rfl, S', sg'⟩
        · refine wpS_bind (merge_wp hL h0 S' (by omega) fun st2 S2 _ o2 => ?_)
          rw [if_neg (by decide)]
          exact wpS_pure ⟨rfl, S2, seg_same sg' fun k k1 _ => o2 k k1⟩
      · rw [if_neg h1]
        exact wpS_pure ⟨rfl, S', sg'⟩
    · rintro c st' ⟨rfl, S', sg'⟩
      dsimp only
      refine wpS_bind (wpS_modify (wpS_bind (wpS_modify (wpS_pure (h _ ?_)))))
      exact (S'.pw (fun x => (x.1, x.2.1, power' a₀.size (2 * s1 + n1') (2 * s1 + n1' + n1' + n) a₀.size)) fun _ => ⟨rfl, rfl⟩).push n1 hn sg'
theorem ifl (c : Prop) [Decidable c] (n : Nat) : (if c then n - 1 else n) ≤ n := by split <;> omega
theorem runs_wp (hL : LtAll prog w A E s κ ks) (h0 : KeysOf κ a₀) {st : SortSt} (B : SB ks a₀ st) (hp : pendingOf st = #[]) {Q : Unit → SortSt → Prop}
    (h : ∀ st', SB ks a₀ st' → Seg κ (arrOf st') 0 a₀.size → Q () st') : wpS (model prog w) A E s sortRuns' Q st := by
  rw [sortRuns'_eq]
  refine wpS_bind (wpS_get ?_)
  dsimp only
  rw [B.size]
  generalize minRun' a₀.size a₀.size 0 = mr
  refine wpS_bind (wpS_mono (wpS_forRange (I := fun x c st' => c.1 = none ∧ St κ ks a₀ st' c.2 ∧ x ≤ c.2) (Q := fun c st' => c.1 = none ∧ St κ ks a₀ st' a₀.size) ?_ ?_ ⟨rfl, ⟨B, by rw [hp]; rfl, Nat.zero_le _⟩, Nat.le_refl _⟩) ?_)
  · rintro x ⟨c0, lo⟩ st' _ hx ⟨rfl, S, hlo⟩
    dsimp only at S hlo ⊢
    by_cases hge : lo ≥ a₀.size
    · rw [if_pos hge]
      have e : lo = a₀.size := by
        have := S.le
        omega
      refine wpS_pure ⟨rfl, ?_⟩
      rw [← e]
      exact S
    · rw [if_neg hge]
      refine wpS_bind (count_wp hL h0 (by omega) (by omega) S.base fun n st1 B1 O1 n1 n2 sg1 => ?_)
      dsimp only
      have S1 : St κ ks a₀ st1 lo := ⟨B1, by rw [O1.pend]; exact S.ch.same fun k _ k2 => O1.out k (.inl k2), S.le⟩
      have tr : ∀ {m m' : Sm (ForInStep (Option Unit × Nat))} {R : ForInStep (Option Unit × Nat) → SortSt → Prop} {st2 : SortSt}, m = m' → wpS (model prog w) A E s m' R st2 → wpS (model prog w) A E s m R st2 := fun e h => e ▸ h
      by_cases hm : n < mr
      · rw [if_pos hm]
        refine wpS_bind (wpS_lift (wpAny_rule ⟨rfl, ?_⟩))
        refine wpS_bind (bin_wp hL h0 (by omega) (by omega) B1 sg1 fun st2 B2 O2 sg2 => ?_)
        rw [if_neg (by decide)]
        refine tr ?_ (rest_wp hL h0 ⟨B2, by rw [O2.pend]; exact S1.ch.same fun k _ k2 => O2.out k (.inl k2), S.le⟩ (by omega) (by omega) sg2 hlo fun st3 S3 => ⟨rfl, S3, by dsimp only; omega⟩)
        · skip
          unfold rest
          refine bc rfl (funext fun s => ?_)
          cases (pendingOf s).back? with
          | none => rfl
          | some q =>
            obtain ⟨s1, n1, p⟩ := q
            refine bc (fi (funext fun x => funext fun c => bc rfl (funext fun s => ?_))) (funext fun c => ?_)
            · generalize (if (pendingOf s).size > 1 then (pendingOf s)[(pendingOf s).size - 2]? else none) = o
              cases o with
              | none => rfl
              | some r =>
                obtain ⟨r1, r2, r3⟩ := r
                exact ic rfl (bc rfl (funext fun b => rfl))
            · obtain ⟨r, u⟩ := c
              cases r <;> rfl
      · rw [if_neg hm]
        refine tr ?_ (rest_wp hL h0 S1 n1 (by omega) sg1 hlo fun st3 S3 => ⟨rfl, S3, by dsimp only; omega⟩)
        · skip
          unfold rest
          refine bc rfl (funext fun s => ?_)
          cases (pendingOf s).back? with
          | none => rfl
          | some q =>
            obtain ⟨s1, n1, p⟩ := q
            refine bc (fi (funext fun x => funext fun c => bc rfl (funext fun s => ?_))) (funext fun c => ?_)
            · generalize (if (pendingOf s).size > 1 then (pendingOf s)[(pendingOf s).size - 2]? else none) = o
              cases o with
              | none => rfl
              | some r =>
                obtain ⟨r1, r2, r3⟩ := r
                exact ic rfl (bc rfl (funext fun b => rfl))
            · obtain ⟨r, u⟩ := c
              cases r <;> rfl
  · rintro ⟨c0, lo⟩ st' ⟨h1, S, h2⟩
    dsimp only at h1 S h2 ⊢
    have e : lo = a₀.size := by
      have := S.le
      omega
    rw [← e]
    exact ⟨h1, S⟩
  · rintro ⟨c0, lo⟩ st' ⟨h1, S⟩
    dsimp only at h1
    subst h1
    dsimp only
    have one : ∀ {st' : SortSt}, St κ ks a₀ st' a₀.size → (pendingOf st').size ≤ 1 → Seg κ (arrOf st') 0 a₀.size := fun {st'} S hs => by
      have c := S.ch
      rw [← Array.length_toList] at hs
      cases e : (pendingOf st').toList with
      | nil =>
        rw [e] at c
        have c : 0 = a₀.size := c
        intro i j _ _ h3
        omega
      | cons r l =>
        rw [e] at c hs
        have l0 : l = [] := by
          cases l with
          | nil => rfl
          | cons _ _ => rw [List.length_cons, List.length_cons] at hs; omega
        rw [l0] at c
        obtain ⟨_, _, sg, c4⟩ := c
        have c4 : 0 + r.2.1 = a₀.size := c4
        rw [c4] at sg
        exact sg
    have p0 : (pendingOf st').size ≤ a₀.size := by
      have := Ch.le S.ch
      rw [Array.length_toList] at this
      omega
    refine wpS_bind (wpS_mono (wpS_forRange (I := fun x c st2 => c = (none, ()) ∧ St κ ks a₀ st2 a₀.size ∧ (pendingOf st2).size + x ≤ a₀.size) (Q := fun c st2 => c = (none, ()) ∧ St κ ks a₀ st2 a₀.size ∧ (pendingOf st2).size ≤ 1) ?_ ?_ ⟨rfl, S, by omega⟩) ?_)
    · rintro x c st2 _ hx ⟨rfl, S2, hp2⟩
      refine wpS_bind (wpS_get ?_)
      by_cases h1 : (pendingOf st2).size ≤ 1
      · rw [if_pos h1]
        exact wpS_pure ⟨rfl, S2, h1⟩
      · rw [if_neg h1]
        have hz : 2 ≤ (pendingOf st2).size := by omega
        refine wpS_bind (merge_wp hL h0 S2 (Nat.lt_of_le_of_lt (Nat.succ_le_succ (ifl _ _)) (show (pendingOf st2).size - 2 + 1 < (pendingOf st2).size by omega)) fun st3 S3 z3 _ => ?_)
        rw [if_neg (by decide)]
        exact wpS_pure ⟨rfl, S3, by omega⟩
    · rintro c st2 ⟨rfl, S2, hp2⟩
      exact ⟨rfl, S2, by omega⟩
    · rintro c st2 ⟨rfl, S2, hp2⟩
      exact wpS_pure (h st2 S2.base (one S2 hp2))
end
end Srt

set_option Elab.async false
set_option linter.all false
set_option maxRecDepth 100000
/-! sorted of a list of tuples of ints. -/
namespace L2
open PySem PySem.Spec PyProof.Rows PySem.Calls
theorem lex_irr : ∀ a : List Int, HT.lexLt a a = false
  | [] => rfl
  | x :: xs => by
    rw [HT.lexLt_cons, if_pos rfl]
    exact lex_irr xs
theorem lex_tot : ∀ a b : List Int, HT.lexLt a b = false → HT.lexLt b a = false → a = b
  | [], [], _, _ => rfl
  | [], _ :: _, h, _ => by cases h
  | _ :: _, [], _, h => by cases h
  | x :: xs, y :: ys, h1, h2 => by
    rw [HT.lexLt_cons] at h1 h2
    by_cases e : x = y
    · subst e
      rw [if_pos rfl] at h1 h2
      rw [lex_tot xs ys h1 h2]
    · rw [if_neg e] at h1
      rw [if_neg (Ne.symm e)] at h2
      have h1 := of_decide_eq_false h1
      have h2 := of_decide_eq_false h2
      omega
theorem lex_tr : ∀ a b c : List Int, HT.lexLt a b = true → HT.lexLt b c = true → HT.lexLt a c = true
  | [], [], _, h, _ => by cases h
  | [], _ :: _, [], _, h => by cases h
  | [], _ :: _, _ :: _, _, _ => rfl
  | _ :: _, [], _, h, _ => by cases h
  | _ :: _, _ :: _, [], _, h => by cases h
  | x :: xs, y :: ys, z :: zs, h1, h2 => by
    rw [HT.lexLt_cons] at h1 h2 ⊢
    by_cases e1 : x = y
    · subst e1
      rw [if_pos rfl] at h1
      by_cases e2 : x = z
      · subst e2
        rw [if_pos rfl] at h2 ⊢
        exact lex_tr xs ys zs h1 h2
      · rw [if_neg e2] at h2 ⊢
        exact h2
    · rw [if_neg e1] at h1
      have h1 := of_decide_eq_true h1
      by_cases e2 : y = z
      · subst e2
        rw [if_neg e1]
        exact decide_eq_true h1
      · rw [if_neg e2] at h2
        have h2 := of_decide_eq_true h2
        rw [if_neg (by omega)]
        exact decide_eq_true (by omega)
theorem lex_neg (a b c : List Int) (h : HT.lexLt a c = true) : HT.lexLt a b = true ∨ HT.lexLt b c = true := by
  cases e1 : HT.lexLt a b with
  | true => exact .inl rfl
  | false =>
    cases e2 : HT.lexLt b a with
    | true => exact .inr (lex_tr b a c e2 h)
    | false => exact .inr (by rw [← lex_tot a b e1 e2]; exact h)
/-- keys: the rows of the tuples at these places -/
def kRow (ads : List Addr) (row : Addr → List Int) : PyProof.Rows.KeyKind where
  α := List Int
  blt := HT.lexLt
  irrefl := lex_irr
  trans := lex_tr
  negTrans := lex_neg
  total := lex_tot
  keyOf := fun u => match u with
    | .ref a => if ads.contains a = true then some (row a) else none
    | _ => none
  dflt := []
section
open PySem.W
variable {prog : Program} {w : World} {A : Around} {E : Value → Shared → Prop} {s : Shared}
theorem lex_wp {Q : Bool → Shared → Prop} : ∀ {ns ms : List Int} {us vs : List Value} {i : Nat}, Vals (ns.map V.int) us → Vals (ms.map V.int) vs → Q (HT.lexLt ns ms) s → KatLex prog w A true (decide (ns.length < ms.length)) Q (us.zip vs) i s
  | [], [], _, _, _, .nil, .nil, h => h
  | [], _ :: _, _, _, _, .nil, .cons _ _, h => by
    refine kat_nil ?_
    rw [decide_eq_true (by simp)]
    exact h
  | _ :: _, [], _, _, _, .cons _ _, .nil, h => by
    refine kat_nil ?_
    rw [decide_eq_false (by simp)]
    exact h
  | x :: ns, y :: ms, _, _, i, .cons r1 t1, .cons r2 t2, h => by
    obtain ⟨k1, rfl⟩ := r1
    obtain ⟨k2, rfl⟩ := r2
    rw [HT.lexLt_cons] at h
    refine kat_cons (wpAny_eqBool_int ?_)
    by_cases e : x = y
    · subst e
      rw [if_pos rfl] at h
      rw [show (x == x) = true from beq_self_eq_true x]
      refine kat_yes ?_
      have := lex_wp (i := i + 1) t1 t2 h
      rw [show decide ((x :: ns).length < (x :: ms).length) = decide (ns.length < ms.length) by rw [List.length_cons, List.length_cons]; exact decide_eq_decide.mpr (by omega)]
      exact this
    · rw [if_neg e] at h
      rw [show (x == y) = false from beq_false_of_ne e]
      refine kat_no ?_
      cases hi : (true && i == 0) with
      | true => exact oneLt_int h
      | false => exact kat_one _ _ (lt_int h)
theorem lt_rows {x y : Addr} {ox oy : Obj} {nx ny : Nat} {ns ms : List Int} {us vs : List Value} {Q : Bool → Shared → Prop} (hx : s.heap.get? x = some ox) (dx : ox.data = .seq us.toArray nx) (hy : s.heap.get? y = some oy) (dy : oy.data = .seq vs.toArray ny)
    (r1 : Vals (ns.map V.int) us) (r2 : Vals (ms.map V.int) vs) (h : Q (HT.lexLt ns ms) s) : wpAny (model prog w) A (keyLt' (tuples' true) (.ref x) (.ref y)) Q E s := by
  refine kat_lt hx dx hy dy ?_
  have l1 := r1.length
  have l2 := r2.length
  rw [List.length_map] at l1 l2
  have := lex_wp (prog := prog) (w := w) (A := A) (s := s) (Q := Q) (i := 0) r1 r2 h
  rw [List.size_toArray, List.size_toArray, ← l1, ← l2]
  exact this
/-- sorted(l): what list.sort leaves, told -/
theorem srt_all {l : Addr} {vs : List Value} {Q : Value → Shared → Prop} {R : List Value → Prop} (lst : s.heap.IsList l vs.toArray) (fits : vs.length ≤ sizeLine) (small : vs.length < 2 → R vs)
    (big : 2 ≤ vs.length → ∀ g, (∀ b o, s.heap.get? b = some o → g.get? b = some o) → wpAny (model prog w) A.in1.in1 (keyKind' vs.toArray) (fun κ s1 => s1 = { s with heap := g } ∧
        wpS (model prog w) A.in1.in1 (fun _ _ => False) { s with heap := g } sortRuns' (fun _ st => failedOf st = none ∧ ∃ out, (arrOf st).map (·.2) = List.toArray out ∧ R out) (SortSt.mk' κ (vs.toArray.zip vs.toArray) #[] 7 none)) (fun _ _ => False) { s with heap := g })
    (len : ∀ out, R out → out.length = vs.length)
    (fin : ∀ out, R out → ∀ h2 c, (∀ b o, s.heap.get? b = some o → h2.get? b = some o) → h2.get? (s.heap.objs.size + 1) = some (seqObj "list" out.toArray c) → Q (.ref (s.heap.objs.size + 1)) { s with heap := h2 }) :
    wpAny (model prog w) A (call (.builtin "sorted") [.ref l]) Q E s := by
  refine call_function_entry kind_sorted plain_sorted entry_sorted (args_sorted1 _) ?_
  unfold Builtin.«sorted»
  refine wpAny_bind (m := checkCount "sorted" 1 1 _) (wpAny_pure (wpAny_bind (collect_list lst ?_ fits)))
  refine wpAny_bind (wpAny_newList ?_ fits)
  have size1 : ((s.heap.push (seqObj "list" #[] 0)).update s.heap.objs.size (Obj.mapSeq (· ++ vs.toArray))).objs.size = s.heap.objs.size + 1 := by rw [Heap.size_update, Heap.size_push]
  obtain ⟨g1, eg1⟩ : ∃ g1, g1 = ((s.heap.push (seqObj "list" #[] 0)).update s.heap.objs.size (Obj.mapSeq (· ++ vs.toArray))).push (seqObj "list" vs.toArray 0) := ⟨_, rfl⟩
  have at1 : g1.get? (s.heap.objs.size + 1) = some (seqObj "list" vs.toArray 0) := by rw [eg1, ← size1]; exact Heap.get?_push_size _ rfl
  have kp1 : ∀ b o, s.heap.get? b = some o → g1.get? b = some o := fun b o q => by
    have lt : b < s.heap.objs.size := Heap.lt_size q
    rw [eg1, Heap.get?_push_ne _ _ _ (by rw [size1]; exact Nat.ne_of_lt (Nat.lt_succ_of_lt lt)), Heap.get?_update_ne _ _ _ _ (Nat.ne_of_lt lt), Heap.get?_push_ne _ _ _ (Nat.ne_of_lt lt)]
    exact q
  show wpAny _ _ _ _ _ { s with heap := _ }
  rw [size1, show ((s.heap.push (seqObj "list" #[] 0)).update s.heap.objs.size (Obj.mapSeq (· ++ vs.toArray))).push (seqObj "list" vs.toArray 0) = g1 from eg1.symm]
  refine wpAny_bind (wpAny_holding (wpAny_call_entry slot_list_sort ⟨_, at1, rfl⟩ entry_list_sort ?body (args_list_sort _)))
  obtain ⟨D, eD⟩ : ∃ D, D = s.heap.objs.size + 1 := ⟨_, rfl⟩
  rw [← eD] at at1 fin ⊢
  have apart : ∀ b o, s.heap.get? b = some o → b ≠ D := fun b o q e => by
    have lt : b < s.heap.objs.size := Heap.lt_size q
    rw [e, eD] at lt
    exact absurd lt (Nat.not_lt_of_le (Nat.le_succ _))
  obtain ⟨g2, eg2⟩ : ∃ g2, g2 = g1.update D (Obj.mapSeq fun _ => (#[] : Array Value)) := ⟨_, rfl⟩
  have sb2 : Heap.SameBut D g1 g2 := eg2 ▸ Heap.SameBut.update g1 D _
  obtain ⟨e1, at2⟩ : ∃ e1, g2.get? D = some (seqObj "list" #[] e1) := ⟨_, eg2 ▸ get?_update_seq at1 fun _ => #[]⟩
  obtain ⟨g3, eg3⟩ : ∃ g3, g3 = (g2.push (seqObj "tuple" vs.toArray 0)).push (seqObj "list" #[] 0) := ⟨_, rfl⟩
  have at3 : g3.get? D = some (seqObj "list" #[] e1) := eg3 ▸ Heap.get?_push_of_some _ (Heap.get?_push_of_some _ at2)
  have kp3 : ∀ b o, s.heap.get? b = some o → g3.get? b = some o := fun b o q => eg3 ▸ Heap.get?_push_of_some _ (Heap.get?_push_of_some _ ((sb2.2 b (apart b o q)).trans (kp1 b o q)))
  rw [list_sort_plain]
  refine wpAny_bind (listItems_at at1 rfl (wpAny_bind (listUpdate_at at1 rfl ?_ (by rw [List.size_toArray]; exact fits) (Nat.zero_le _))))
  rw [← eg2]
  refine wpAny_bind (seqEpoch_at at2 rfl (wpAny_bind (wpAny_newTuple (wpAny_bind (wpAny_newList (wpAny_holding ?_) (Nat.zero_le _))) fits)))
  show wpAny (model prog w) A.in1.in1 _ _ _ { s with heap := (g2.push (seqObj "tuple" vs.toArray 0)).push (seqObj "list" #[] 0) }
  rw [← eg3]
  dsimp only
  by_cases two : vs.toArray.size < 2
  · have two' : vs.length < 2 := by rw [List.size_toArray] at two; exact two
    rw [if_pos two, if_pos two]
    refine wpAny_bind (wpAny_pure ?_)
    show wpAny _ _ (do let r ← (pure ((), SortSt.mk' general' (vs.toArray.zip vs.toArray) #[] 7 none) : Sem (Unit × SortSt)); _) _ _ _
    refine wpAny_bind (wpAny_pure ?_)
    dsimp only
    have em : (vs.toArray.zip vs.toArray).map (·.2) = vs.toArray := by
      apply Array.toList_inj.mp
      simp only [Array.toList_map, Array.toList_zip]
      exact List.map_snd_zip (Nat.le_refl _)
    rw [em]
    refine wpAny_bind (seqEpoch_at at3 rfl (wpAny_bind (listUpdate_at at3 rfl ?_ (Nat.zero_le _) (by rw [List.size_toArray]; omega))))
    simp only [bne_self_eq_false, Bool.false_eq_true, if_false]
    have sb4 := Heap.SameBut.update g3 D (Obj.mapSeq fun _ => vs.toArray)
    exact wpAny_pure ⟨_, rfl, wpAny_pure ⟨_, rfl, fin vs (small two') _ _ (fun b o z => (sb4.2 b (apart b o z)).trans (kp3 b o z)) (get?_update_seq at3 _)⟩⟩
  · have two' : 2 ≤ vs.length := by rw [List.size_toArray] at two; omega
    rw [if_neg two, if_neg two]
    refine wpAny_bind (wpAny_mono (big two' g3 kp3) (fun κ s1 ⟨es1, run⟩ => ?_) fun _ _ x => x.elim)
    subst es1
    refine wpAny_bind (wpAny_mono run ?_ fun _ _ x => x.elim)
    rintro ⟨⟨⟩, st⟩ s2 ⟨es2, efl, out, eout, hR⟩
    subst es2
    dsimp only at efl eout ⊢
    rw [eout]
    refine wpAny_bind (seqEpoch_at at3 rfl (wpAny_bind (listUpdate_at at3 rfl ?_ (Nat.zero_le _) (by rw [List.size_toArray, len out hR]; omega))))
    rw [efl]
    simp only [bne_self_eq_false, Bool.false_eq_true, if_false]
    have sb4 := Heap.SameBut.update g3 D (Obj.mapSeq fun _ => out.toArray)
    exact wpAny_pure ⟨_, rfl, wpAny_pure ⟨_, rfl, fin out hR _ _ (fun b o z => (sb4.2 b (apart b o z)).trans (kp3 b o z)) (get?_update_seq at3 _)⟩⟩
theorem kinds_rows {g : Heap} {ads : List Addr} {row : Addr → List Int} : ∀ {l : List Addr}, (∀ a ∈ l, ∃ (us : List Value) (o : Obj) (n : Nat), g.get? a = some o ∧ o.cls = .type "tuple" ∧ o.data = .seq us.toArray n ∧ Vals ((row a).map V.int) us ∧ row a ≠ []) → ∃ fs, KatTups g (l.map Value.ref) fs ∧ fs.length = l.length ∧ ∀ v ∈ fs, ∃ i t, v = .int i t
  | [], _ => ⟨[], .nil, rfl, fun _ h => absurd h (by simp)⟩
  | a :: l, h => by
    obtain ⟨us, o, n, h1, h2, h3, h4, h5⟩ := h a (.head _)
    obtain ⟨fs, k, hl, hi⟩ := kinds_rows (ads := ads) (row := row) (l := l) fun b hb => h b (.tail _ hb)
    cases er : row a with
    | nil => exact absurd er h5
    | cons i r =>
      rw [er] at h4
      cases h4 with
      | cons r1 t1 =>
        obtain ⟨t, rfl⟩ := r1
        refine ⟨_, .cons h1 h2 h3 (f := .int i t) (by simp) k, by rw [List.length_cons, List.length_cons, hl], fun v hv => ?_⟩
        rcases List.mem_cons.mp hv with z | z
        · exact ⟨i, t, z⟩
        · exact hi v z
theorem kind_wp {l : List Addr} {row : Addr → List Int} {Q : SortKind → Shared → Prop} (obj : ∀ a ∈ l, ∃ (us : List Value) (o : Obj) (n : Nat), s.heap.get? a = some o ∧ o.cls = .type "tuple" ∧ o.data = .seq us.toArray n ∧ Vals ((row a).map V.int) us ∧ row a ≠ []) (hl : 0 < l.length) (h : Q (tuples' true) s) :
    wpAny (model prog w) A (keyKind' (l.map Value.ref).toArray) Q E s := by
  obtain ⟨fs, kt, fl, fi⟩ := kinds_rows (ads := l) (row := row) obj
  refine PySem.W.kat_kind (T := .type "int") kt (by rw [fl]; exact hl) (fun v hv => ?_) (by decide) h
  obtain ⟨i, t, rfl⟩ := fi v hv
  exact .now
theorem ltall_rows {l : List Addr} {row : Addr → List Int} (obj : ∀ a ∈ l, ∃ (us : List Value) (o : Obj) (n : Nat), s.heap.get? a = some o ∧ o.cls = .type "tuple" ∧ o.data = .seq us.toArray n ∧ Vals ((row a).map V.int) us ∧ row a ≠ []) :
    Srt.LtAll prog w A E s (kRow l row) (tuples' true) := fun st hk x y a b Q' ka kb hQ => by
  obtain ⟨x1, x2⟩ := x
  obtain ⟨y1, y2⟩ := y
  cases x1 with
  | ref xa =>
    cases y1 with
    | ref ya =>
      have ka : (if l.contains xa = true then some (row xa) else none) = some a := ka
      have kb : (if l.contains ya = true then some (row ya) else none) = some b := kb
      by_cases c1 : l.contains xa = true
      · rw [if_pos c1] at ka
        by_cases c2 : l.contains ya = true
        · rw [if_pos c2] at kb
          cases ka
          cases kb
          obtain ⟨us1, o1, n1, g1, _, d1, r1, _⟩ := obj xa (by simpa using c1)
          obtain ⟨us2, o2, n2, g2, _, d2, r2, _⟩ := obj ya (by simpa using c2)
          rw [lt'_eq]
          refine wpS_bind (wpS_get ?_)
          rw [hk]
          refine wpS_bind (wpS_lift (wpAny_attempt (lt_rows g1 d1 g2 d2 r1 r2 ⟨rfl, ?_⟩)))
          exact wpS_pure hQ
        · rw [if_neg c2] at kb
          cases kb
      · rw [if_neg c1] at ka
        cases ka
    | _ => cases kb
  | _ => cases ka
theorem zip_refs (l : List Addr) : ((l.map Value.ref).toArray.zip (l.map Value.ref).toArray).toList = l.map fun a => (Value.ref a, Value.ref a) := by
  rw [Array.toList_zip]
  show (l.map Value.ref).zip (l.map Value.ref) = _
  rw [List.zip_map']
theorem keys_refs (l : List Addr) (row : Addr → List Int) : KeysOf (kRow l row) ((l.map Value.ref).toArray.zip (l.map Value.ref).toArray) := fun z hz' => by
  rw [zip_refs] at hz'
  obtain ⟨a, ha, rfl⟩ := List.mem_map.mp hz'
  refine ⟨row a, ?_⟩
  show (if l.contains a = true then some (row a) else none) = some (row a)
  rw [if_pos (by simpa using ha)]
def adOf (p : Keyed) : Addr := match p.1 with
  | .ref a => a
  | _ => 0
theorem key_refs {l : List Addr} {row : Addr → List Int} {a : Addr} (h : a ∈ l) : Srt.key (kRow l row) (Value.ref a, Value.ref a) = row a := by
  show (if l.contains a = true then some (row a) else none).getD [] = row a
  rw [if_pos (by simpa using h)]
  rfl
theorem runs_rows {l : List Addr} {row : Addr → List Int} (obj : ∀ a ∈ l, ∃ (us : List Value) (o : Obj) (n : Nat), s.heap.get? a = some o ∧ o.cls = .type "tuple" ∧ o.data = .seq us.toArray n ∧ Vals ((row a).map V.int) us ∧ row a ≠ []) {Q : Unit → SortSt → Prop}
    (h : ∀ st (l' : List Addr), failedOf st = none → (arrOf st).map (·.2) = List.toArray (l'.map Value.ref) → l'.Perm l → l'.Pairwise (fun a b => HT.lexLt (row b) (row a) = false) → Q () st) :
    wpS (model prog w) A E s sortRuns' Q (SortSt.mk' (tuples' true) ((l.map Value.ref).toArray.zip (l.map Value.ref).toArray) #[] 7 none) := by
  refine Srt.runs_wp (κ := kRow l row) (ks := tuples' true) (ltall_rows obj) (keys_refs l row) ⟨rfl, rfl, .refl _⟩ rfl fun st' B sg => ?_
  have pmL := Array.perm_iff_toList_perm.mp B.pm
  rw [zip_refs] at pmL
  have e : (arrOf st').toList = ((arrOf st').toList.map adOf).map (fun a => (Value.ref a, Value.ref a)) := by
    rw [List.map_map]
    conv => lhs; rw [← List.map_id (arrOf st').toList]
    refine List.map_congr_left fun z hz' => ?_
    obtain ⟨a, ha, rfl⟩ := List.mem_map.mp (pmL.mem_iff.mp hz')
    rfl
  have pm : ((arrOf st').toList.map adOf).Perm l := by
    have := pmL.map adOf
    rw [List.map_map] at this
    rw [show (adOf ∘ fun a => (Value.ref a, Value.ref a)) = id from rfl, List.map_id] at this
    exact this
  generalize (arrOf st').toList.map adOf = l' at e pm
  refine h st' l' B.ok ?_ pm ?_
  · apply Array.toList_inj.mp
    rw [Array.toList_map, e, List.map_map]
    rfl
  · have ka := Srt.keys_perm (keys_refs l row) B.pm
    have := Srt.pw_of_seg ka (by rw [B.size]; exact Nat.le_refl _) sg
    rw [List.drop_zero, ← B.size, ← Array.length_toList, List.take_length, e, List.pairwise_map] at this
    refine this.imp_of_mem fun {a b} ha hb hle => ?_
    unfold Srt.leK at hle
    rw [key_refs (pm.mem_iff.mp ha), key_refs (pm.mem_iff.mp hb)] at hle
    exact hle
end
section
variable {X : Cx}
theorem vals_refs : ∀ {l : List Addr} {us : List Value}, Vals (l.map V.ref) us → us = l.map Value.ref
  | [], _, .nil => rfl
  | a :: l, _, .cons r t => by
    rw [vals_refs t, show _ = Value.ref a from r]
    rfl
theorem vals_of : ∀ (l : List Addr), Vals (l.map V.ref) (l.map Value.ref)
  | [] => .nil
  | _ :: l => .cons rfl (vals_of l)
theorem pw_small {α : Type} {R : α → α → Prop} : ∀ {l : List α}, l.length < 2 → l.Pairwise R
  | [], _ => .nil
  | [_], _ => List.pairwise_singleton _ _
  | _ :: _ :: _, h => absurd h (by simp)
/-- sorted of a list of tuples of ints: the same tuples, in order -/
theorem call_sortedT : CallR X (.builtin "sorted") (fun xs H Q => ∃ (p : Addr) (l : List Addr) (row : Addr → List Int), xs = [.ref p] ∧ SqL X.K H p (l.map V.ref) ∧ (∀ a ∈ l, SqT X.K H a ((row a).map V.int) ∧ row a ≠ []) ∧
    ∀ (q : Addr) (l' : List Addr), H q = none → l'.Perm l → l'.Pairwise (fun a b => HT.lexLt (row b) (row a) = false) → Q (.ref q) (upd H q (.lst (l'.map V.ref)))) := by
  intro pins s σ H xs us Q I r h
  obtain ⟨p, l, row, rfl, hp, hrow, q⟩ := h
  obtain ⟨u, rfl, ru⟩ := vals1 r
  cases ru
  obtain ⟨its, rv, pl, hz⟩ := I.list hp
  have ei := vals_refs rv
  subst ei
  have hlen : (l.map Value.ref).length ≤ sizeLine := by
    rw [List.length_map] at hz ⊢
    exact hz
  have obj : ∀ a ∈ l, ∃ (us : List Value) (o : Obj) (n : Nat), s.heap.get? a = some o ∧ o.cls = .type "tuple" ∧ o.data = .seq us.toArray n ∧ Vals ((row a).map V.int) us ∧ row a ≠ [] := fun a ha => by
    obtain ⟨ht, hne⟩ := hrow a ha
    obtain ⟨as, ra, pa, _⟩ := I.tuple ht
    obtain ⟨oa, ga, ca, na, da⟩ := pa
    exact ⟨as, oa, na, ga, ca, da, ra, hne⟩
  refine srt_all (R := fun out => ∃ l' : List Addr, out = l'.map Value.ref ∧ l'.Perm l ∧ l'.Pairwise fun a b => HT.lexLt (row b) (row a) = false) pl.isList hlen (fun hs => ⟨l, rfl, .refl _, ?_⟩) (fun hb g kp => ?_) (fun out ⟨l', e, pm, _⟩ => by rw [e, List.length_map, List.length_map, pm.length_eq]) fun out ⟨l', e, pm, pw⟩ h2 c kp2 at2 => ?_
  · rw [List.length_map] at hs
    exact pw_small hs
  · have obj' : ∀ a ∈ l, ∃ (us : List Value) (o : Obj) (n : Nat), g.get? a = some o ∧ o.cls = .type "tuple" ∧ o.data = .seq us.toArray n ∧ Vals ((row a).map V.int) us ∧ row a ≠ [] := fun a ha => by
      obtain ⟨us, o, n, h1, h2⟩ := obj a ha
      exact ⟨us, o, n, kp _ _ h1, h2⟩
    refine kind_wp (s := { s with heap := g }) obj' (by rw [List.length_map] at hb; omega) ?_
    refine ⟨rfl, runs_rows (s := { s with heap := g }) obj' fun st l' e1 e2 e3 e4 => ⟨e1, l'.map Value.ref, e2, l', rfl, e3, e4⟩⟩
  · subst e
    exact ⟨.ref (s.heap.objs.size + 1), _, I.laid (t' := s.toks) kp2 (Nat.le_succ _) (show ObjOk X.prog X.w _ h2 _ (.lst (l'.map V.ref)) from ⟨by rw [List.length_map, pm.length_eq]; rw [List.length_map] at hz; exact hz, _, c, vals_of l', at2⟩), rfl, q _ l' (I.hok.fresh (Nat.le_succ _)) pm pw⟩
end
end L2

set_option Elab.async false
set_option linter.all false
set_option maxRecDepth 100000
/-! max of a list, l.index(k). -/
namespace L2
open PySem PySem.Spec PyProof.Rows PySem.Calls
section
variable {X : Cx}
end
end L2

set_option Elab.async false
set_option linter.all false
set_option maxRecDepth 100000
/-! a text walked; dict of a list of pairs; is not True; t != (). -/
namespace L2
open PySem PySem.Spec PyProof.Rows PySem.Calls
theorem keys_none : typeLookup (.type "list") "keys" = pure none := by rw [typeLookup_type, builtinLookup_eq_fast]; kernel_rfl
theorem keys_miss {prog : Program} {w : World} {A : Around} {E : Value → Shared → Prop} {s : Shared} {a : Addr} {xs : Array Value} {k : Nat} {Q : Option Value → Shared → Prop}
    (hx : s.heap.get? a = some { cls := .type "list", data := .seq xs k }) (hA : A.handled = none)
    (h : ∀ h' tk, (∀ b o, s.heap.get? b = some o → h'.get? b = some o) → Q none { s with heap := h', toks := tk }) :
    wpAny (model prog w) A (getAttr? (.ref a) "keys") Q E s := by
  obtain ⟨hp, g, d, tk, os⟩ := s
  have hT : ∀ tk', (⟨hp, g, d, tk', os⟩ : Shared).TypeIs (.ref a) "list" := fun _ => ⟨_, hx, rfl⟩
  have f1 := sub_AttributeError
  have f3 := F.slot_list_getattribute.lookup
  have f4 := F.slot_list_getattribute.bind (.ref a)
  have f5 := am_list_getattr_none
  unfold getAttr? getAttrBy? getAttrBy
  repeat (any_goals (first | assumption | exact hT _ | ((with_reducible show wpAny _ _ (call (Value.builtin "list.__getattribute__") _ _) _ _ _); refine call_meets F.slot_list_getattribute (hT _) am_entry_list_getattribute (F.args_list_getattribute_2 _ _) (meets_getattribute_miss_list a xs k #[] "keys" _ keys_none (by decide +kernel) (by size_fits)) ⟨hx, hA, fun h' tk' e hx' => ?_⟩) | wp_step))
  obtain ⟨t', u', he⟩ := hx'.there
  show wpAny _ _ (getattributeRaised _ _ _ _ _ _ _) _ _ _
  unfold getattributeRaised
  repeat (any_goals (first | assumption | wp_step))
  exact h _ _ hx'.keeps
theorem entry_dul : entryFor table "dict.update.loop" = some Builtin.«dict.update.loop» := entryFor_of_tree (by kernel_rfl)
theorem plain_dul : plainId "dict.update.loop" = true := by decide +kernel
theorem quiet_dul (args : Args) : (Code.builtin "dict.update.loop" args).quiet = true := Code.quiet_builtin _ (by decide +kernel)
theorem dict_loop {prog : Program} {w : World} {A : Around} {R : Result → Shared → Prop} {K : Type} [DecidableEq K] {knd : PySem.KeyKind prog w K} {d it l : Addr} {its : List Value} {more : List (K × Value)} (hh : A.in1.handled = none) (hdi : d ≠ it) (hli : l ≠ it) (hld : l ≠ d) (hml : more.length = its.length) :
    ∀ (rest i : Nat) (s : Shared) (kvs : List (K × Value)) (tk : Tok), its.length - i = rest → i ≤ its.length → s.heap.IsListIter it l i → s.heap.IsList l its.toArray → s.heap.DictOf knd d kvs → kvs.length + rest ≤ sizeLine →
      (∀ j, i ≤ j → j < its.length → ∃ a c key k v, its[j]? = some (.ref a) ∧ a ≠ d ∧ a ≠ it ∧ (∃ o, s.heap.get? a = some o ∧ o.cls = .type "tuple" ∧ o.data = .seq #[key, v] c) ∧ more[j]? = some (k, v) ∧ knd.is k key = true) →
      (∀ h' tk', h'.DictOf knd d ((more.drop i).foldl (fun a kv => stored a kv.1 kv.2) kvs) → (∀ b o, b ≠ d → b ≠ it → s.heap.get? b = some o → h'.get? b = some o) → R (.ok (.ret .none)) { s with heap := h', toks := tk' }) →
      codeAny (model prog w) A (.builtin "dict.update.loop" ⟨[.ref d, .ref it, .int i tk, .none], []⟩) R s := by
  intro rest
  induction rest with
  | zero =>
    intro i s kvs tk hr hi st ls dd hz rows fin
    have hin : i = its.length := by omega
    refine codeAny_builtin entry_dul ?_
    rw [Around.under_plainId plain_dul _]
    show wpAny _ A.in1 (pyNext (.ref it) >>= _) _ _ s
    refine wpAny_bind (wpAny_pyNext_list_end hh st ls (by simp [hin]) fun h' eb => ?_)
    show wpAny _ A.in1 (Builtin.Dict.addKeywords d [] >>= fun _ => ret Value.none) _ _ _
    refine wpAny_bind (wpAny_pure (wpAny_pure ?_))
    refine fin h' s.toks ?_ fun b o hb hb2 e => eb b o hb2 e
    rw [List.drop_of_length_le (by omega)]
    exact dd.extBut eb hdi
  | succ rest ih =>
    intro i s kvs tk hr hi st ls dd hz rows fin
    obtain ⟨a, c, key, k, v, hx, had, hai, ⟨o, ho, hc, hdt⟩, hm, hk⟩ := rows i (Nat.le_refl _) (by omega)
    refine codeAny_builtin entry_dul ?_
    rw [Around.under_plainId plain_dul _]
    show wpAny _ A.in1 (pyNext (.ref it) >>= _) _ _ s
    refine wpAny_bind (wpAny_pyNext_list_item st ls (x := .ref a) (by simpa using hx) fun h' st' sb => ?_)
    have ho' : h'.get? a = some o := (sb.2 a hai).trans ho
    dsimp only
    refine wpAny_bind (wpAny_holding ?_)
    refine wpAny_bind (wpAny_tryCatch ?_)
    unfold Builtin.Dict.pairItems
    refine wpAny_bind (wpAny_typeOf (s := { s with heap := h' }) (T := "tuple") ⟨_, ho', hc⟩ ?_)
    rw [if_pos (by decide)]
    refine wpAny_bind (wpAny_seqItems (s := { s with heap := h' }) ho' hdt (wpAny_pure ?_))
    show wpAny _ _ (holding [key, v] (dictSet d key v)) _ _ _
    refine wpAny_holding (wpAny_dictSet_pairs (s := { s with heap := h' }) (kvs := kvs) hk (dd.sameBut sb hdi) (fun h2 dd2 sb2 => ?_) (by omega))
    refine wpAny_pure ⟨quiet_dul _, ?_⟩
    have e1 : more.drop i = (k, v) :: more.drop (i + 1) := by
      have hlt : i < more.length := (List.getElem?_eq_some_iff.mp hm).1
      rw [List.drop_eq_getElem_cons hlt, (List.getElem?_eq_some_iff.mp hm).2]
    have kp : ∀ b o, b ≠ d → b ≠ it → s.heap.get? b = some o → h2.get? b = some o := fun b o h1 h3 e => (sb2.2 b h1).trans ((sb.2 b h3).trans e)
    have ec : ((i : Int) + 1) = ((i + 1 : Nat) : Int) := by omega
    show codeAny _ A (.builtin "dict.update.loop" ⟨[.ref d, .ref it, .int ((i : Int) + 1) 0, .none], []⟩) R _
    rw [ec]
    have lst := (stored_length_le kvs k v)
    refine ih (i + 1) { s with heap := h2, toks := s.toks + 1 } (stored kvs k v) 0 (by omega) (by omega) (st'.at fun o e => (sb2.2 it hdi.symm).trans e) (let ⟨o, e, r⟩ := ls; ⟨o, kp l o hld hli e, r⟩) dd2 (by omega) (fun j hj hjl => ?_) (fun h3 tk3 dd3 kp3 => ?_)
    · obtain ⟨a, c, key, k, v, hx, had, hai, ⟨o, ho, hc, hdt⟩, hm, hk⟩ := rows j (by omega) hjl
      exact ⟨a, c, key, k, v, hx, had, hai, ⟨o, kp a o had hai ho, hc, hdt⟩, hm, hk⟩
    · refine fin h3 tk3 ?_ fun b o h1 h4 e => kp3 b o h1 h4 (kp b o h1 h4 e)
      rw [e1]
      exact dd3
theorem call_dict_list {prog : Program} {w : World} {A : Around} {E : Value → Shared → Prop} {s : Shared} {K : Type} [DecidableEq K] {knd : PySem.KeyKind prog w K} {l : Addr} {its : List Value} {c : Nat} {more : List (K × Value)} {Q : Value → Shared → Prop} (hA : A.handled = none) (ho : s.heap.get? l = some { cls := .type "list", data := .seq its.toArray c }) (hml : more.length = its.length) (hz : its.length ≤ sizeLine)
    (rows : ∀ j, j < its.length → ∃ a c key k v, its[j]? = some (.ref a) ∧ (∃ o, s.heap.get? a = some o ∧ o.cls = .type "tuple" ∧ o.data = .seq #[key, v] c) ∧ more[j]? = some (k, v) ∧ knd.is k key = true)
    (h : ∀ h' tk, h'.DictOf knd s.heap.objs.size (more.foldl (fun a kv => stored a kv.1 kv.2) []) → (∀ b o, s.heap.get? b = some o → h'.get? b = some o) → Q (.ref s.heap.objs.size) { s with heap := h', toks := tk }) :
    wpAny (model prog w) A (call (.type "dict") [.ref l]) Q E s := by
  refine callType_codes (Q₁ := fun obj s₁ => obj = .ref s.heap.objs.size ∧ s₁ = { s with heap := s.heap.push { cls := .type "dict", data := .dict #[] } }) F.kt_called_dict (F.kt_typeCall_dict_1 _) F.entry_dict_init (kt_code_dict_new _ ⟨rfl, rfl⟩) ?_
  rintro obj s₁ ⟨rfl, rfl⟩
  have hnew : (s.heap.push { cls := .type "dict", data := .dict #[] }).DictOf knd s.heap.objs.size [] := Heap.DictOf.new s.heap
  obtain ⟨g1, eg1⟩ : ∃ g1, g1 = s.heap.push { cls := .type "dict", data := .dict #[] } := ⟨_, rfl⟩
  have hs1 : g1.objs.size = s.heap.objs.size + 1 := by rw [eg1]; exact Heap.size_push ..
  have kp1 : ∀ b o, s.heap.get? b = some o → g1.get? b = some o := fun b o e => by rw [eg1]; exact Heap.get?_push_of_some _ e
  rw [← eg1] at hnew ⊢
  refine ⟨hnew.typeIs, F.args_dict_init_2 _ _, ?_⟩
  unfold Builtin.«dict.__init__»
  refine wpAny_bind ?_
  unfold Builtin.Dict.selfAndRest
  refine wpAny_bind (wpAny_notOrdered_dict hnew.typeIs ?_)
  show wpAny _ _ (pure (s.heap.objs.size, [Value.ref l])) _ _ _
  refine wpAny_pure ?_
  show wpAny _ _ (Builtin.Dict.updateFrom "dict.__init__" s.heap.objs.size (.ref l) [] .none) _ _ _
  unfold Builtin.Dict.updateFrom
  refine wpAny_bind (wpAny_typeOf (s := { s with heap := g1 }) (T := "list") ⟨_, kp1 _ _ ho, rfl⟩ ?_)
  rw [if_pos (by decide)]
  refine wpAny_bind (keys_miss (s := { s with heap := g1 }) (kp1 _ _ ho) (by simp [hA]) fun h2 tk2 kp2 => ?_)
  rw [if_pos (show (none : Option Value).isNone = true from rfl)]
  refine wpAny_bind (wpAny_rule ?_)
  have kp2' : ∀ b o, s.heap.get? b = some o → h2.get? b = some o := fun b o e => kp2 b o (kp1 b o e)
  have hl2 : h2.IsList l its.toArray := ⟨_, kp2' _ _ ho, rfl, _, rfl⟩
  refine wpAny_bind (wpAny_pyIter_list (s := { s with heap := h2, toks := tk2 }) hl2 ?_)
  have dd2 : h2.DictOf knd s.heap.objs.size [] := by
    obtain ⟨o, es, ep, e, r⟩ := hnew
    exact ⟨o, es, ep, kp2 _ _ e, r⟩
  have lt1 : s.heap.objs.size < h2.objs.size := by
    obtain ⟨o, es, ep, e, r⟩ := dd2
    exact Heap.lt_size e
  have ltl : l < s.heap.objs.size := Heap.lt_size ho
  refine wpAny_pure ⟨quiet_dul _, ?_⟩
  obtain ⟨h3, eh3⟩ : ∃ h3, h3 = h2.push { cls := .type "list_iterator", data := .fields #[.ref l, .int 0 0] } := ⟨_, rfl⟩
  have kp3 : ∀ b o, h2.get? b = some o → h3.get? b = some o := fun b o e => by rw [eh3]; exact Heap.get?_push_of_some _ e
  have st3 : h3.IsListIter h2.objs.size l 0 := by rw [eh3]; exact ⟨_, Heap.get?_push_size _ rfl, rfl, rfl⟩
  show codeAny _ _ (.builtin "dict.update.loop" ⟨[.ref s.heap.objs.size, .ref h2.objs.size, .int ((0 : Nat) : Int) 0, .none], []⟩) _ { s with heap := h2.push { cls := .type "list_iterator", data := .fields #[.ref l, .int 0 0] }, toks := tk2 }
  rw [← eh3]
  refine dict_loop (knd := knd) (its := its) (more := more) (by simp [hA]) (Nat.ne_of_lt lt1) (Nat.ne_of_lt (Nat.lt_trans ltl lt1)) (Nat.ne_of_lt ltl) hml its.length 0 { s with heap := h3, toks := tk2 } [] 0 (by omega) (Nat.zero_le _) st3 (let ⟨o, e, r⟩ := hl2; ⟨o, kp3 l o e, r⟩) (let ⟨o, es, ep, e, r⟩ := dd2; ⟨o, es, ep, kp3 _ _ e, r⟩) (by simpa using hz) (fun j _ hj => ?_) fun h' tk' dd' kp' => ?_
  · obtain ⟨a, c, key, k, v, hx, ⟨o, ho, hc, hdt⟩, hm, hk⟩ := rows j hj
    have lta : a < s.heap.objs.size := Heap.lt_size ho
    exact ⟨a, c, key, k, v, hx, Nat.ne_of_lt lta, Nat.ne_of_lt (Nat.lt_trans lta lt1), ⟨o, kp3 _ _ (kp2' _ _ ho), hc, hdt⟩, hm, hk⟩
  · exact ⟨rfl, h h' tk' dd' fun b o e => kp' b o (Nat.ne_of_lt (Heap.lt_size e)) (Nat.ne_of_lt (Nat.lt_trans (Heap.lt_size e) lt1)) (kp3 _ _ (kp2' _ _ e))⟩
theorem KV.fold : ∀ {more : List (Key × V)} {rs : List (Key × Value)} {kvs : List (Key × V)} {vs : List (Key × Value)}, KV more rs → KV kvs vs → KV (mergeK kvs more) (rs.foldl (fun a kv => stored a kv.1 kv.2) vs) := by
  intro more rs kvs vs r
  unfold KV at r
  induction r generalizing kvs vs with
  | nil => intro q; exact q
  | @cons p q ps qs h t ih =>
    intro r0
    have e : KV (putK kvs p.1 p.2) (stored vs q.1 q.2) := by
      have := r0.put p.1 h.2
      rw [← h.1]; exact this
    exact ih e
section
variable {X : Cx}
theorem rows_of {pins : List (Addr × Obj)} {σ : St} {H : Hp} {s : Shared} (I : Inv X pins σ H s) : ∀ (kvs : List (Key × V)) (l : List Addr), (∀ (j : Nat) (kv : Key × V), kvs[j]? = some kv → ∃ a, l[j]? = some a ∧ H a = some (.tup [kV kv.1, kv.2])) →
    ∃ rs : List (Key × Value), KV kvs rs ∧ rs.length = kvs.length ∧ ∀ (j : Nat) (k : Key) (v : Value), rs[j]? = some (k, v) → ∃ a c key, l[j]? = some a ∧ (∃ o, s.heap.get? a = some o ∧ o.cls = .type "tuple" ∧ o.data = .seq #[key, v] c) ∧ (mixKind X.prog X.w).is k key = true
  | [], l, _ => ⟨[], .nil, rfl, fun j k v h => by simp at h⟩
  | (k, v) :: kvs, l, h => by
    obtain ⟨a, h1, h2⟩ := h 0 (k, v) rfl
    obtain ⟨_, its, rv, o, ho, hc, c, hd⟩ := (show ObjOk X.prog X.w H s.heap a (.tup [kV k, v]) from I.hok a _ h2)
    obtain ⟨u1, u2, rfl, r1, r2⟩ := vals2 rv
    obtain ⟨b, l, rfl⟩ : ∃ b l', l = b :: l' := by
      cases l with
      | nil => simp at h1
      | cons b l => exact ⟨b, l, rfl⟩
    have e : b = a := by simpa using h1
    subst e
    obtain ⟨rs, hk, hl, hr⟩ := rows_of I kvs l fun j kv hj => h (j + 1) kv (by simpa using hj)
    refine ⟨(k, u2) :: rs, .cons ⟨rfl, r2⟩ hk, by simp [hl], fun j k' v' hj => ?_⟩
    cases j with
    | zero =>
      have e : (k, u2) = (k', v') := by simpa using hj
      cases e
      exact ⟨b, c, u1, rfl, ⟨o, ho, hc, hd⟩, kV_is r1⟩
    | succ j =>
      obtain ⟨a, c, key, z1, z2, z3⟩ := hr j k' v' (by simpa using hj)
      exact ⟨a, c, key, by simpa using z1, z2, z3⟩
/-- dict of a list of pairs -/
theorem call_dict_rows (hc : X.calm = true) : CallR X (.type "dict") (fun xs H Q => ∃ (p : Addr) (l : List Addr) (kvs : List (Key × V)), xs = [.ref p] ∧ H p = some (.lst (l.map V.ref)) ∧ kvs.length = l.length ∧ (∀ (j : Nat) (kv : Key × V), kvs[j]? = some kv → ∃ a, l[j]? = some a ∧ H a = some (.tup [kV kv.1, kv.2])) ∧
    ∀ q, H q = none → q ≠ sysModules → Q (.ref q) (upd H q (.dK (mergeK [] kvs)))) := by
  intro pins s σ H xs us Q I r h
  obtain ⟨p, l, kvs, rfl, hp, hl, rows, q⟩ := h
  obtain ⟨u, rfl, ru⟩ := vals1 r
  cases ru
  obtain ⟨z, its, n, rv, hlen, e⟩ := I.lstM hp
  rw [List.length_map] at hlen z
  obtain ⟨rs, hkv, hrl, hrs⟩ := rows_of I kvs l rows
  refine call_dict_list (knd := mixKind X.prog X.w) (its := its) (more := rs) (I.ok.hd hc) e (by omega) (by omega) (fun j hj => ?_) fun h' tk dd kp => ?_
  · obtain ⟨⟨k, v⟩, hj2⟩ : ∃ x, rs[j]? = some x := ⟨_, List.getElem?_eq_getElem (by omega)⟩
    obtain ⟨a, c, key, z1, z2, z3⟩ := hrs j k v hj2
    obtain ⟨u, hu, ru⟩ := rv.get (x := .ref a) (i := j) (by rw [List.getElem?_map, z1]; rfl)
    cases ru
    exact ⟨a, c, key, k, v, hu, z2, hj2, z3⟩
  · have hn : H s.heap.objs.size = none := I.hok.fresh (Nat.le_refl _)
    have ns : s.heap.objs.size ≠ sysModules := Ne.symm (Nat.ne_of_lt I.big)
    refine ⟨.ref s.heap.objs.size, _, I.laid (a := s.heap.objs.size) (o := .dK (mergeK [] kvs)) (t' := tk) kp (Nat.le_refl _) (dk_new ?_ (beq_eq_false_iff_ne.mpr ns) (KV.fold hkv .nil) dd), rfl, q _ hn ns⟩
    have := length_mergeK kvs []
    rw [List.length_nil] at this
    omega
/-! ### a text walked -/
def Itq (x : Str) : It := ⟨fun i _ => i < x.cps.size, fun i H v H' => H' = H ∧ ∃ c, x.cps[i]? = some c ∧ v = .str ⟨#[c]⟩, fun i _ => x.cps.size ≤ i⟩
theorem turn_str {P : Program} {w : World} {K : PySem.W.Frag} {tg : Expr} (x : Str) (t : Tok) (it : Addr) : Turn P w K tg (Itq x) [it] it (fun i h => h.IsStrIter it "str_ascii_iterator" x t i) where
  mem := by simp
  obj := fun i h st b hb => by
    have e : b = it := by simpa using hb
    subst e
    obtain ⟨o, e, c, d⟩ := st
    exact ⟨o, e, fun v z => by rw [d] at z; cases z⟩
  keep := fun i h h' st k => let ⟨o, e, r⟩ := st; ⟨o, k it (by simp) o e, r⟩
  item := by
    intro X hP hw hK hc i pins s σ H E I hf st hg
    subst hP hw hK
    have hg : i < x.cps.size := hg
    obtain ⟨f0, f1, f2, f3, f4, f5⟩ := hf it (by simp)
    have hx : x.cps[i]? = some x.cps[i] := Array.getElem?_eq_getElem hg
    refine wpAny_pyNext_ascii_item st hx fun h' st' sb => ?_
    have I1 : Inv X pins σ H { s with heap := h', toks := s.toks + 1 } := I.turned (t' := s.toks + 1) (fun b o hb e => (sb.2 b hb).trans e) f0 f1 f3 f4 f5
    obtain ⟨o, e, c, d⟩ := id st'
    exact ⟨_, rfl, go_of (s := { s with heap := h', toks := s.toks + 1 }) e c d (by decide) ⟨.str ⟨#[x.cps[i]]⟩, H, I1, ⟨_, rfl⟩, ⟨rfl, _, hx, rfl⟩, st', fun b hb => (hf b hb).1⟩⟩
  done := by
    intro X hP hw hK hc i pins s σ H E I hf st hg
    subst hP hw hK
    have hg : x.cps.size ≤ i := hg
    obtain ⟨f0, f1, f2, f3, f4, f5⟩ := hf it (by simp)
    exact wpAny_pyNext_ascii_end (I.ok.hd hc) st (Array.getElem?_eq_none hg) fun h' eb => ⟨rfl, I.turned (t' := s.toks) (fun b o hb e => eb b o hb e) f0 f1 f3 f4 f5⟩
  self := fun _ _ _ _ _ st h => wpAny_pyIter_striter_ascii st h
def iStr (tl : TE) : TI := fun σ H R => tl σ H fun v H1 => ∃ x, v = .str x ∧ x.cps.all (· < 128) = true ∧ R (Itq x) H1
theorem pi_str {tg l : Expr} {tl : TE} (hl : PE X l tl) : PI X tg l (iStr tl) := by
  intro pins s σ H R I h
  refine thn (hl pins s σ H _ I h) fun v s1 ⟨x, H1, I1, r1, q1⟩ => ?_
  obtain ⟨x, e, ha, q⟩ := q1
  subst e
  obtain ⟨t, rfl⟩ := r1
  refine wpAny_pyIter_ascii ha ?_
  refine ⟨s1.heap.objs.size, [s1.heap.objs.size], _, _, H1, rfl, I1.kept (t' := s1.toks) fun b o e => Heap.get?_push_of_some _ e, turn_str x t _, ⟨_, Heap.get?_push_size _ rfl, rfl, rfl⟩, fun b hb => ?_, q⟩
  have e : b = s1.heap.objs.size := by simpa using hb
  subst e
  exact I1.fpOk (Nat.le_refl _) (I1.hok.fresh (Nat.le_refl _))
/-- b is not True -/
theorem op_isnotB : OpR X (compareOp .IsNot) (fun x y H Q => ∃ b c, x = .bl b ∧ y = .bl c ∧ Q (.bl (!decide (b = c))) H) := by
  intro pins s σ H x y v u Q I rx ry h
  obtain ⟨b, c, rfl, rfl, q⟩ := h
  cases (show v = Value.bool b from rx)
  cases (show u = Value.bool c from ry)
  refine wpAny_isNot_plain rfl ⟨.bl _, H, I, ?_, q⟩
  cases b <;> cases c <;> rfl
end
end L2

set_option Elab.async false
set_option linter.all false
set_option maxRecDepth 100000
set_option maxHeartbeats 400000
namespace K11
open PySem L2
def top (i : Nat) : Stmt := PySem.Challenge.pw_woolyears_k11_parts_that_are_fair.main.body.getD i (.Pass ⟨0, 0, 0, 0⟩)
/-! ### what is asked of a thing -/
def wholeD (d : PyData) : Bool := isIntD d && !isBoolD d
def items : PyData → List PyData
  | .tuple ds => ds
  | _ => []
def intOf : PyData → Int
  | .int i => i
  | _ => 0
def tupOfD (d : PyData) (f m : Int) : Bool := isTupD d && (decide (f ≤ (items d).length) && decide (((items d).length : Int) ≤ m))
def wholesD (d : PyData) (n : Int) : Bool := tupOfD d n n && (items d).all wholeD
theorem nd1 (x : Str) : ([x] : List Str).Nodup := by simp
theorem sz_pos (d : PyData) : 1 ≤ sz d := by cases d <;> simp [sz]
theorem len_szs : ∀ (ds : List PyData), ds.length ≤ szs ds
  | [] => Nat.zero_le _
  | d :: ds => by
    have := len_szs ds
    have := sz_pos d
    simp only [List.length_cons, szs]
    omega
theorem mem_szs : ∀ {ds : List PyData} {d : PyData}, d ∈ ds → sz d ≤ szs ds
  | x :: ds, d, h => by
    simp only [szs]
    rcases List.mem_cons.mp h with e | e
    · rw [e]; omega
    · have := mem_szs e
      omega
theorem in_sz {ds : List PyData} {d : PyData} (h : d ∈ ds) (hz : sz (.tuple ds) ≤ 4000) : sz d ≤ 4000 := by
  have := mem_szs h
  simp only [sz] at hz
  omega
theorem len_line {S : Addr → Prop} {H : Hp} {xs : List V} {ds : List PyData} (r : IsThs S H xs ds) (hz : sz (.tuple ds) ≤ 4000) : xs.length < sizeLine := by
  have := len_szs ds
  have := r.length
  simp only [sz] at hz
  rw [sizeLine_eq]
  omega
/-! ### the promises -/
/-- one thing in; a truth of it out; nothing that there was is turned -/
def spT (f : PyData → Bool) : Sp := fun vs H Q _ => ∃ S v d, vs = [v] ∧ IsTh S H v d ∧ sz d ≤ 4000 ∧ ∀ H', Same H H' → Q (.bl (f d)) H'
def spT1 (f : PyData → Int → Bool) : Sp := fun vs H Q _ => ∃ S v d n, vs = [v, .int n] ∧ IsTh S H v d ∧ sz d ≤ 4000 ∧ ∀ H', Same H H' → Q (.bl (f d n)) H'
def spT2 (f : PyData → Int → Int → Bool) : Sp := fun vs H Q _ => ∃ S v d n m, vs = [v, .int n, .int m] ∧ IsTh S H v d ∧ sz d ≤ 4000 ∧ ∀ H', Same H H' → Q (.bl (f d n m)) H'
structure Mg (mg : Str → Option Value) : Prop where
  isinstance : mg "isinstance" = none
  int : mg "int" = none
  bool : mg "bool" = none
  tuple : mg "tuple" = none
  len : mg "len" = none
  all : mg "all" = none
theorem boot_int : bootBuiltins "int" = some (.type "int") := by decide +kernel
theorem boot_bool : bootBuiltins "bool" = some (.type "bool") := by decide +kernel
theorem boot_tuple : bootBuiltins "tuple" = some (.type "tuple") := by decide +kernel
theorem boot_isinstance : bootBuiltins "isinstance" = some (.builtin "isinstance") := by decide +kernel
theorem boot_all : bootBuiltins "all" = some (.builtin "all") := by decide +kernel
/-- all([.. for x in t]) of a tuple of things: read -/
theorem all_things {K : PySem.W.Frag} {S : Addr → Prop} {te : TE} {src : List (Option Nat)} {i j : Nat} {σ : St} {H : Hp} {Q : VK} {a : Addr} {xs : List V} {ds : List PyData} (f : PyData → Bool) (hσ : σ[i]? = some (some (.ref a))) (ea : H a = some (.tup xs)) (r : IsThs S H xs ds) (hl : xs.length < sizeLine)
    (hte : ∀ v d H1 Q1, d ∈ ds → Same H H1 → IsTh S H1 v d → (∀ H', Same H1 H' → Q1 (.bl (f d)) H') → te ((capσ σ src).set j (some v)) H1 Q1) (q : ∀ H', Same H H' → Q (.bl (ds.all f)) H') :
    tCB (fun xs H Q => ∃ (p : Addr) (bs : List Bool), xs = [.ref p] ∧ SqL K H p (bs.map V.bl) ∧ Q (.bl (bs.all id)) H) (tCons (tComp (iTup K (tVar i)) src (gName j) tYes te) tNil) σ H Q := by
  refine ⟨_, hσ, a, rfl, ⟨xs, SqT.of ea⟩, comp_truths (j := j) f ea r hl hte fun H2 s2 D hD => ⟨D, ds.map f, rfl, ?_, ?_⟩⟩
  · rw [← bools_of]
    exact SqL.of upd_same
  · rw [all_of]
    exact q _ (s2.updR hD)
/-- the module's numbers -/
structure Nums (mg : Str → Option Value) : Prop where
  many : ∃ t, mg "MOST_WEIGHTS" = some (.int 80 t)
  most : ∃ t, mg "MOST_WEIGHT" = some (.int 99 t)
theorem whole_int {S : Addr → Prop} {H : Hp} {v : V} {d : PyData} (h : IsTh S H v d) (e : wholeD d = true) : ∃ i, v = .int i ∧ d = .int i := by
  cases h with
  | int i => exact ⟨i, rfl, rfl⟩
  | _ => cases e
theorem tupOf_len {ds : List PyData} {n m : Int} (h : tupOfD (.tuple ds) n m = true) : n ≤ (ds.length : Int) ∧ (ds.length : Int) ≤ m := by
  have h : (true && (decide (n ≤ (ds.length : Int)) && decide ((ds.length : Int) ≤ m))) = true := h
  rw [Bool.true_and, Bool.and_eq_true] at h
  exact ⟨of_decide_eq_true h.1, of_decide_eq_true h.2⟩
/-- a def that may be called by its name -/
def Cal (P : Program) (w : World) (K : PySem.W.Frag) (mg : Str → Option Value) (base : Heap) (k : Nat) (x : Str) (ps : List Str) (sp : Sp) : Prop :=
  ∃ f fd, FnOk P w K mg base CX0 k f fd ps sp ∧ mg x = some (.ref f) ∧ PySem.W.keepIn K (.ref f) = true ∧ Binds K fd ps []
theorem pe_cal {X : Cx} {k j : Nat} {x : Str} {ps : List Str} {sp : Sp} {p pos : Pos} {e : Expr} {es : List Expr} {t : TA} (c : Cal X.prog X.w X.K X.mg X.base j x ps sp) (hr : Room k X.A) (hjk : j ≤ k) (hg : Gl X x) (ha : PA X (e :: es) t)
    (hdb : (x == ("__debug__" : Str)) = false := by decide) (he : starEach (e :: es) X.env = (false, eval e X.env) :: starEach es X.env := by rfl) (hpl : (backTo pos (starEach es X.env)).any (·.1) = false := by rfl) :
    PE X (.Call (.Name x p) (e :: es) [] pos) (tCall sp [] E0 t) := by
  obtain ⟨f, fd, F, hm, hk, hb⟩ := c
  exact pe_call F (hr.mono hjk) hg hm hk hb .nil pass0 ha hdb he hpl
def betD (d : PyData) (lo hi : Int) : Bool := wholeD d && (decide (lo ≤ intOf d) && decide (intOf d ≤ hi))
def weightsD (d : PyData) : Bool := tupOfD d 1 80 && (items d).all fun x => betD x 1 99
theorem boot_sorted : bootBuiltins "sorted" = some (.builtin "sorted") := by decide +kernel
theorem boot_sum : bootBuiltins "sum" = some (.builtin "sum") := by decide +kernel
/-- a comprehension of n turns -/
theorem comp_gen {J : It} {g : TG} {te : TE} {σ0 : St} {H0 : Hp} {Fin : List V → Hp → Prop} (n : Nat) (Pv : Nat → List V → St → Hp → Prop) (h0 : Pv 0 [] σ0 H0) (hz : n < sizeLine)
    (step : ∀ i ys σ H, i < n → ys.length = i → Pv i ys σ H → J.go i H ∧ ∀ x H', J.yld i H x H' → ∀ R : V → St → Hp → Prop, (∀ y σ2 H4, Pv (i + 1) (ys ++ [y]) σ2 H4 → R y σ2 H4) → g x σ H' fun σ2 H2 => te σ2 H2 fun y H4 => R y σ2 H4)
    (fin : ∀ ys σ H, ys.length = n → Pv n ys σ H → J.stop n H ∧ Fin ys H) : CompW J g tYes te Fin σ0 H0 := by
  refine ⟨fun i m ys σ H => m = n - i ∧ i ≤ n ∧ ys.length = i ∧ Pv i ys σ H, ⟨_, rfl, Nat.zero_le _, rfl, h0⟩, ?_⟩
  rintro i m ys σ H ⟨rfl, hi, hy, p⟩
  refine ⟨by omega, ?_⟩
  by_cases hlt : i < n
  · obtain ⟨go, st⟩ := step i ys σ H hlt hy p
    exact .inr ⟨go, fun x H' y => st x H' y _ fun y σ2 H4 p2 => ⟨n - (i + 1), by omega, rfl, hlt, by rw [List.length_append, hy]; rfl, p2⟩⟩
  · have e : i = n := by omega
    subst e
    exact .inl (fin ys σ H hy p)
theorem nd2 (x y : Str) (h : x ≠ y) : ([x, y] : List Str).Nodup := by simp [h]
section
variable {P : Program} {w : World} {K : PySem.W.Frag} {mg : Str → Option Value} {base : Heap}

theorem sc1 : FnScope ["thing"] ["thing"] (defScope (top 5)) := ⟨rfl, rfl, rfl, by decide +kernel, rfl, by decide +kernel, by decide +kernel⟩
theorem ok_is_whole {f : Addr} {fd : FuncData} (F : Fun K "is_whole" "is_whole" (top 5) f fd) (T : Mg mg) : FnOk P w K mg base CX0 1 f fd ["thing"] (spT wholeD) := by
  refine F.ok sc1 (fun vs H Q E h => ?_) (fun cdv A outer s H vs Q E hr h => ?_)
  · obtain ⟨S, v, d, rfl, _⟩ := h
    rfl
  · obtain ⟨S, v, d, rfl, th, hz, q⟩ := h
    refine ⟨_, pss_one (ps_ret (pe_and (pe_callB call_isinst rfl T.isinstance boot_isinstance (pa_cons (pv 0) (pa_cons (pe_bltn rfl T.int boot_int (v := .ty "int") rfl) pa_nil)))
      (pe_one (pe_not (pe_callB call_isinst rfl T.isinstance boot_isinstance (pa_cons (pv 0) (pa_cons (pe_bltn rfl T.bool boot_bool (v := .ty "bool") rfl) pa_nil))))))), ?_⟩
    refine ⟨_, rfl, v, _, "int", isIntD d, rfl, th.ty, kit_int d, _, rfl, ?_⟩
    have fin := q H (Same.refl H)
    unfold wholeD at fin
    cases e : isIntD d with
    | false =>
      rw [e] at fin
      exact iteF fin
    | true =>
      rw [e] at fin
      exact iteT ⟨_, rfl, v, _, "bool", isBoolD d, rfl, th.ty, kit_bool d, _, rfl, fin⟩
/-! ### is_tuple_of -/
theorem sc2 : FnScope ["thing", "fewest", "most"] ["thing", "fewest", "most"] (defScope (top 7)) := ⟨rfl, rfl, rfl, by decide +kernel, rfl, by decide +kernel, by decide +kernel⟩
theorem ok_is_tuple_of {f : Addr} {fd : FuncData} (F : Fun K "is_tuple_of" "is_tuple_of" (top 7) f fd) (T : Mg mg) : FnOk P w K mg base CX0 1 f fd ["thing", "fewest", "most"] (spT2 tupOfD) := by
  refine F.ok sc2 (fun vs H Q E h => ?_) (fun cdv A outer s H vs Q E hr h => ?_)
  · obtain ⟨S, v, d, n, m, rfl, _⟩ := h
    rfl
  · obtain ⟨S, v, d, n, m, rfl, th, hz, q⟩ := h
    refine ⟨_, pss_one (ps_ret (pe_and (pe_callB call_isinst rfl T.isinstance boot_isinstance (pa_cons (pv 0) (pa_cons (pe_bltn rfl T.tuple boot_tuple (v := .ty "tuple") rfl) pa_nil)))
      (pe_one (pe_chain op_le op_le (pv 1) (pe_callB call_len_seq rfl T.len PySem.boot_len (pa_cons (pv 0) pa_nil)) (pv 2))))), ?_⟩
    refine ⟨_, rfl, v, _, "tuple", isTupD d, rfl, th.ty, kit_tup d, _, rfl, ?_⟩
    have fin := q H (Same.refl H)
    unfold tupOfD at fin
    cases e : isTupD d with
    | false =>
      rw [e] at fin
      exact iteF fin
    | true =>
      rw [e] at fin
      refine iteT ?_
      cases th with
      | @tup a xs ds ea r =>
        have hl := r.length
        refine ⟨_, rfl, _, rfl, a, xs, rfl, .inr (SqT.of ea), _, _, rfl, rfl, _, rfl, ?_⟩
        rw [hl]
        have fin : Q (.bl (true && (decide (n ≤ (ds.length : Int)) && decide ((ds.length : Int) ≤ m)))) H := fin
        cases e1 : decide (n ≤ (ds.length : Int)) with
        | false =>
          rw [e1] at fin
          exact iteF fin
        | true =>
          rw [e1] at fin
          exact iteT ⟨_, rfl, _, _, rfl, rfl, fin⟩
      | _ => cases e
/-! ### is_whole_from -/
theorem sc6 : FnScope ["thing", "least", "most"] ["thing", "least", "most"] (defScope (top 6)) := ⟨rfl, rfl, rfl, by decide +kernel, rfl, by decide +kernel, by decide +kernel⟩
theorem ok_whole_from {f : Addr} {fd : FuncData} (F : Fun K "is_whole_from" "is_whole_from" (top 6) f fd) (c1 : Cal P w K mg base 1 "is_whole" ["thing"] (spT wholeD)) : FnOk P w K mg base CX0 2 f fd ["thing", "least", "most"] (spT2 betD) := by
  refine F.ok sc6 (fun vs H Q E h => ?_) (fun cdv A outer s H vs Q E hr h => ?_)
  · obtain ⟨S, v, d, n, m, rfl, _⟩ := h
    rfl
  · obtain ⟨S, v, d, n, m, rfl, th, hz, q⟩ := h
    refine ⟨_, pss_one (ps_ret (pe_and (pe_cal c1 hr (Nat.le_refl _) rfl (pa_cons (pv 0) pa_nil)) (pe_one (pe_chain op_le op_le (pv 1) (pv 0) (pv 2))))), ?_⟩
    refine ⟨_, rfl, S, v, d, rfl, th, hz, fun H1 s1 => ⟨_, rfl, ?_⟩⟩
    have fin := q H1 s1
    unfold betD at fin
    cases e : wholeD d with
    | false =>
      rw [e] at fin
      exact iteF fin
    | true =>
      rw [e] at fin
      obtain ⟨i, rfl, rfl⟩ := whole_int th e
      exact iteT (ev_chain (ev_v rfl) (ev_v rfl) (ev_v rfl) _ fin)
/-! ### are_weights -/
theorem sc19 : FnScope ["thing"] ["thing"] (defScope (top 12)) := ⟨rfl, rfl, rfl, by decide +kernel, rfl, by decide +kernel, by decide +kernel⟩
theorem ok_are_weights {f : Addr} {fd : FuncData} (F : Fun K "are_weights" "are_weights" (top 12) f fd) (T : Mg mg) (N : Nums mg) (c1 : Cal P w K mg base 2 "is_whole_from" ["thing", "least", "most"] (spT2 betD)) (c2 : Cal P w K mg base 1 "is_tuple_of" ["thing", "fewest", "most"] (spT2 tupOfD)) :
    FnOk P w K mg base CX0 4 f fd ["thing"] (spT weightsD) := by
  refine F.ok sc19 (fun vs H Q E h => ?_) (fun cdv A outer s H vs Q E hr h => ?_)
  · obtain ⟨S, v, d, rfl, _⟩ := h
    rfl
  · obtain ⟨S, v, d, rfl, th, hz, q⟩ := h
    obtain ⟨t3, e3⟩ := N.many
    obtain ⟨t4, e4⟩ := N.most
    refine ⟨_, pss_one (ps_ret (pe_and (pe_cal c2 hr (by decide) rfl (pa_cons (pv 0) (pa_cons pe_int (pa_cons (pe_glob (v := .int 80) rfl e3 ⟨_, rfl⟩) pa_nil))))
      (pe_one (pe_callB (call_all rfl) rfl T.all boot_all (pa_cons (pe_comp ["part"] [none] rfl (pi_tup (pv 0))
        (fun C fp pins s₂ H₂ => ⟨pg_name (i := 0) (nd1 _) rfl (Or.inl rfl), pts_nil, pe_cal c1 hr (by decide) rfl (pa_cons (pv 0) (pa_cons pe_int (pa_cons (pe_glob (v := .int 99) rfl e4 ⟨_, rfl⟩) pa_nil)))⟩) (fun C => trivial) ⟨rfl, rfl, rfl, rfl⟩) pa_nil))))), ?_⟩
    refine ⟨_, rfl, S, v, d, 1, 80, rfl, th, hz, fun H1 s1 => ⟨_, rfl, ?_⟩⟩
    have th1 := th.same s1
    have fin := fun H' (s : Same H H') => q H' s
    unfold weightsD at fin
    cases e : tupOfD d 1 80 with
    | false =>
      rw [e] at fin
      exact iteF (fin _ s1)
    | true =>
      rw [e] at fin
      refine iteT ?_
      cases th1 with
      | @tup a xs ds ea r => exact all_things (fun x => betD x 1 99) rfl ea r (len_line r hz) (fun v d H2 Q2 hm s2 t2 q2 => ⟨_, rfl, S, v, d, 1, 99, rfl, t2, in_sz hm hz, q2⟩) fun H2 s2 => fin _ (s1.trans s2)
      | _ => cases e
end
theorem get_listP {X : Cx} : PGet X (fun x y H Q => ∃ p xs i v, x = .ref p ∧ y = .int i ∧ SqL X.K H p xs ∧ 0 ≤ i ∧ xs[i.toNat]? = some v ∧ Q v H) := by
  intro pins s σ H x y v u Q I rx ry h
  obtain ⟨p, xs, i, z, rfl, rfl, hq, h0, he, q⟩ := h
  cases rx
  obtain ⟨t, rfl⟩ := ry
  obtain ⟨its, r, pl, hz⟩ := I.list hq
  obtain ⟨w, ew, rw'⟩ := r.get he
  have hn := line63
  have hl := r.length
  have hi := (List.getElem?_eq_some_iff.mp he).1
  exact PySem.wpAny_getItem_list pl.isList h0 (by omega) (by simpa using ew) ⟨z, H, I, rw', q⟩
section
variable {X : Cx} {K : PySem.W.Frag} {tg l : Expr} {tl : TE}
theorem zip_tt {es : List Expr} {k : Nat} {tp : Pos} {a b : Expr} {ta : TA} {p pos : Pos} (hK : X.K = K) (hg : Gl X "zip") (hm : X.mg "zip" = none) (ha : PA X [a, b] ta) (hs : starEach [a, b] X.env = [(false, eval a X.env), (false, eval b X.env)] := by rfl) (hs2 : starEach [b] X.env = [(false, eval b X.env)] := by rfl) :
    PI X (.Tuple es k tp) (.Call (.Name "zip" p) [a, b] [] pos) (ZT.iZip K ta) := by
  subst hK
  exact ZT.pi_zip hg hm ha hs hs2
end
/-- the state of the draws, at st -/
def StAt (H : Hp) (st : Addr) : Prop := ∃ a b c : Int, H st = some (.lst [.int a, .int b, .int c]) ∧ 0 ≤ a ∧ 0 ≤ b ∧ b < 4294967296
/-- nothing that there was is turned, but the draws at st -/
structure Dr (st : Addr) (H H' : Hp) : Prop where
  bt : ∀ b o, H b = some o → b ≠ st → H' b = some o
  sa : StAt H' st
theorem Dr.same {st : Addr} {H H1 H2 : Hp} (g : Dr st H H1) (s : Same H1 H2) : Dr st H H2 := by
  obtain ⟨a, b, c, e, h⟩ := g.sa
  exact ⟨fun b' o' e' ne => s _ _ (g.bt b' o' e' ne), a, b, c, s _ _ e, h⟩
theorem Dr.trans {st : Addr} {H H1 H2 : Hp} (g : Dr st H H1) (g' : Dr st H1 H2) : Dr st H H2 := ⟨fun b' o' e' ne => g'.bt _ _ (g.bt b' o' e' ne) ne, g'.sa⟩
theorem Dr.refl {st : Addr} {H : Hp} (h : StAt H st) : Dr st H H := ⟨fun _ _ e _ => e, h⟩
theorem Dr.draw {st : Addr} {H H1 : Hp} (g : Dr st H H1) {a b c : Int} (h1 : 0 ≤ a) (h2 : 0 ≤ b) (h3 : b < 4294967296) : Dr st H (upd H1 st (.lst [.int a, .int b, .int c])) :=
  ⟨fun b' o' e' ne => by rw [upd_ne ne]; exact g.bt _ _ e' ne, a, b, c, upd_same, h1, h2, h3⟩
theorem Dr.ne {st p : Addr} {H H1 : Hp} (g : Dr st H H1) (hp : H1 p = none) : p ≠ st := fun z => by
  obtain ⟨a, b, c, e, _⟩ := g.sa
  rw [z, e] at hp
  cases hp
theorem Dr.tups {st : Addr} {H H1 : Hp} (g : Dr st H H1) (h0 : StAt H st) : ∀ b xs, H b = some (.tup xs) → H1 b = some (.tup xs) := fun b xs e => g.bt _ _ e fun z => by
  obtain ⟨_, _, _, e', _⟩ := h0
  rw [z, e'] at e
  cases e
def spCell (K : PySem.W.Frag) : Sp := fun vs H Q _ => ∃ (a : Addr) (ns : List Int) (k : Int), vs = [.ref a, .int k] ∧ SqL K H a (ns.map V.int) ∧ 0 ≤ k ∧ ∀ i, Q (.int i) H
def spState (K : PySem.W.Frag) : Sp := fun vs H Q _ => ∃ (a : Addr) (ns : List Int) (k : Int), vs = [.ref a, .int k] ∧ SqL K H a (ns.map V.int) ∧ 0 ≤ k ∧ ∀ (p : Addr) (x y z : Int), H p = none → 0 ≤ x → 0 ≤ y → y < 4294967296 → Q (.ref p) (upd H p (.lst [.int x, .int y, .int z]))
def spChoice : Sp := fun vs H Q _ => ∃ (st : Addr) (n : Int), vs = [.ref st, .int n] ∧ StAt H st ∧ 1 ≤ n ∧ n < 1073741824 ∧ ∀ r a b c : Int, 0 ≤ r → r < n → 0 ≤ a → 0 ≤ b → b < 4294967296 → Q (.int r) (upd H st (.lst [.int a, .int b, .int c]))
def spSame : Sp := fun vs H Q _ => ∃ S v u d e, vs = [v, u] ∧ ¬ S sysModules ∧ IsTh S H v d ∧ IsTh S H u e ∧ tame d = true ∧ tame e = true ∧ sz d ≤ 1000 ∧ sz e ≤ 1000 ∧ Q (.bl (decide (V.str d.shown = V.str e.shown))) H
theorem boot_max' : bootBuiltins "max" = some (.builtin "max") := by decide +kernel
theorem boot_min' : bootBuiltins "min" = some (.builtin "min") := by decide +kernel
theorem boot_repr' : bootBuiltins "repr" = some (.builtin "repr") := by decide +kernel
theorem room_sz {A : Around} {k : Nat} (hr : Room k A) (hk : 60 ≤ k) {d : PyData} (h : sz d ≤ 1000) : A.units + (sz d + 1) < cLine := by
  have := hr.un
  omega
section
variable {P : Program} {w : World} {K : PySem.W.Frag} {mg : Str → Option Value} {base : Heap}
theorem sc25 : FnScope ["_law_script", "_law_k"] ["_law_script", "_law_k"] (defScope (top 19)) := ⟨rfl, rfl, rfl, by decide +kernel, rfl, by decide +kernel, by decide +kernel⟩
theorem ok_cell {f : Addr} {fd : FuncData} (F : Fun K "_law_cell_at" "_law_cell_at" (top 19) f fd) (T : Mg mg) : FnOk P w K mg base CX0 1 f fd ["_law_script", "_law_k"] (spCell K) := by
  refine F.ok sc25 (fun vs H Q E h => ?_) (fun cdv A outer s H vs Q E hr h => ?_)
  · obtain ⟨a, ns, k, rfl, _⟩ := h
    rfl
  · obtain ⟨a, ns, k, rfl, hS, h0, q⟩ := h
    refine ⟨_, pss_cons (ps_if (pt_cmpR op_lt (pv 1) (pe_callB call_len_seq rfl T.len PySem.boot_len (pa_cons (pv 0) pa_nil)) (nomark _)) (pss_one (ps_ret (pe_ix ix_list (pv 0) (pv 1) (fun _ _ => rfl)))) pss_nil) (pss_one (ps_ret pe_int)), ?_⟩
    refine ⟨_, rfl, _, rfl, a, _, rfl, .inl hS, _, _, rfl, rfl, _, rfl, ?_⟩
    refine ite2 (fun c => ?_) (fun _ => q 0)
    have c := of_decide_eq_true c
    rw [List.length_map] at c
    have hk : k.toNat < ns.length := by omega
    refine ⟨_, rfl, _, rfl, a, _, k, .int ns[k.toNat], rfl, rfl, hS, ?_, q _⟩
    have e : (ns.map V.int)[k.toNat]? = some (.int ns[k.toNat]) := by rw [List.getElem?_map, List.getElem?_eq_getElem hk]; rfl
    have := atI_nat e
    rw [show ((k.toNat : Nat) : Int) = k by omega] at this
    exact this
theorem sc26 : FnScope ["_law_script", "_law_k", "_law_cell"] ["_law_script", "_law_k"] (defScope (top 20)) := ⟨rfl, rfl, rfl, by decide +kernel, rfl, by decide +kernel, by decide +kernel⟩
theorem ok_state {f : Addr} {fd : FuncData} (F : Fun K "_law_state" "_law_state" (top 20) f fd) (Tm : mg "max" = none) (c1 : Cal P w K mg base 1 "_law_cell_at" ["_law_script", "_law_k"] (spCell K)) : FnOk P w K mg base CX0 2 f fd ["_law_script", "_law_k"] (spState K) := by
  refine F.ok sc26 (fun vs H Q E h => ?_) (fun cdv A outer s H vs Q E hr h => ?_)
  · obtain ⟨a, ns, k, rfl, _⟩ := h
    rfl
  · obtain ⟨a, ns, k, rfl, hS, h0, q⟩ := h
    refine ⟨_, pss_cons (ps_set (i := 2) sc26.nd rfl (Or.inl rfl) (pe_cal c1 hr (Nat.le_refl _) rfl (pa_cons (pv 0) (pa_cons (pv 1) pa_nil))))
      (pss_one (ps_ret (pe_lst (pa_c (pe_callB (call_max2 rfl) rfl Tm boot_max' (pa_c pe_int (pa_c (pe_op op_sub (pv 2) (pe_op op_pow pe_int pe_int)) pa_nil))) (pa_c (pe_op op_add (pe_op op_mod (pv 2) pe_int) pe_int) (pa_c pe_int pa_nil)))))), ?_⟩
    refine ⟨_, rfl, _, rfl, a, ns, k, rfl, hS, h0, fun c => ?_⟩
    refine ⟨_, rfl, _, _, rfl, rfl, ⟨by decide, by decide, by decide⟩, _, _, rfl, rfl, _, _, rfl, _, rfl, _, _, rfl, rfl, (by show (0 : Int) < 2147483629; decide), _, _, rfl, rfl, (by show 3 ≤ sizeLine; decide), fun p hp => ?_⟩
    refine q p _ _ _ hp ?_ ?_ ?_
    · split <;> omega
    · show 0 ≤ c % 2147483629 + 1
      omega
    · show c % 2147483629 + 1 < 4294967296
      omega
theorem sc27 : FnScope ["_law_state_here", "_law_many", "_law_found", "_law_mixed"] ["_law_state_here", "_law_many"] (defScope (top 21)) := ⟨rfl, rfl, rfl, by decide +kernel, rfl, by decide +kernel, by decide +kernel⟩
theorem ok_choice {f : Addr} {fd : FuncData} (F : Fun K "_law_choice" "_law_choice" (top 21) f fd) : FnOk P w K mg base CX0 1 f fd ["_law_state_here", "_law_many"] spChoice := by
  refine F.ok sc27 (fun vs H Q E h => ?_) (fun cdv A outer s H vs Q E hr h => ?_)
  · obtain ⟨st, n, rfl, _⟩ := h
    rfl
  · obtain ⟨st, n, rfl, ⟨a, b, c, es, ha, hb, hb2⟩, h1, h2, q⟩ := h
    refine ⟨_, pss_cons (ps_if (pt_cmpR op_gt (pe_ix ix_list (pv 0) pe_int (fun _ _ => rfl)) pe_int (nomark _))
        (pss_cons (ps_set (i := 2) sc27.nd rfl (Or.inl rfl) (pe_op op_mod (pe_ix ix_list (pv 0) pe_int (fun _ _ => rfl)) (pv 1)))
          (pss_cons (ps_asg (pe_op op_fdiv (pe_ix ix_list (pv 0) pe_int (fun _ _ => rfl)) (pv 1)) (pg_sub (pv 0) pe_int set_list)) (pss_one (ps_ret (pv 2))))) pss_nil)
      (pss_cons (ps_asg (pe_op op_add (pe_ix ix_list (pv 0) pe_int (fun _ _ => rfl)) pe_int) (pg_sub (pv 0) pe_int set_list))
      (pss_cons (ps_asg (pe_op op_mod (pe_op op_add (pe_op op_add (pe_op op_mul (pe_ix ix_list (pv 0) pe_int (fun _ _ => rfl)) pe_int) pe_int) (pe_ix ix_list (pv 0) pe_int (fun _ _ => rfl))) pe_int) (pg_sub (pv 0) pe_int set_list))
      (pss_cons (ps_set (i := 3) sc27.nd rfl (Or.inl rfl) (pe_op op_mod (pe_op op_add (pe_op op_add (pe_op op_mul (pe_ix ix_list (pv 0) pe_int (fun _ _ => rfl)) (pe_ix ix_list (pv 0) pe_int (fun _ _ => rfl))) (pe_op op_mul pe_int (pe_ix ix_list (pv 0) pe_int (fun _ _ => rfl)))) pe_int) pe_int))
      (pss_cons (ps_set (i := 3) sc27.nd rfl (Or.inl rfl) (pe_op op_mod (pe_op op_add (pe_op op_mul (pv 3) (pv 3)) (pe_op op_mul pe_int (pv 3))) pe_int))
      (pss_one (ps_ret (pe_op op_mod (pe_op op_fdiv (pv 3) pe_int) (pv 1)))))))), ?_⟩
    refine ⟨_, rfl, st, _, 0, .int a, rfl, rfl, SqL.of es, rfl, _, _, rfl, rfl, _, rfl, ?_⟩
    refine ite2 (fun hc => ?_) (fun _ => ?_)
    · refine ⟨_, rfl, st, _, 0, .int a, rfl, rfl, SqL.of es, rfl, _, rfl, _, _, rfl, rfl, (by show 0 < n; omega), ?_⟩
      refine ⟨_, rfl, st, _, 0, .int a, rfl, rfl, SqL.of es, rfl, _, rfl, _, _, rfl, rfl, ⟨by omega, h2⟩, _, rfl, st, _, 0, 0, rfl, rfl, es, rfl, _, rfl, ?_⟩
      exact q (a % n) (a / n) b c (Int.emod_nonneg a (by omega)) (Int.emod_lt_of_pos a (by omega)) (Int.ediv_nonneg ha (by omega)) hb hb2
    · refine ⟨_, rfl, st, _, 2, .int c, rfl, rfl, SqL.of es, rfl, _, _, rfl, rfl, _, rfl, st, _, 2, 2, rfl, rfl, es, rfl, ?_⟩
      have eL : ([V.int a, V.int b, V.int c].set 2 ((fun i j : Int => V.int (i + j)) c 1)) = [V.int a, V.int b, V.int (c + 1)] := rfl
      rw [eL]
      have es1 : upd H st (.lst [.int a, .int b, .int (c + 1)]) st = some (.lst [.int a, .int b, .int (c + 1)]) := upd_same
      refine ⟨_, rfl, st, _, 1, .int b, rfl, rfl, SqL.of es1, rfl, _, _, rfl, rfl, .inl ⟨by omega, by omega⟩, _, _, rfl, rfl, _, rfl, st, _, 2, .int (c + 1), rfl, rfl, SqL.of es1, rfl, _, _, rfl, rfl, _, _, rfl, rfl, (by show (0 : Int) < 2147483647; decide), _, rfl, st, _, 1, 1, rfl, rfl, es1, rfl, ?_⟩
      have hm0 : 0 ≤ (b * 48271 + 29 + (c + 1)) % 2147483647 := Int.emod_nonneg _ (by decide)
      have hm1 : (b * 48271 + 29 + (c + 1)) % 2147483647 < 2147483647 := Int.emod_lt_of_pos _ (by decide)
      obtain ⟨m, hm⟩ : ∃ m, m = (b * 48271 + 29 + (c + 1)) % 2147483647 := ⟨_, rfl⟩
      rw [← hm] at hm0 hm1
      have eL : ([V.int a, V.int b, V.int (c + 1)].set 1 ((fun i j : Int => V.int (i % j)) (b * 48271 + 29 + (c + 1)) 2147483647)) = [V.int a, V.int m, V.int (c + 1)] := by rw [hm]; rfl
      rw [eL]
      have eu : upd (upd H st (.lst [.int a, .int b, .int (c + 1)])) st (.lst [.int a, .int m, .int (c + 1)]) = upd H st (.lst [.int a, .int m, .int (c + 1)]) := by
        funext z
        by_cases hz : z = st
        · rw [hz, upd_same, upd_same]
        · rw [upd_ne hz, upd_ne hz, upd_ne hz]
      rw [eu]
      have es' : upd H st (.lst [.int a, .int m, .int (c + 1)]) st = some (.lst [.int a, .int m, .int (c + 1)]) := upd_same
      refine ⟨_, rfl, st, _, 1, .int m, rfl, rfl, SqL.of es', rfl, _, rfl, st, _, 1, .int m, rfl, rfl, SqL.of es', rfl, _, _, rfl, rfl, .inl ⟨by omega, by omega⟩, _, rfl, st, _, 1, .int m, rfl, rfl, SqL.of es', rfl, _, _, rfl, rfl, .inl ⟨by decide, by decide⟩, _, _, rfl, rfl, _, _, rfl, rfl, _, _, rfl, rfl, (by show (0 : Int) < 2147483629; decide), ?_⟩
      have hx0 : 0 ≤ (m * m + 39373 * m + 7) % 2147483629 := Int.emod_nonneg _ (by decide)
      have hx1 : (m * m + 39373 * m + 7) % 2147483629 < 2147483629 := Int.emod_lt_of_pos _ (by decide)
      refine ⟨_, rfl, _, rfl, _, _, rfl, rfl, .inl ⟨Int.lt_of_lt_of_le (by decide) hx0, Int.lt_trans hx1 (by decide)⟩, _, rfl, _, _, rfl, rfl, .inl ⟨by decide, by decide⟩, _, _, rfl, rfl, _, _, rfl, rfl, (by show (0 : Int) < 2147483587; decide), ?_⟩
      refine ⟨_, rfl, _, _, rfl, rfl, ⟨by decide, by decide⟩, _, rfl, _, _, rfl, rfl, (by show 0 < n; omega), ?_⟩
      exact q _ a m (c + 1) (Int.emod_nonneg _ (by omega)) (Int.emod_lt_of_pos _ (by omega)) ha hm0 (by omega)
theorem sc28 : FnScope ["_law_found", "_law_due"] ["_law_found", "_law_due"] (defScope (top 22)) := ⟨rfl, rfl, rfl, by decide +kernel, rfl, by decide +kernel, by decide +kernel⟩
theorem ok_same {f : Addr} {fd : FuncData} (F : Fun K "_law_same" "_law_same" (top 22) f fd) (Tr : mg "repr" = none) : FnOk P w K mg base CX0 61 f fd ["_law_found", "_law_due"] spSame := by
  refine F.ok sc28 (fun vs H Q E h => ?_) (fun cdv A outer s H vs Q E hr h => ?_)
  · obtain ⟨S, v, u, d, e, rfl, _⟩ := h
    rfl
  · obtain ⟨S, v, u, d, e, rfl, hS, t1, t2, m1, m2, z1, z2, q⟩ := h
    refine ⟨_, pss_one (ps_ret (pe_cmpR op_eq (pe_callB (call_repr (S := S) hr.gd hS) rfl Tr boot_repr' (pa_cons (pv 0) pa_nil)) (pe_callB (call_repr (S := S) hr.gd hS) rfl Tr boot_repr' (pa_cons (pv 1) pa_nil)) (nomark _))), ?_⟩
    exact ⟨_, rfl, v, d, rfl, t1, m1, by omega, room_sz hr (Nat.le_refl _) z1, _, rfl, u, e, rfl, t2, m2, by omega, room_sz hr (Nat.le_refl _) z2, rfl, q⟩
end
theorem ok_b {X : Cx} {body : List Stmt} {t : TS} {R : TS → Prop} (h : BSs X body t) (q : R t) : ∃ t, PSs X body t ∧ R t := ⟨t, h.run, q⟩
end K11

set_option Elab.async false
set_option linter.all false
set_option maxRecDepth 100000
set_option maxHeartbeats 400000
namespace K11
/-! ### who comes first: the greater rest, of equal ones the lesser place -/
def rr (rs : List Int) (i : Nat) : Int := rs.getD i 0
def bef (rs : List Int) (i j : Nat) : Bool := decide (rr rs j < rr rs i) || (decide (rr rs i = rr rs j) && decide (i ≤ j))
theorem bef_iff {rs : List Int} {i j : Nat} : bef rs i j = true ↔ rr rs j < rr rs i ∨ (rr rs i = rr rs j ∧ i ≤ j) := by
  unfold bef
  rw [Bool.or_eq_true, Bool.and_eq_true, decide_eq_true_iff, decide_eq_true_iff, decide_eq_true_iff]
structure Ord (rs : List Int) (pl : List Nat) : Prop where
  pm : pl.Perm (List.range rs.length)
  so : pl.Pairwise fun i j => bef rs i j = true
theorem ord_ex (rs : List Int) : ∃ pl, Ord rs pl := by
  refine ⟨(List.range rs.length).mergeSort (bef rs), List.mergeSort_perm _ _, List.pairwise_mergeSort (fun a b c h1 h2 => ?_) (fun a b => ?_) _⟩
  · rw [bef_iff] at h1 h2 ⊢
    omega
  · rw [Bool.or_eq_true, bef_iff, bef_iff]
    omega
theorem ord_un {rs : List Int} {p q : List Nat} (h : Ord rs p) (h' : Ord rs q) : p = q := by
  refine List.Perm.eq_of_pairwise (fun a b _ _ h1 h2 => ?_) h.so h'.so (h.pm.trans h'.pm.symm)
  rw [bef_iff] at h1 h2
  omega
/-- one more at each of these places -/
def addAt (fs : List Int) (pl : List Nat) : List Int := pl.foldl (fun l i => l.set i (l.getD i 0 + 1)) fs
theorem addAt_snoc (fs : List Int) (pl : List Nat) (i : Nat) : addAt fs (pl ++ [i]) = (addAt fs pl).set i ((addAt fs pl).getD i 0 + 1) := by
  unfold addAt
  rw [List.foldl_append]
  rfl
theorem addAt_len : ∀ (pl : List Nat) (fs : List Int), (addAt fs pl).length = fs.length
  | [], _ => rfl
  | i :: pl, fs => by
    show (addAt (fs.set i _) pl).length = _
    rw [addAt_len pl, List.length_set]
end K11

set_option Elab.async false
set_option linter.all false
set_option maxRecDepth 100000
set_option maxHeartbeats 400000
namespace K11
open PySem L2
/-! ### what each weight gets -/
def fs (n : Int) (ws : List Int) : List Int := ws.map fun w => n * w / ws.sum
def rs (n : Int) (ws : List Int) : List Int := ws.map fun w => n * w % ws.sum
def lf (n : Int) (ws : List Int) : Int := n - (fs n ws).sum
def OkW (ws : List Int) : Prop := 1 ≤ ws.length ∧ ws.length ≤ 80 ∧ ∀ w ∈ ws, 1 ≤ w ∧ w ≤ 99
theorem sum_le {B : Int} : ∀ {l : List Int}, (∀ a ∈ l, a ≤ B) → l.sum ≤ B * l.length
  | [], _ => by simp
  | a :: l, h => by
    have h1 := sum_le (B := B) (l := l) fun b hb => h b (.tail _ hb)
    have h2 := h a (.head _)
    rw [List.sum_cons, List.length_cons, show B * ((l.length + 1 : Nat) : Int) = B * l.length + B by rw [Int.natCast_add, Int.mul_add]; simp]
    omega
theorem le_sum : ∀ {l : List Int}, (∀ a ∈ l, 0 ≤ a) → 0 ≤ l.sum
  | [], _ => by simp
  | a :: l, h => by
    have h1 := le_sum (l := l) fun b hb => h b (.tail _ hb)
    have h2 := h a (.head _)
    rw [List.sum_cons]
    omega
theorem OkW.pos {ws : List Int} (h : OkW ws) : 1 ≤ ws.sum := by
  obtain ⟨h1, _, h3⟩ := h
  match ws, h1, h3 with
  | w :: ws, _, h3 =>
    have := le_sum (l := ws) fun a ha => by have := h3 a (.tail _ ha); omega
    have := h3 w (.head _)
    rw [List.sum_cons]
    omega
theorem OkW.top {ws : List Int} (h : OkW ws) : ws.sum ≤ 7920 := by
  have h1 := sum_le (B := 99) fun a ha => (h.2.2 a ha).2
  have := h.2.1
  omega
theorem divs (n T : Int) : ∀ ws : List Int, T * (ws.map fun w => n * w / T).sum + (ws.map fun w => n * w % T).sum = n * ws.sum
  | [] => by simp
  | w :: ws => by
    have h1 := divs n T ws
    have h2 := Int.mul_ediv_add_emod (n * w) T
    simp only [List.map_cons, List.sum_cons, Int.mul_add]
    omega
theorem lf_T (n : Int) (ws : List Int) : ws.sum * lf n ws = (rs n ws).sum := by
  have h := divs n ws.sum ws
  unfold lf fs rs
  rw [Int.mul_sub, Int.mul_comm ws.sum n]
  omega
theorem rs_nn {n : Int} {ws : List Int} (h : OkW ws) : ∀ r ∈ rs n ws, 0 ≤ r := fun r hr => by
  obtain ⟨w, _, rfl⟩ := List.mem_map.mp hr
  have := h.pos
  exact Int.emod_nonneg _ (by omega)
theorem rs_lt {n : Int} {ws : List Int} (h : OkW ws) : ∀ r ∈ rs n ws, r ≤ ws.sum := fun r hr => by
  obtain ⟨w, _, rfl⟩ := List.mem_map.mp hr
  have := h.pos
  exact Int.le_of_lt (Int.emod_lt_of_pos _ (by omega))
theorem fs_len (n : Int) (ws : List Int) : (fs n ws).length = ws.length := List.length_map _
theorem rs_len (n : Int) (ws : List Int) : (rs n ws).length = ws.length := List.length_map _
theorem lf_nn {n : Int} {ws : List Int} (h : OkW ws) : 0 ≤ lf n ws := by
  have h1 := lf_T n ws
  have h2 := le_sum (rs_nn (n := n) h)
  have h3 := h.pos
  refine Int.le_of_not_gt fun c => ?_
  have := Int.mul_le_mul_of_nonneg_left (c := ws.sum) (show lf n ws ≤ -1 by omega) (by omega)
  omega
theorem lf_le {n : Int} {ws : List Int} (h : OkW ws) : lf n ws ≤ ws.length := by
  have h1 := lf_T n ws
  have h2 := sum_le (rs_lt (n := n) h)
  rw [rs_len] at h2
  have h3 := h.pos
  refine Int.le_of_not_gt fun c => ?_
  have := Int.mul_le_mul_of_nonneg_left (c := ws.sum) (show (ws.length : Int) + 1 ≤ lf n ws by omega) (by omega)
  rw [Int.mul_add] at this
  omega
theorem lf_all {ws : List Int} (h : OkW ws) : lf ws.sum ws = 0 := by
  have h1 := lf_T ws.sum ws
  have h2 : (rs ws.sum ws).sum ≤ 0 := by
    have := sum_le (B := 0) (l := rs ws.sum ws) fun r hr => by
      obtain ⟨w, _, rfl⟩ := List.mem_map.mp hr
      rw [Int.mul_emod_right]
      exact Int.le_refl _
    omega
  have h3 := h.pos
  have h4 := lf_nn (n := ws.sum) h
  refine Int.le_antisymm (Int.le_of_not_gt fun c => ?_) h4
  have := Int.mul_le_mul_of_nonneg_left (c := ws.sum) (show 1 ≤ lf ws.sum ws by omega) (by omega)
  omega
theorem addAt_get : ∀ (pl : List Nat) (l : List Int) (i : Nat), i < l.length → (addAt l pl).getD i 0 = l.getD i 0 + pl.count i
  | [], l, i, _ => by simp [addAt]
  | j :: pl, l, i, h => by
    show (addAt (l.set j (l.getD j 0 + 1)) pl).getD i 0 = _
    rw [addAt_get pl _ i (by rw [List.length_set]; exact h), List.count_cons]
    by_cases e : j = i
    · subst e
      rw [List.getD_eq_getElem?_getD, List.getElem?_set_self h, Option.getD_some, beq_self_eq_true, if_pos rfl]
      omega
    · rw [List.getD_eq_getElem?_getD, List.getElem?_set_ne e, ← List.getD_eq_getElem?_getD, if_neg (by simp [e])]
      omega
theorem Ord.nd {r : List Int} {pl : List Nat} (h : Ord r pl) : pl.Nodup := h.pm.nodup_iff.mpr List.nodup_range
theorem Ord.len {r : List Int} {pl : List Nat} (h : Ord r pl) : pl.length = r.length := by rw [h.pm.length_eq, List.length_range]
theorem Ord.lt {r : List Int} {pl : List Nat} (h : Ord r pl) : ∀ i ∈ pl, i < r.length := fun i hi => List.mem_range.mp (h.pm.mem_iff.mp hi)
noncomputable def res (n : Int) (ws : List Int) : List Int := addAt (fs n ws) ((ord_ex (rs n ws)).choose.take (lf n ws).toNat)
theorem res_of {n : Int} {ws : List Int} {pl : List Nat} (h : Ord (rs n ws) pl) : addAt (fs n ws) (pl.take (lf n ws).toNat) = res n ws := by
  unfold res
  rw [ord_un h (ord_ex (rs n ws)).choose_spec]
theorem res_len (n : Int) (ws : List Int) : (res n ws).length = ws.length := by
  unfold res
  rw [addAt_len, fs_len]
theorem res_get {n : Int} {ws : List Int} (h : OkW ws) (n0 : 0 ≤ n) (n1 : n ≤ ws.sum) {i : Nat} {r w : Int} (hr : (res n ws)[i]? = some r) (hw : ws[i]? = some w) : 0 ≤ r ∧ r ≤ w := by
  have hi : i < ws.length := (List.getElem?_eq_some_iff.mp hw).1
  have hp := h.pos
  have ww := h.2.2 w (List.mem_of_getElem? hw)
  have e : r = n * w / ws.sum + ((ord_ex (rs n ws)).choose.take (lf n ws).toNat).count i := by
    have := addAt_get ((ord_ex (rs n ws)).choose.take (lf n ws).toNat) (fs n ws) i (by rw [fs_len]; exact hi)
    have e2 : (fs n ws).getD i 0 = n * w / ws.sum := by
      unfold fs
      rw [List.getD_eq_getElem?_getD, List.getElem?_map, hw]
      rfl
    rw [e2] at this
    rw [← this, show addAt (fs n ws) _ = res n ws from rfl, List.getD_eq_getElem?_getD, hr]
    rfl
  have c1 : ((ord_ex (rs n ws)).choose.take (lf n ws).toNat).count i ≤ 1 := List.nodup_iff_count.mp ((ord_ex (rs n ws)).choose_spec.nd.sublist (List.take_sublist _ _)) i
  have q0 : 0 ≤ n * w / ws.sum := Int.ediv_nonneg (Int.mul_nonneg n0 (by omega)) (by omega)
  refine ⟨by omega, ?_⟩
  by_cases en : n = ws.sum
  · have : ((ord_ex (rs n ws)).choose.take (lf n ws).toNat) = [] := by
      rw [en, lf_all h]
      rfl
    rw [this] at e
    rw [en, Int.mul_ediv_cancel_left _ (by omega)] at e
    simp at e
    omega
  · have : n * w / ws.sum < w := by
      refine Int.ediv_lt_of_lt_mul (by omega) ?_
      rw [Int.mul_comm w]
      exact Int.mul_lt_mul_of_pos_right (by omega) (by omega)
    omega
end K11

set_option Elab.async false
set_option linter.all false
set_option maxRecDepth 100000
set_option maxHeartbeats 400000
namespace K11
open PySem L2
/-- ints made of a tuple of ints -/
theorem comp_ints {K : PySem.W.Frag} {te : TE} {p : Addr} {ws : List Int} {σ0 : St} {H0 : Hp} {Fin : List V → Hp → Prop} (f : Int → Int) (ep : H0 p = some (.tup (ws.map V.int))) (hl : ws.length < sizeLine)
    (hte : ∀ (z : Int) (Q : VK), z ∈ ws → Q (.int (f z)) H0 → te (σ0.set 0 (some (.int z))) H0 Q) (fin : Fin ((ws.map f).map V.int) H0) : CompW (Itt K p) (gName 0) tYes te Fin σ0 H0 := by
  refine comp_gen ws.length (fun i ys σ H => H = H0 ∧ (∀ o, σ.set 0 o = σ0.set 0 o) ∧ ys = ((ws.take i).map f).map V.int) ⟨rfl, fun _ => rfl, rfl⟩ hl ?_ ?_
  · rintro i ys σ H hi hy ⟨rfl, hσ, rfl⟩
    have hz : (ws.map V.int)[i]? = some (.int ws[i]) := by rw [List.getElem?_map, List.getElem?_eq_getElem hi]; rfl
    refine ⟨⟨_, _, SqT.of ep, hz⟩, fun v H' y' R hR => ?_⟩
    obtain ⟨rfl, y'⟩ := y'
    have hv := y' _ (SqT.of ep)
    rw [hz] at hv
    cases hv
    show te (σ.set 0 (some (.int ws[i]))) _ _
    rw [hσ]
    refine hte ws[i] _ (List.getElem_mem hi) (hR _ _ _ ⟨rfl, fun o => by rw [List.set_set], ?_⟩)
    rw [List.take_add_one, List.getElem?_eq_getElem hi, List.map_append, List.map_append]
    rfl
  · rintro ys σ H hy ⟨rfl, hσ, rfl⟩
    refine ⟨⟨_, SqT.of ep, by rw [List.length_map]; exact Nat.le_refl _⟩, ?_⟩
    rw [List.take_length]
    exact fin
/-! ### refuse_unpartable -/
def wD (ws : List Int) : PyData := .tuple (ws.map PyData.int)
theorem szs_ints : ∀ (r : List Int), szs (r.map PyData.int) = r.length
  | [] => rfl
  | _ :: r => by
    show 1 + szs (r.map PyData.int) = r.length + 1
    rw [szs_ints r, Nat.add_comm]
theorem sz_w (ws : List Int) : sz (wD ws) = 1 + ws.length := by
  show 1 + szs (ws.map PyData.int) = _
  rw [szs_ints]
theorem w_ok {ws : List Int} (h : OkW ws) : weightsD (wD ws) = true := by
  unfold weightsD
  rw [Bool.and_eq_true]
  refine ⟨?_, List.all_eq_true.mpr fun d hd => ?_⟩
  · show (true && (decide (1 ≤ ((ws.map PyData.int).length : Int)) && decide (((ws.map PyData.int).length : Int) ≤ 80))) = true
    have h1 := h.1
    have h2 := h.2.1
    rw [List.length_map, decide_eq_true (by omega), decide_eq_true (by omega)]
    rfl
  · obtain ⟨w, hw, rfl⟩ := List.mem_map.mp hd
    have := h.2.2 w hw
    show (true && (decide (1 ≤ w) && decide (w ≤ 99))) = true
    rw [decide_eq_true this.1, decide_eq_true this.2]
    rfl
def spRefuse : Sp := fun vs H Q _ => ∃ n p ws, vs = [.int n, .ref p] ∧ H p = some (.tup (ws.map V.int)) ∧ OkW ws ∧ 0 ≤ n ∧ n ≤ ws.sum ∧ ∀ H', Same H H' → Q .non H'
def spPlaces : Sp := fun vs H Q _ => ∃ p rests, vs = [.ref p] ∧ H p = some (.lst ((rests : List Int).map V.int)) ∧ rests.length < sizeLine ∧ ∀ H' q pl, Ord rests pl → Same H H' → H q = none → H' q = some (.lst (pl.map fun j : Nat => V.int (j : Int))) → Q (.ref q) H'
def spParts : Sp := fun vs H Q _ => ∃ n p ws, vs = [.int n, .ref p] ∧ H p = some (.tup (ws.map V.int)) ∧ OkW ws ∧ 0 ≤ n ∧ n ≤ ws.sum ∧ ∀ H' q, Same H H' → H' q = some (.tup ((res n ws).map V.int)) → Q (.ref q) H'
def sndAt (H : Hp) (a : Addr) : Nat := match H a with
  | some (.tup [_, .int y]) => y.toNat
  | _ => 0
def rowAt (H : Hp) (a : Addr) : List Int := match H a with
  | some (.tup [.int x, .int y]) => [x, y]
  | _ => []
theorem rr_of {rests : List Int} {i : Nat} {x : Int} (h : rests[i]? = some x) : rr rests i = x := by
  unfold rr
  rw [List.getD_eq_getElem?_getD, h]
  rfl
theorem lex_bef {rests : List Int} {i j : Nat} (h : HT.lexLt [-(rr rests j), (j : Int)] [-(rr rests i), (i : Int)] = false) : bef rests i j = true := by
  rw [bef_iff]
  rw [HT.lexLt_cons] at h
  by_cases e : -(rr rests j) = -(rr rests i)
  · rw [if_pos e, HT.lexLt_cons] at h
    by_cases e2 : (j : Int) = (i : Int)
    · exact .inr ⟨by omega, by omega⟩
    · rw [if_neg e2] at h
      have := of_decide_eq_false h
      exact .inr ⟨by omega, by omega⟩
  · rw [if_neg e] at h
    have := of_decide_eq_false h
    exact .inl (by omega)
section
variable {P : Program} {w : World} {K : PySem.W.Frag} {mg : Str → Option Value} {base : Heap}
theorem sc12 : FnScope ["sacks", "weights"] ["sacks", "weights"] (defScope (top 13)) := ⟨rfl, rfl, rfl, by decide +kernel, rfl, by decide +kernel, by decide +kernel⟩
theorem ok_refuse {f : Addr} {fd : FuncData} (F : Fun K "refuse_unpartable" "refuse_unpartable" (top 13) f fd) (Ts : mg "sum" = none) (c1 : Cal P w K mg base 4 "are_weights" ["thing"] (spT weightsD)) (c2 : Cal P w K mg base 2 "is_whole_from" ["thing", "least", "most"] (spT2 betD)) :
    FnOk P w K mg base CX0 5 f fd ["sacks", "weights"] spRefuse := by
  refine F.ok sc12 (fun vs H Q E h => ?_) (fun cdv A outer s H vs Q E hr h => ?_)
  · obtain ⟨n, p, ws, rfl, _⟩ := h
    rfl
  · obtain ⟨n, p, ws, rfl, ep, ok, n0, n1, q⟩ := h
    refine ⟨_, pss_cons (ps_if (pt_not (pt_val (pe_cal c1 hr (by decide) rfl (pa_cons (pv 1) pa_nil)))) (pss_one ps_never) pss_nil)
      (pss_one (ps_if (pt_not (pt_val (pe_cal c2 hr (by decide) rfl (pa_cons (pv 0) (pa_cons pe_int (pa_cons (pe_callB (call_sumL rfl) rfl Ts boot_sum (pa_c (pv 1) pa_nil)) pa_nil)))))) (pss_one ps_never) pss_nil)), ?_⟩
    refine rd_seq ?_
    refine ⟨_, rfl, fun _ => False, _, wD ws, rfl, .tup ep (IsThs.ints ws), by rw [sz_w]; have := ok.2.1; omega, fun H1 s1 => ⟨_, rfl, ?_⟩⟩
    rw [w_ok ok]
    refine iteF ?_
    dsimp only
    refine ⟨_, rfl, _, rfl, p, ws, rfl, .inr (SqT.of (s1 _ _ ep)), fun _ => False, _, .int n, 0, _, rfl, .int n, (by show 1 ≤ 4000; decide), fun H2 s2 => ⟨_, rfl, ?_⟩⟩
    have e : betD (.int n) 0 ws.sum = true := by
      show (true && (decide (0 ≤ n) && decide (n ≤ ws.sum))) = true
      rw [decide_eq_true n0, decide_eq_true n1]
      rfl
    rw [e]
    exact iteF (q H2 (s1.trans s2))
theorem sc13 : FnScope ["rests", "ranked"] ["rests"] (defScope (top 14)) := ⟨rfl, rfl, rfl, by decide +kernel, rfl, by decide +kernel, by decide +kernel⟩
theorem ok_places {f : Addr} {fd : FuncData} (F : Fun K "places_by_rest" "places_by_rest" (top 14) f fd) (Te : mg "enumerate" = none) (Ts : mg "sorted" = none) : FnOk P w K mg base CX0 1 f fd ["rests"] spPlaces := by
  refine F.ok sc13 (fun vs H Q E h => ?_) (fun cdv A outer s H vs Q E hr h => ?_)
  · obtain ⟨p, rests, rfl, _⟩ := h
    rfl
  · obtain ⟨p, rests, rfl, ep, hz, q⟩ := h
    refine ⟨_, pss_cons (ps_set (i := 1) sc13.nd rfl (Or.inl rfl) (pe_callB call_sortedT rfl Ts boot_sorted (pa_c (pe_comp (g := gTup K 2 (gCons (gName 0) (gCons (gName 1) gNil))) ["at", "rest"] [none, none] rfl (EL.pi_enum rfl Te (pa_c (pv 0) pa_nil))
        (fun C fp pins s₂ H₂ => ⟨pg_tupK rfl rfl (pgs_cons (pg_name (i := 0) (nd2 _ _ (by decide)) rfl (Or.inl rfl) (Or.inr rfl)) (pgs_cons (pg_name (i := 1) (nd2 _ _ (by decide)) rfl (Or.inl rfl) (Or.inr rfl)) pgs_nil)), pts_nil,
          pe_tup (pa_c (pe_un un_neg (pv 1)) (pa_c (pv 0) pa_nil))⟩) (fun C => trivial) ⟨rfl, rfl, rfl, rfl⟩) pa_nil)))
      (pss_one (ps_ret (pe_comp (g := gTup K 2 (gCons (gName 0) (gCons (gName 1) gNil))) ["minus", "at"] [none, none] rfl (pi_list (pv 1))
        (fun C fp pins s₂ H₂ => ⟨pg_tupK rfl rfl (pgs_cons (pg_name (i := 0) (nd2 _ _ (by decide)) rfl (Or.inl rfl) (Or.inr rfl)) (pgs_cons (pg_name (i := 1) (nd2 _ _ (by decide)) rfl (Or.inl rfl) (Or.inr rfl)) pgs_nil)), pts_nil,
          pv 1⟩) (fun C => trivial) ⟨rfl, rfl, rfl, rfl⟩))), ?_⟩
    refine rd_seq ?_
    refine ⟨_, rfl, p, _, rfl, SqL.of ep, comp_gen rests.length (fun i ys σ Hc => Same H Hc ∧ (∃ o1 o2, σ = [o1, o2]) ∧ ∃ ts : List Addr, ys = ts.map V.ref ∧ ∀ j, j < i → ∃ a, ts[j]? = some a ∧ Hc a = some (.tup [.int (-(rr rests j)), .int (j : Int)])) ⟨Same.refl H, ⟨_, _, rfl⟩, [], rfl, fun j hj => absurd hj (Nat.not_lt_zero _)⟩ hz ?_ ?_⟩
    · rintro i ys σ Hc hi hy ⟨s1, ⟨o1, o2, rfl⟩, ts, rfl, hts⟩
      rw [List.length_map] at hy
      have sq1 : SqL K Hc p (rests.map V.int) := SqL.of (s1 _ _ ep)
      have hx : (rests.map V.int)[i]? = some (.int (rr rests i)) := by
        rw [List.getElem?_map, List.getElem?_eq_getElem hi, rr_of (List.getElem?_eq_getElem hi)]
        rfl
      refine ⟨⟨_, _, sq1, hx⟩, fun v H' y R hR => ?_⟩
      obtain ⟨T, nT, rfl, y⟩ := y
      obtain ⟨x', hx', rfl⟩ := y _ sq1
      rw [hx] at hx'
      cases hx'
      have s2 := s1.updR (o := .tup [.int (i : Int), .int (rr rests i)]) nT
      refine ⟨T, _, rfl, SqT.of upd_same, rfl, _, _, rfl, _, _, rfl, rfl, _, rfl, rr rests i, rfl, _, rfl, (by show 2 ≤ sizeLine; decide), fun t ht => ?_⟩
      refine hR _ _ _ ⟨s2.updR ht, ⟨_, _, rfl⟩, ts ++ [t], by rw [List.map_append]; rfl, fun j hj => ?_⟩
      by_cases e : j < i
      · obtain ⟨a, h1, h2⟩ := hts j e
        refine ⟨a, by rw [List.getElem?_append_left (by omega)]; exact h1, ?_⟩
        exact Same.upd ht _ _ (Same.upd nT _ _ h2)
      · have e : j = i := by omega
        subst e
        refine ⟨t, by rw [List.getElem?_append_right (by omega), hy, Nat.sub_self]; rfl, upd_same⟩
    · rintro ys σ Hc hy ⟨s1, _, ts, rfl, hts⟩
      rw [List.length_map] at hy
      refine ⟨⟨_, SqL.of (s1 _ _ ep), by rw [List.length_map]; exact Nat.le_refl _⟩, fun D hD => ?_⟩
      have s2 := s1.updR (o := .lst (ts.map V.ref)) hD
      have hts2 : ∀ j, j < rests.length → ∃ a, ts[j]? = some a ∧ upd Hc D (.lst (ts.map V.ref)) a = some (.tup [.int (-(rr rests j)), .int (j : Int)]) := fun j hj => by
        obtain ⟨a, h1, h2⟩ := hts j hj
        exact ⟨a, h1, Same.upd hD _ _ h2⟩
      have eD := upd_same (H := Hc) (a := D) (o := .lst (ts.map V.ref))
      generalize upd Hc D (.lst (ts.map V.ref)) = H2 at s2 hts2 eD ⊢
      clear hts hD s1
      have hta : ∀ a ∈ ts, ∃ j, j < rests.length ∧ H2 a = some (.tup [.int (-(rr rests j)), .int (j : Int)]) := fun a ha => by
        obtain ⟨j, hj, e⟩ := List.getElem_of_mem ha
        obtain ⟨b, h1, h2⟩ := hts2 j (by omega)
        rw [List.getElem?_eq_getElem hj] at h1
        injection h1 with h1
        refine ⟨j, by omega, ?_⟩
        rw [← e, h1]
        exact h2
      refine ⟨D, ts, rowAt H2, rfl, SqL.of eD, fun a ha => ?_, fun q' l' hq pm so => ?_⟩
      · obtain ⟨j, hj, e⟩ := hta a ha
        have er : rowAt H2 a = [-(rr rests j), (j : Int)] := by unfold rowAt; rw [e]
        rw [er]
        exact ⟨SqT.of e, by simp⟩
      have hla : ∀ a ∈ l', ∃ j, j < rests.length ∧ H2 a = some (.tup [.int (-(rr rests j)), .int (j : Int)]) := fun a ha => hta a (pm.mem_iff.mp ha)
      have sn : ∀ a ∈ l', H2 a = some (.tup [.int (-(rr rests (sndAt H2 a))), .int (sndAt H2 a : Int)]) ∧ rowAt H2 a = [-(rr rests (sndAt H2 a)), (sndAt H2 a : Int)] := fun a ha => by
        obtain ⟨j, hj, e⟩ := hla a ha
        have er : rowAt H2 a = [-(rr rests j), (j : Int)] := by unfold rowAt; rw [e]
        have es : sndAt H2 a = j := by unfold sndAt; rw [e]; exact Int.toNat_natCast j
        rw [er, es]
        exact ⟨e, rfl⟩
      have ord : Ord rests (l'.map (sndAt H2)) := by
        refine ⟨?_, ?_⟩
        · refine (pm.map _).trans (List.Perm.of_eq (List.ext_getElem? fun j => ?_))
          by_cases hj : j < rests.length
          · obtain ⟨a, h1, h2⟩ := hts2 j hj
            rw [List.getElem?_map, h1, List.getElem?_range hj]
            show some (sndAt H2 a) = some j
            unfold sndAt
            rw [h2]
            exact congrArg some (Int.toNat_natCast j)
          · rw [List.getElem?_eq_none (by rw [List.length_map]; omega), List.getElem?_eq_none (by rw [List.length_range]; omega)]
        · refine List.pairwise_map.mpr (so.imp_of_mem fun {a b} ha hb h => ?_)
          rw [(sn a ha).2, (sn b hb).2] at h
          exact lex_bef h
      have s3 := s2.updR (o := .lst (l'.map V.ref)) hq
      have ell : l'.length = rests.length := by rw [pm.length_eq, hy]
      have eq' := upd_same (H := H2) (a := q') (o := .lst (l'.map V.ref))
      have sn3 : ∀ a ∈ l', upd H2 q' (.lst (l'.map V.ref)) a = some (.tup [.int (-(rr rests (sndAt H2 a))), .int (sndAt H2 a : Int)]) := fun a ha => Same.upd hq _ _ (sn a ha).1
      generalize sndAt H2 = sd at ord sn3
      generalize upd H2 q' (.lst (l'.map V.ref)) = H3 at s3 eq' sn3 ⊢
      dsimp only
      refine rd_ret ?_
      refine ⟨_, rfl, q', rfl, ⟨_, SqL.of eq'⟩, comp_gen rests.length (fun i ys σ Hc => Same H3 Hc ∧ (∃ o1 o2, σ = [o1, o2]) ∧ ys = ((l'.take i).map sd).map fun j : Nat => V.int (j : Int)) ⟨Same.refl H3, ⟨_, _, rfl⟩, rfl⟩ hz ?_ ?_⟩
      · rintro i ys σ Hc hi hy ⟨s4, ⟨o1, o2, rfl⟩, rfl⟩
        have hi' : i < l'.length := by omega
        have hu : (l'.map V.ref)[i]? = some (.ref l'[i]) := by rw [List.getElem?_map, List.getElem?_eq_getElem hi']; rfl
        refine ⟨⟨_, _, SqL.of (s4 _ _ eq'), hu⟩, fun v H' y R hR => ?_⟩
        obtain ⟨rfl, y⟩ := y
        have hv := y _ (SqL.of (s4 _ _ eq'))
        rw [hu] at hv
        cases hv
        refine ⟨l'[i], _, rfl, SqT.of (s4 _ _ (sn3 _ (List.getElem_mem hi'))), rfl, _, _, rfl, _, _, rfl, rfl, _, rfl, hR _ _ _ ⟨s4, ⟨_, _, rfl⟩, ?_⟩⟩
        rw [List.take_add_one, List.getElem?_eq_getElem hi', List.map_append, List.map_append]
        rfl
      · rintro ys σ Hc hy' ⟨s4, _, rfl⟩
        refine ⟨⟨_, SqL.of (s4 _ _ eq'), by rw [List.length_map]; omega⟩, fun D' hD' => ?_⟩
        have s5 := s3.trans s4
        have hn : H D' = none := s5.free hD'
        refine q _ D' _ ord (s5.updR hD') hn ?_
        rw [upd_same, List.take_of_length_le (by omega)]
end
end K11

set_option Elab.async false
set_option linter.all false
set_option maxRecDepth 100000
set_option maxHeartbeats 400000
namespace K11
open PySem L2
theorem cut_take {xs : List V} {i : Nat} (h : i ≤ xs.length) : cutV xs none (some (i : Int)) = xs.take i := by
  unfold cutV
  rw [HT.sIx_none, HT.sIx_nat, List.drop_zero, Nat.min_eq_left h, Nat.sub_zero]
theorem ixN_nat {n j : Nat} (h : j < n) : ixN n (j : Int) = some j := by
  unfold ixN
  rw [if_pos (by omega), if_pos (by omega), Int.toNat_natCast]
theorem line_w {ws : List Int} (ok : OkW ws) : ws.length < sizeLine := by
  have := ok.2.1
  rw [sizeLine_eq]
  omega
section
variable {P : Program} {w : World} {K : PySem.W.Frag} {mg : Str → Option Value} {base : Heap}
theorem nd3w : (["weight", "sacks", "together"] : List Str).Nodup := by decide +kernel
theorem sc14 : FnScope ["sacks", "weights", "together", "parts", "rests", "left", "at"] ["sacks", "weights"] (defScope (top 15)) := ⟨rfl, rfl, rfl, by decide +kernel, rfl, by decide +kernel, by decide +kernel⟩
theorem ok_parts {f : Addr} {fd : FuncData} (F : Fun K "parts_of" "parts_of" (top 15) f fd) (T : Mg mg) (Ts : mg "sum" = none) (c1 : Cal P w K mg base 1 "places_by_rest" ["rests"] spPlaces) : FnOk P w K mg base CX0 2 f fd ["sacks", "weights"] spParts := by
  refine F.ok sc14 (fun vs H Q E h => ?_) (fun cdv A outer s H vs Q E hr h => ?_)
  · obtain ⟨n, p, ws, rfl, _⟩ := h
    rfl
  · obtain ⟨n, p, ws, rfl, ep, ok, n0, n1, q⟩ := h
    refine ⟨_, pss_cons (ps_set (i := 2) sc14.nd rfl (Or.inr rfl) (pe_callB (call_sumL rfl) rfl Ts boot_sum (pa_c (pv 1) pa_nil)))
      (pss_cons (ps_comp (i := 3) ["weight", "sacks", "together"] [none, some 0, some 2] rfl sc14.nd rfl (Or.inl rfl) (pi_tup (pv 1))
        (fun C fp pins s₂ H₂ => ⟨pg_name (i := 0) nd3w rfl (Or.inl rfl), pts_nil, pe_op op_fdiv (pe_op op_mul (pv 1) (pv 0)) (pv 2)⟩) (fun C => ⟨⟨rfl, .inl rfl, rfl, .inl rfl⟩, ⟨rfl, .inl rfl, rfl, .inl rfl⟩, trivial⟩) ⟨rfl, rfl, rfl, rfl⟩)
      (pss_cons (ps_comp (i := 4) ["weight", "sacks", "together"] [none, some 0, some 2] rfl sc14.nd rfl (Or.inl rfl) (pi_tup (pv 1))
        (fun C fp pins s₂ H₂ => ⟨pg_name (i := 0) nd3w rfl (Or.inl rfl), pts_nil, pe_op op_mod (pe_op op_mul (pv 1) (pv 0)) (pv 2)⟩) (fun C => ⟨⟨rfl, .inl rfl, rfl, .inl rfl⟩, ⟨rfl, .inl rfl, rfl, .inl rfl⟩, trivial⟩) ⟨rfl, rfl, rfl, rfl⟩)
      (pss_cons (ps_set (i := 5) sc14.nd rfl (Or.inl rfl) (pe_op op_sub (pv 0) (pe_callB (call_sumL rfl) rfl Ts boot_sum (pa_c (pv 3) pa_nil))))
      (pss_cons (ps_for PassesOwn.never rfl (pi_list (pe_slice sl_list (pe_cal c1 hr (by decide) rfl (pa_c (pv 4) pa_nil)) po_none (po_some (pv 5)))) (pg_name (i := 6) sc14.nd rfl (Or.inl rfl))
        (pss_one (ps_augS (pv 3) (pv 6) get_listP pe_int ip_add set_list)))
      (pss_one (ps_ret (pe_callTy call_tuple_of rfl T.tuple boot_tuple (pa_c (pv 3) pa_nil)))))))), ?_⟩
    have hp := ok.pos
    have ht := ok.top
    have hln := line_w ok
    refine rd_seq ?_
    refine ⟨_, rfl, p, ws, rfl, .inr (SqT.of ep), ?_⟩
    dsimp only
    refine rd_seq ?_
    refine ⟨_, rfl, p, rfl, ⟨_, SqT.of ep⟩, comp_ints (fun z => n * z / ws.sum) ep hln (fun z Q hz h => ⟨_, rfl, _, rfl, _, _, rfl, rfl, .inl ⟨by omega, by omega⟩, _, rfl, _, _, rfl, rfl, ⟨by omega, by omega⟩, h⟩) ?_⟩
    rw [show ws.map (fun z => n * z / ws.sum) = fs n ws from rfl]
    intro l1 hl1
    have s1 := Same.upd (o := .lst ((fs n ws).map V.int)) hl1
    have el1 := upd_same (H := H) (a := l1) (o := .lst ((fs n ws).map V.int))
    generalize upd H l1 _ = H1 at s1 el1 ⊢
    dsimp only
    refine rd_seq ?_
    refine ⟨_, rfl, p, rfl, ⟨_, SqT.of (s1 _ _ ep)⟩, comp_ints (fun z => n * z % ws.sum) (s1 _ _ ep) hln (fun z Q hz h => ⟨_, rfl, _, rfl, _, _, rfl, rfl, .inl ⟨by omega, by omega⟩, _, rfl, _, _, rfl, rfl, (by show 0 < ws.sum; omega), h⟩) ?_⟩
    rw [show ws.map (fun z => n * z % ws.sum) = rs n ws from rfl]
    intro l2 hl2
    have s2 := s1.updR (o := .lst ((rs n ws).map V.int)) hl2
    have el2 := upd_same (H := H1) (a := l2) (o := .lst ((rs n ws).map V.int))
    have el12 := Same.upd (o := .lst ((rs n ws).map V.int)) hl2 _ _ el1
    have nl1 : H l1 = none := hl1
    clear hl1 hl2
    generalize upd H1 l2 _ = H2 at s2 el2 el12 ⊢
    clear el1 s1
    dsimp only
    refine rd_seq ?_
    refine ⟨_, rfl, _, rfl, l1, fs n ws, rfl, .inl (SqL.of el12), _, _, rfl, rfl, ?_⟩
    show _
    dsimp only
    rw [show n - (fs n ws).sum = lf n ws from rfl]
    refine rd_seq ?_
    refine ⟨_, rfl, l2, rs n ws, rfl, el2, by rw [rs_len]; exact hln, fun H3 l3 pl ord s3 nl3 el3 => ⟨_, rfl, _, rfl, l3, _, rfl, SqL.of el3, fun l4 hl4 => ⟨l4, rfl, ⟨_, SqL.of upd_same⟩, ?_⟩⟩⟩
    have lnn := lf_nn (n := n) ok
    have lle := lf_le (n := n) ok
    have lpl := ord.len
    rw [rs_len] at lpl
    have ecut : cutV (pl.map fun j : Nat => V.int (j : Int)) none (some (lf n ws)) = (pl.take (lf n ws).toNat).map fun j : Nat => V.int (j : Int) := by
      rw [List.map_take, ← cut_take (i := (lf n ws).toNat) (by rw [List.length_map]; omega), show ((lf n ws).toNat : Int) = lf n ws by omega]
    rw [ecut]
    have fin := res_of ord
    have inr : ∀ j ∈ pl.take (lf n ws).toNat, j < ws.length := fun j hj => by
      have := ord.lt j (List.mem_of_mem_take hj)
      rw [rs_len] at this
      exact this
    generalize pl.take (lf n ws).toNat = pk at fin inr hl4 ⊢
    have s4 := (s2.trans s3).updR (o := .lst (pk.map fun j : Nat => V.int (j : Int))) hl4
    have el4 := upd_same (H := H3) (a := l4) (o := .lst (pk.map fun j : Nat => V.int (j : Int)))
    have el14 := Same.upd (o := .lst (pk.map fun j : Nat => V.int (j : Int))) hl4 _ _ (s3 _ _ el12)
    have n14 : l4 ≠ l1 := fun z => by
      rw [z, s3 _ _ el12] at hl4
      cases hl4
    generalize upd H3 l4 (.lst (pk.map fun j : Nat => V.int (j : Int))) = H4 at s4 el4 el14 ⊢
    clear hl4 el3 nl3 s3 el12 el2 s2
    refine for_list (xs := pk.map fun j : Nat => V.int (j : Int)) (fun i σ Hc => ∃ o6, σ = [some (.int n), some (.ref p), some (.int ws.sum), some (.ref l1), some (.ref l2), some (.int (lf n ws)), o6] ∧ Same H Hc ∧ Hc l4 = some (.lst (pk.map fun j : Nat => V.int (j : Int))) ∧ Hc l1 = some (.lst ((addAt (fs n ws) (pk.take i)).map V.int))) ?_ ?_ ?_ ?_
    · exact ⟨none, rfl, s4, el4, el14⟩
    · rintro i σ Hc hi ⟨o6, rfl, s5, e4, e1⟩
      exact SqL.of e4
    · rintro i v σ Hc hv ⟨o6, rfl, s5, e4, e1⟩
      rw [List.getElem?_map] at hv
      cases hj : pk[i]? with
      | none => rw [hj] at hv; cases hv
      | some j =>
        rw [hj] at hv
        cases hv
        refine rd_name ?_
        have kp : ∀ o, Same H (upd Hc l1 o) := fun o b u e => by
          rw [upd_ne (ne_of_none e nl1)]
          exact s5 _ _ e
        have hlt : j < (addAt (fs n ws) (pk.take i)).length := by
          rw [addAt_len, fs_len]
          exact inr j (List.mem_of_getElem? hj)
        have hx : ((addAt (fs n ws) (pk.take i)).map V.int)[((j : Nat) : Int).toNat]? = some (.int ((addAt (fs n ws) (pk.take i)).getD j 0)) := by
          rw [Int.toNat_natCast, List.getElem?_map, List.getElem?_eq_getElem hlt, List.getD_eq_getElem?_getD, List.getElem?_eq_getElem hlt]
          rfl
        refine ⟨_, rfl, _, rfl, l1, _, (j : Int), _, rfl, rfl, SqL.of e1, by omega, hx, _, _, rfl, rfl, l1, _, (j : Int), j, rfl, rfl, e1, ixN_nat (by rw [List.length_map]; exact hlt), ?_⟩
        refine ⟨_, rfl, kp _, by rw [upd_ne n14]; exact e4, ?_⟩
        rw [upd_same, List.take_add_one, hj]
        show _ = some (HO.lst ((addAt (fs n ws) (pk.take i ++ [j])).map V.int))
        rw [addAt_snoc, List.map_set]
    · rintro σ Hc ⟨o6, rfl, s5, e4, e1⟩
      rw [List.length_map, List.take_length, fin] at e1
      dsimp only
      refine rd_ret ?_
      exact ⟨_, rfl, l1, _, rfl, .inl ⟨SqL.of e1, fun t ht => q _ t (s5.updR ht) upd_same⟩⟩
theorem sc15 : FnScope ["sacks", "weights"] ["sacks", "weights"] (defScope (top 16)) := ⟨rfl, rfl, rfl, by decide +kernel, rfl, by decide +kernel, by decide +kernel⟩
theorem ok_parted {f : Addr} {fd : FuncData} (F : Fun K "parted" "parted" (top 16) f fd) (c1 : Cal P w K mg base 5 "refuse_unpartable" ["sacks", "weights"] spRefuse) (c2 : Cal P w K mg base 2 "parts_of" ["sacks", "weights"] spParts) : FnOk P w K mg base CX0 6 f fd ["sacks", "weights"] spParts := by
  refine F.ok sc15 (fun vs H Q E h => ?_) (fun cdv A outer s H vs Q E hr h => ?_)
  · obtain ⟨n, p, ws, rfl, _⟩ := h
    rfl
  · obtain ⟨n, p, ws, rfl, ep, ok, n0, n1, q⟩ := h
    refine ⟨_, pss_cons (ps_expr (pe_cal c1 hr (by decide) rfl (pa_c (pv 0) (pa_c (pv 1) pa_nil)))) (pss_one (ps_ret (pe_cal c2 hr (by decide) rfl (pa_c (pv 0) (pa_c (pv 1) pa_nil))))), ?_⟩
    refine rd_seq ?_
    refine ⟨_, rfl, _, rfl, n, p, ws, rfl, ep, ok, n0, n1, fun H1 s1 => ?_⟩
    dsimp only
    refine rd_ret ?_
    exact ⟨_, rfl, _, rfl, n, p, ws, rfl, s1 _ _ ep, ok, n0, n1, fun H2 t s2 et => q H2 t (s1.trans s2) et⟩
end
end K11

set_option Elab.async false
set_option linter.all false
set_option maxRecDepth 100000
set_option maxHeartbeats 400000
namespace K11
open PySem L2
theorem be_three {X : Cx} {i j k : Int} {a b c p q r pos} : BE X (.List [.Constant (.int i) a p, .Constant (.int j) b q, .Constant (.int k) c r] pos) (tLst (tInts [i, j, k])) := ⟨pe_lst (pa_ints (.cons (.cons (.cons .nil))))⟩
def spWeights : Sp := fun vs H Q _ => ∃ st, vs = [.ref st] ∧ StAt H st ∧ ∀ t ws H', Dr st H H' → OkW ws → H' t = some (.tup (ws.map V.int)) → Q (.ref t) H'
section
variable {P : Program} {w : World} {K : PySem.W.Frag} {mg : Str → Option Value} {base : Heap}
theorem nd22 : (["_law_turn", "_law_state_here", "_law_most"] : List Str).Nodup := by decide +kernel
theorem sc22 : FnScope ["_law_state_here", "_law_most", "_law_many"] ["_law_state_here"] (defScope (top 26)) := ⟨rfl, rfl, rfl, by decide +kernel, rfl, by decide +kernel, by decide +kernel⟩
theorem ok_weights {f : Addr} {fd : FuncData} (F : Fun K "_law_weights" "_law_weights" (top 26) f fd) (T : Mg mg) (Tr : mg "range" = none) (c1 : Cal P w K mg base 1 "_law_choice" ["_law_state_here", "_law_many"] spChoice) : FnOk P w K mg base CX0 2 f fd ["_law_state_here"] spWeights := by
  refine F.ok sc22 (fun vs H Q E h => ?_) (fun cdv A outer s H vs Q E hr h => ?_)
  · obtain ⟨st, rfl, _⟩ := h
    rfl
  · obtain ⟨st, rfl, hst, q⟩ := h
    refine ok_b (bss_cons (bs_set (i := 1) sc22.nd rfl (Or.inr rfl) (be_ix ix_list be_three ⟨pe_cal c1 hr (by decide) rfl (pa_c (pv 0) (pa_c pe_int pa_nil))⟩ (fun _ _ => rfl)))
      (bss_cons ⟨ps_set (i := 2) sc22.nd rfl (Or.inl rfl) (pe_op op_add pe_int (pe_cal c1 hr (by decide) rfl (pa_c (pv 0) (pa_c (pe_be (be_ix ix_list be_three ⟨pe_cal c1 hr (by decide) rfl (pa_c (pv 0) (pa_c pe_int pa_nil))⟩ (fun _ _ => rfl))) pa_nil))))⟩
      (bss_one ⟨ps_ret (pe_callTy call_tuple_of rfl T.tuple boot_tuple (pa_c (pe_comp ["_law_turn", "_law_state_here", "_law_most"] [none, some 0, some 1] rfl (pi_range1 rfl Tr (pa_c (pv 2) pa_nil))
        (fun C fp pins s₂ H₂ => ⟨pg_name (i := 0) nd22 rfl (Or.inl rfl), pts_nil, pe_op op_add pe_int (pe_cal c1 hr (by decide) rfl (pa_c (pv 1) (pa_c (pv 2) pa_nil)))⟩)
        (fun C => ⟨⟨rfl, .inl rfl, rfl, .inl rfl⟩, ⟨rfl, .inl rfl, rfl, .inl rfl⟩, trivial⟩) ⟨rfl, rfl, rfl, rfl⟩) pa_nil))⟩))) ?_
    refine rd_seq ?_
    refine rd_asg ?_
    refine ⟨(by show 3 ≤ sizeLine; decide), fun l hl => ?_⟩
    have g1 := (Dr.refl hst).same (Same.upd (o := .lst (([1, 3, 99] : List Int).map V.int)) hl)
    have el := upd_same (H := H) (a := l) (o := .lst (([1, 3, 99] : List Int).map V.int))
    have nl := (Dr.refl hst).ne hl
    generalize upd H l _ = H1 at g1 el ⊢
    refine ⟨_, rfl, st, 3, rfl, g1.sa, by decide, by decide, fun r a b c r0 r1 a0 b0 b1 => ?_⟩
    have g2 := g1.draw (c := c) a0 b0 b1
    have el2 : upd H1 st (.lst [.int a, .int b, .int c]) l = some (.lst (([1, 3, 99] : List Int).map V.int)) := by rw [upd_ne nl]; exact el
    generalize upd H1 st (.lst [.int a, .int b, .int c]) = H2 at g2 el2 ⊢
    obtain ⟨m, em, m0, m1⟩ : ∃ m : Int, (([1, 3, 99] : List Int).map V.int)[r.toNat]? = some (.int m) ∧ 1 ≤ m ∧ m ≤ 99 := by
      have : r.toNat = 0 ∨ r.toNat = 1 ∨ r.toNat = 2 := by omega
      rcases this with z | z | z <;> rw [z]
      · exact ⟨1, rfl, by decide, by decide⟩
      · exact ⟨3, rfl, by decide, by decide⟩
      · exact ⟨99, rfl, by decide, by decide⟩
    refine ⟨l, _, r, .int m, rfl, rfl, SqL.of el2, ?_, ?_⟩
    · have := atI_nat em
      rw [show ((r.toNat : Nat) : Int) = r by omega] at this
      exact this
    refine rd_name ?_
    dsimp only
    clear el el2 nl hl em g1
    refine rd_seq ?_
    refine ⟨_, rfl, (by show 3 ≤ sizeLine; decide), fun l hl => ?_⟩
    have g3 := g2.same (Same.upd (o := .lst (([4, 12, 80] : List Int).map V.int)) hl)
    have el := upd_same (H := H2) (a := l) (o := .lst (([4, 12, 80] : List Int).map V.int))
    have nl := g2.ne hl
    generalize upd H2 l _ = H3 at g3 el ⊢
    refine ⟨_, rfl, st, 3, rfl, g3.sa, by decide, by decide, fun r a b c r0 r1 a0 b0 b1 => ?_⟩
    have g4 := g3.draw (c := c) a0 b0 b1
    have el2 : upd H3 st (.lst [.int a, .int b, .int c]) l = some (.lst (([4, 12, 80] : List Int).map V.int)) := by rw [upd_ne nl]; exact el
    generalize upd H3 st (.lst [.int a, .int b, .int c]) = H4 at g4 el2 ⊢
    obtain ⟨k, ek, k0, k1⟩ : ∃ m : Int, (([4, 12, 80] : List Int).map V.int)[r.toNat]? = some (.int m) ∧ 1 ≤ m ∧ m ≤ 80 := by
      have : r.toNat = 0 ∨ r.toNat = 1 ∨ r.toNat = 2 := by omega
      rcases this with z | z | z <;> rw [z]
      · exact ⟨4, rfl, by decide, by decide⟩
      · exact ⟨12, rfl, by decide, by decide⟩
      · exact ⟨80, rfl, by decide, by decide⟩
    refine ⟨l, _, r, .int k, rfl, rfl, SqL.of el2, ?_, ?_⟩
    · have := atI_nat ek
      rw [show ((r.toNat : Nat) : Int) = r by omega] at this
      exact this
    refine ⟨st, k, rfl, g4.sa, k0, by omega, fun y a b c y0 y1 a0 b0 b1 => ⟨_, _, rfl, rfl, ?_⟩⟩
    have g5 := g4.draw (c := c) a0 b0 b1
    generalize upd H4 st (.lst [.int a, .int b, .int c]) = H5 at g5 ⊢
    clear el el2 nl hl ek g2 g3 g4
    dsimp only
    refine rd_ret ?_
    refine ⟨_, rfl, 1 + y, rfl, by omega, by omega, ?_⟩
    have lz : (1 + y).toNat < sizeLine := by
      rw [sizeLine_eq]
      omega
    refine comp_gen (1 + y).toNat (fun i ys σ Hc => Dr st H5 Hc ∧ (∃ o, σ = [o, some (.ref st), some (.int m)]) ∧ ∃ ws : List Int, ws.length = i ∧ (∀ n ∈ ws, 1 ≤ n ∧ n ≤ 99) ∧ ys = ws.map V.int) ⟨Dr.refl g5.sa, ⟨_, rfl⟩, [], rfl, fun _ h => (List.not_mem_nil h).elim, rfl⟩ lz ?_ ?_
    · rintro i ys σ Hc hi hy ⟨g6, ⟨o, rfl⟩, ws, lws, bws, rfl⟩
      refine ⟨hi, fun v H' yl R hR => ?_⟩
      obtain ⟨eH, rfl⟩ := yl
      subst H'
      refine rd_name ?_
      refine ⟨_, rfl, _, rfl, st, m, rfl, g6.sa, m0, by omega, fun t a b c t0 t1 a0 b0 b1 => ⟨_, _, rfl, rfl, hR _ _ _ ⟨g6.draw a0 b0 b1, ⟨_, rfl⟩, ws ++ [1 + t], by rw [List.length_append, lws]; rfl, fun n hn => ?_, by rw [List.map_append]; rfl⟩⟩⟩
      rcases List.mem_append.mp hn with z | z
      · exact bws n z
      · rw [List.mem_singleton.mp z]
        omega
    · rintro ys σ Hc hy ⟨g6, _, ws, lws, bws, rfl⟩
      refine ⟨Nat.le_refl _, fun D hD => ⟨D, _, rfl, .inl ⟨SqL.of upd_same, fun t ht => ?_⟩⟩⟩
      have s6 := (Same.upd (o := .lst (ws.map V.int)) hD).updR (o := .tup (ws.map V.int)) ht
      exact q t ws _ ((g5.trans g6).same s6) ⟨by omega, by omega, bws⟩ upd_same
end
end K11

set_option Elab.async false
set_option linter.all false
set_option maxRecDepth 100000
set_option maxHeartbeats 400000
namespace K11
open PySem L2
section
variable {P : Program} {w : World} {K : PySem.W.Frag} {mg : Str → Option Value} {base : Heap}
/-! ### are_wholes -/
theorem sc3 : FnScope ["thing", "many"] ["thing", "many"] (defScope (top 8)) := ⟨rfl, rfl, rfl, by decide +kernel, rfl, by decide +kernel, by decide +kernel⟩
theorem ok_are_wholes {f : Addr} {fd : FuncData} (F : Fun K "are_wholes" "are_wholes" (top 8) f fd) (T : Mg mg) (c1 : Cal P w K mg base 1 "is_whole" ["thing"] (spT wholeD)) (c2 : Cal P w K mg base 1 "is_tuple_of" ["thing", "fewest", "most"] (spT2 tupOfD)) :
    FnOk P w K mg base CX0 2 f fd ["thing", "many"] (spT1 wholesD) := by
  refine F.ok sc3 (fun vs H Q E h => ?_) (fun cdv A outer s H vs Q E hr h => ?_)
  · obtain ⟨S, v, d, n, rfl, _⟩ := h
    rfl
  · obtain ⟨S, v, d, n, rfl, th, hz, q⟩ := h
    refine ⟨_, pss_one (ps_ret (pe_and (pe_cal c2 hr (Nat.le_refl _) rfl (pa_cons (pv 0) (pa_cons (pv 1) (pa_cons (pv 1) pa_nil))))
      (pe_one (pe_callB (call_all rfl) rfl T.all boot_all (pa_cons (pe_comp ["part"] [none] rfl (pi_tup (pv 0))
        (fun C fp pins s₂ H₂ => ⟨pg_name (i := 0) (nd1 _) rfl (Or.inl rfl), pts_nil, pe_cal c1 hr (Nat.le_refl _) rfl (pa_cons (pv 0) pa_nil)⟩) (fun C => trivial) ⟨rfl, rfl, rfl, rfl⟩) pa_nil))))), ?_⟩
    refine ⟨_, rfl, _, rfl, _, rfl, S, v, d, n, n, rfl, th, hz, fun H1 s1 => ⟨_, rfl, ?_⟩⟩
    have th1 := th.same s1
    cases e : tupOfD d n n with
    | false =>
      refine iteF ?_
      have fin := q H1 s1
      unfold wholesD at fin
      rw [e] at fin
      exact fin
    | true =>
      refine iteT ?_
      cases th1 with
      | @tup a xs ds ea r =>
        have ew : wholesD (.tuple ds) n = ds.all wholeD := by unfold wholesD; rw [e]; rfl
        refine all_things wholeD rfl ea r (len_line r hz) (fun v d H2 Q2 hm s2 t2 q2 => ⟨_, rfl, S, v, d, rfl, t2, in_sz hm hz, q2⟩) fun H2 s2 => ?_
        rw [← ew]
        exact q _ (s1.trans s2)
      | _ => cases e
end
end K11

set_option Elab.async false
set_option linter.all false
set_option maxRecDepth 100000
set_option maxHeartbeats 400000
namespace K11
open PySem L2
/-! ### fair parts -/
def intsD (d : PyData) : List Int := (items d).map intOf
def okP (n T : Int) (p : Int × Int) : Bool := decide (n * p.2 - T < p.1 * T) && decide (p.1 * T < n * p.2 + T)
def fairD (n : Int) (ws : List Int) (d : PyData) : Bool := wholesD d ws.length && (decide ((intsD d).sum = n) && ((intsD d).zip ws).all (okP n ws.sum))
theorem items_w (ws : List Int) : intsD (wD ws) = ws := by
  unfold intsD wD items
  rw [List.map_map]
  exact List.map_id _
theorem wholes_w (rs : List Int) : wholesD (wD rs) rs.length = true := by
  unfold wholesD
  rw [Bool.and_eq_true]
  refine ⟨?_, List.all_eq_true.mpr fun d hd => ?_⟩
  · show (true && (decide ((rs.length : Int) ≤ ((rs.map PyData.int).length : Int)) && decide (((rs.map PyData.int).length : Int) ≤ rs.length))) = true
    rw [List.length_map, decide_eq_true (Int.le_refl _)]
    rfl
  · obtain ⟨w, hw, rfl⟩ := List.mem_map.mp hd
    rfl
theorem perm_sum {a b : List Int} (h : a.Perm b) : a.sum = b.sum := by
  induction h with
  | nil => rfl
  | cons x _ ih => rw [List.sum_cons, List.sum_cons, ih]
  | swap x y l => simp only [List.sum_cons]; omega
  | trans _ _ h1 h2 => rw [h1, h2]
theorem map_rr (r : List Int) : (List.range r.length).map (rr r) = r := by
  refine List.ext_getElem? fun i => ?_
  rw [List.getElem?_map]
  by_cases h : i < r.length
  · rw [List.getElem?_range h, List.getElem?_eq_getElem h]
    show some (rr r i) = _
    rw [rr_of (List.getElem?_eq_getElem h)]
  · rw [List.getElem?_eq_none (by rw [List.length_range]; omega), List.getElem?_eq_none (by omega)]
    rfl
/-- who gets one more had a rest -/
theorem pos_of {n : Int} {ws : List Int} (ok : OkW ws) {pl : List Nat} (h : Ord (rs n ws) pl) : ∀ i ∈ pl.take (lf n ws).toNat, 0 < rr (rs n ws) i := fun i hi => by
  obtain ⟨j, hj, e⟩ := List.getElem_of_mem hi
  rw [List.length_take] at hj
  rw [List.getElem_take] at e
  have lnn := lf_nn (n := n) ok
  refine Int.lt_of_not_ge fun c => ?_
  have tot : (pl.map (rr (rs n ws))).sum = (rs n ws).sum := by
    rw [perm_sum (h.pm.map _), map_rr]
  have hT := lf_T n ws
  have sp : (pl.map (rr (rs n ws))).sum = ((pl.take j).map (rr (rs n ws))).sum + ((pl.drop j).map (rr (rs n ws))).sum := by
    rw [← List.sum_append, ← List.map_append, List.take_append_drop]
  have bnd : ∀ k ∈ pl, rr (rs n ws) k ≤ ws.sum := fun k hk => by
    have := h.lt k hk
    rw [rr_of (List.getElem?_eq_getElem this)]
    exact rs_lt ok _ (List.getElem_mem _)
  have h1 := sum_le (B := ws.sum) (l := (pl.take j).map (rr (rs n ws))) fun a ha => by
    obtain ⟨k, hk, rfl⟩ := List.mem_map.mp ha
    exact bnd k (List.mem_of_mem_take hk)
  rw [List.length_map, List.length_take, Nat.min_eq_left (by omega)] at h1
  have h2 := sum_le (B := 0) (l := (pl.drop j).map (rr (rs n ws))) fun a ha => by
    obtain ⟨k, hk, rfl⟩ := List.mem_map.mp ha
    obtain ⟨m, hm, em⟩ := List.getElem_of_mem hk
    rw [List.getElem_drop] at em
    rw [List.length_drop] at hm
    by_cases z : m = 0
    · subst z
      have : pl[j + 0] = pl[j] := by simp
      rw [← em, this, e]
      exact c
    · have := List.pairwise_iff_getElem.mp h.so j (j + m) (by omega) (by omega) (by omega)
      rw [em, e] at this
      have := bef_iff.mp this
      omega
  have hp := ok.pos
  have : ws.sum * (j + 1) ≤ ws.sum * lf n ws := Int.mul_le_mul_of_nonneg_left (by omega) (by omega)
  rw [Int.mul_add] at this
  omega
theorem sum_set : ∀ {l : List Int} {i : Nat} {x : Int}, i < l.length → (l.set i (l.getD i 0 + x)).sum = l.sum + x
  | a :: l, 0, x, _ => by simp; omega
  | a :: l, i + 1, x, h => by
    have := sum_set (l := l) (i := i) (x := x) (by simpa using h)
    simp only [List.set_cons_succ, List.sum_cons, List.getD_cons_succ]
    omega
theorem addAt_sum : ∀ (pl : List Nat) (l : List Int), (∀ i ∈ pl, i < l.length) → (addAt l pl).sum = l.sum + pl.length
  | [], l, _ => by simp [addAt]
  | i :: pl, l, h => by
    show (addAt (l.set i (l.getD i 0 + 1)) pl).sum = _
    rw [addAt_sum pl _ fun j hj => by rw [List.length_set]; exact h j (.tail _ hj), sum_set (h i (.head _)), List.length_cons]
    omega
theorem res_sum {n : Int} {ws : List Int} (ok : OkW ws) : (res n ws).sum = n := by
  have o := (ord_ex (rs n ws)).choose_spec
  have hl := o.len
  rw [rs_len] at hl
  have l0 := lf_nn (n := n) ok
  have l1 := lf_le (n := n) ok
  unfold res
  rw [addAt_sum _ _ fun i hi => by rw [fs_len]; have := o.lt i (List.mem_of_mem_take hi); rw [rs_len] at this; exact this, List.length_take, Nat.min_eq_left (by omega)]
  have : lf n ws = n - (fs n ws).sum := rfl
  omega
theorem fair_res {n : Int} {ws : List Int} (ok : OkW ws) : fairD n ws (wD (res n ws)) = true := by
  unfold fairD
  have hw := wholes_w (res n ws)
  rw [res_len] at hw
  rw [hw, items_w, res_sum ok, decide_eq_true rfl, Bool.true_and, Bool.true_and]
  refine List.all_eq_true.mpr fun p hp => ?_
  obtain ⟨i, hi, e⟩ := List.getElem_of_mem hp
  rw [List.length_zip, res_len, Nat.min_self] at hi
  rw [List.getElem_zip] at e
  have ew : ws[i] = p.2 := by rw [← e]
  have er : (res n ws)[i]'(by rw [res_len]; exact hi) = p.1 := by rw [← e]
  have hp := ok.pos
  have o := (ord_ex (rs n ws)).choose_spec
  have c1 : ((ord_ex (rs n ws)).choose.take (lf n ws).toNat).count i ≤ 1 := List.nodup_iff_count.mp (o.nd.sublist (List.take_sublist _ _)) i
  have ev : p.1 = n * p.2 / ws.sum + ((ord_ex (rs n ws)).choose.take (lf n ws).toNat).count i := by
    have := addAt_get ((ord_ex (rs n ws)).choose.take (lf n ws).toNat) (fs n ws) i (by rw [fs_len]; exact hi)
    have e2 : (fs n ws).getD i 0 = n * p.2 / ws.sum := by
      unfold fs
      rw [List.getD_eq_getElem?_getD, List.getElem?_map, List.getElem?_eq_getElem hi, ew]
      rfl
    rw [e2] at this
    rw [← this, show addAt (fs n ws) _ = res n ws from rfl, List.getD_eq_getElem?_getD, List.getElem?_eq_getElem (by rw [res_len]; exact hi), er]
    rfl
  have d1 := Int.mul_ediv_add_emod (n * p.2) ws.sum
  have d2 := Int.emod_lt_of_pos (n * p.2) (b := ws.sum) (by omega)
  have d3 := Int.emod_nonneg (n * p.2) (b := ws.sum) (by omega)
  unfold okP
  rw [Bool.and_eq_true, decide_eq_true_iff, decide_eq_true_iff]
  by_cases z : ((ord_ex (rs n ws)).choose.take (lf n ws).toNat).count i = 0
  · rw [z] at ev
    have e0 : p.1 = n * p.2 / ws.sum := by omega
    rw [e0, Int.mul_comm (n * p.2 / ws.sum)]
    omega
  · have e0 : p.1 = n * p.2 / ws.sum + 1 := by omega
    have hm : i ∈ (ord_ex (rs n ws)).choose.take (lf n ws).toNat := List.count_pos_iff.mp (by omega)
    have hr := pos_of ok o i hm
    have e3 : rr (rs n ws) i = n * p.2 % ws.sum := by
      refine rr_of ?_
      unfold rs
      rw [List.getElem?_map, List.getElem?_eq_getElem hi, ew]
      rfl
    rw [e0, Int.add_mul, Int.one_mul, Int.mul_comm (n * p.2 / ws.sum)]
    omega
end K11

set_option Elab.async false
set_option linter.all false
set_option maxRecDepth 100000
set_option maxHeartbeats 400000
namespace K11
open PySem L2
theorem boot_abs : bootBuiltins "abs" = some (.builtin "abs") := by decide +kernel
/-- pairs of two tuples of ints: a value of each -/
theorem comp_zipI {K : PySem.W.Frag} {te : TE} {a b : Addr} {xs ys : List Int} {tl : St} {H0 : Hp} {Fin : List V → Hp → Prop} (f : Int → Int → V) (ea : H0 a = some (.tup (xs.map V.int))) (eb : H0 b = some (.tup (ys.map V.int))) (hl : xs.length = ys.length) (hz : ys.length < sizeLine)
    (hte : ∀ x y H1 Q1, Same H0 H1 → (∀ H', Same H1 H' → Q1 (f x y) H') → te (some (.int x) :: some (.int y) :: tl) H1 Q1)
    (fin : ∀ H', Same H0 H' → Fin ((xs.zip ys).map fun p => f p.1 p.2) H') : CompW (ZT.Itz K a b) (gTup K 2 (gCons (gName 0) (gCons (gName 1) gNil))) tYes te Fin (none :: none :: tl) H0 := by
  refine comp_gen ys.length (fun i zs σ H => Same H0 H ∧ (∃ o1 o2, σ = o1 :: o2 :: tl) ∧ zs = ((xs.zip ys).take i).map fun p => f p.1 p.2) ⟨Same.refl _, ⟨_, _, rfl⟩, rfl⟩ hz ?_ ?_
  · rintro i zs σ H hi hy ⟨s1, ⟨o1, o2, rfl⟩, rfl⟩
    have hi1 : i < xs.length := by omega
    have hx : (xs.map V.int)[i]? = some (.int xs[i]) := by rw [List.getElem?_map, List.getElem?_eq_getElem hi1]; rfl
    have hy : (ys.map V.int)[i]? = some (.int ys[i]) := by rw [List.getElem?_map, List.getElem?_eq_getElem hi]; rfl
    refine ⟨⟨_, _, _, _, SqT.of (s1 _ _ ea), SqT.of (s1 _ _ eb), hx, hy⟩, fun v H' yl R hR => ?_⟩
    obtain ⟨T, nT, rfl, yl⟩ := yl
    obtain ⟨x, y, hx', hy', rfl⟩ := yl _ _ (SqT.of (s1 _ _ ea)) (SqT.of (s1 _ _ eb))
    rw [hx] at hx'
    rw [hy] at hy'
    cases hx'
    cases hy'
    have s2 := s1.updR (o := .tup [.int xs[i], .int ys[i]]) nT
    refine ⟨T, _, rfl, SqT.of upd_same, rfl, _, _, rfl, _, _, rfl, rfl, ?_⟩
    refine hte xs[i] ys[i] _ _ s2 fun H2 s3 => hR _ _ _ ⟨s2.trans s3, ⟨_, _, rfl⟩, ?_⟩
    rw [List.take_add_one, List.getElem?_eq_getElem (by rw [List.length_zip]; omega), List.map_append, List.getElem_zip]
    rfl
  · rintro zs σ H hy ⟨s1, _, rfl⟩
    refine ⟨⟨_, SqT.of (s1 _ _ ea), by rw [List.length_map]; omega⟩, ?_⟩
    rw [List.take_of_length_le (by rw [List.length_zip]; omega)]
    exact fin H s1
/-- for x, y in zip of two tuples -/
theorem for_zipT {K : PySem.W.Frag} {a b : Addr} {xs ys : List V} {g : TG} {tb : TS} {D : Ends} {σ : St} {H : Hp} (hl : xs.length = ys.length) (Pv : Nat → St → Hp → Prop) (h0 : Pv 0 σ H) (hq : ∀ i σ H, i ≤ xs.length → Pv i σ H → SqT K H a xs ∧ SqT K H b ys)
    (hs : ∀ i x y σ H T, xs[i]? = some x → ys[i]? = some y → Pv i σ H → H T = none → g (.ref T) σ (upd H T (.tup [x, y])) fun σ2 H2 => tb { D with nx := Pv (i + 1), ct := Pv (i + 1), bk := D.nx } σ2 H2) (hd : ∀ σ H, Pv xs.length σ H → D.nx σ H) :
    ∃ W : Nat → Nat → St → Hp → Prop, (∃ m, W 0 m σ H) ∧ ∀ i m σ H, W i m σ H →
      ((ZT.Itz K a b).stop i H ∧ D.nx σ H) ∨ ((ZT.Itz K a b).go i H ∧ ∃ N : St → Hp → Prop, (∀ σ' H', N σ' H' → ∃ m', m' < m ∧ W (i + 1) m' σ' H') ∧ ∀ x H', (ZT.Itz K a b).yld i H x H' → g x σ H' fun σ2 H2 => tb { D with nx := N, ct := N, bk := D.nx } σ2 H2) := by
  refine ⟨fun i m σ H => m = xs.length - i ∧ i ≤ xs.length ∧ Pv i σ H, ⟨xs.length, by simp, Nat.zero_le _, h0⟩, ?_⟩
  rintro i m σ H ⟨rfl, hi, p⟩
  obtain ⟨q1, q2⟩ := hq i σ H hi p
  by_cases hlt : i < xs.length
  · refine .inr ⟨⟨xs, ys, xs[i], ys[i], q1, q2, by simp [hlt], by simp [← hl, hlt]⟩, Pv (i + 1), fun σ' H' p' => ⟨xs.length - (i + 1), by omega, rfl, hlt, p'⟩, fun v H' y => ?_⟩
    obtain ⟨T, nT, rfl, y⟩ := y
    obtain ⟨x, z, hx, hz, rfl⟩ := y xs ys q1 q2
    exact hs i x z σ H T hx hz p nT
  · have e : i = xs.length := by omega
    subst e
    exact .inl ⟨⟨xs, q1, Nat.le_refl _⟩, hd σ H p⟩
def spFair : Sp := fun vs H Q _ => ∃ S n p ws v d, vs = [.int n, .ref p, v] ∧ H p = some (.tup (ws.map V.int)) ∧ OkW ws ∧ 0 ≤ n ∧ n ≤ ws.sum ∧ IsTh S H v d ∧ sz d ≤ 4000 ∧ ∀ H', Same H H' → Q (.bl (fairD n ws d)) H'
/-- a tuple of wholes: ints -/
theorem ints_ths {S : Addr → Prop} {H : Hp} : ∀ {xs : List V} {ds : List PyData}, IsThs S H xs ds → ds.all wholeD = true → xs = (ds.map intOf).map V.int
  | _, _, .nil, _ => rfl
  | _, _, .cons h t, e => by
    rw [List.all_cons, Bool.and_eq_true] at e
    obtain ⟨i, rfl, rfl⟩ := whole_int h e.1
    rw [ints_ths t e.2]
    rfl
theorem wholes_tup {S : Addr → Prop} {H : Hp} {v : V} {d : PyData} {n : Nat} (th : IsTh S H v d) (e : wholesD d n = true) : ∃ p, v = .ref p ∧ H p = some (.tup ((intsD d).map V.int)) ∧ (intsD d).length = n := by
  cases th with
  | @tup a xs ds ea r =>
    obtain ⟨h1, h2⟩ := Bool.and_eq_true_iff.mp e
    have h3 := tupOf_len h1
    refine ⟨a, rfl, ?_, ?_⟩
    · rw [ea, ints_ths r h2]
      rfl
    · show ((items (.tuple ds)).map intOf).length = n
      rw [List.length_map]
      show ds.length = n
      omega
  | _ => cases e
section
variable {P : Program} {w : World} {K : PySem.W.Frag} {mg : Str → Option Value} {base : Heap}
theorem nd4 : (["part", "weight", "sacks", "together"] : List Str).Nodup := by decide +kernel
theorem sc17 : FnScope ["sacks", "weights", "thing", "together"] ["sacks", "weights", "thing"] (defScope (top 17)) := ⟨rfl, rfl, rfl, by decide +kernel, rfl, by decide +kernel, by decide +kernel⟩
theorem ok_fair {f : Addr} {fd : FuncData} (F : Fun K "is_fair" "is_fair" (top 17) f fd) (T : Mg mg) (Ts : mg "sum" = none) (Ta : mg "abs" = none) (Tz : mg "zip" = none) (c1 : Cal P w K mg base 5 "refuse_unpartable" ["sacks", "weights"] spRefuse) (c2 : Cal P w K mg base 2 "are_wholes" ["thing", "many"] (spT1 wholesD)) : FnOk P w K mg base CX0 6 f fd ["sacks", "weights", "thing"] spFair := by
  refine F.ok sc17 (fun vs H Q E h => ?_) (fun cdv A outer s H vs Q E hr h => ?_)
  · obtain ⟨S, n, p, ws, v, d, rfl, _⟩ := h
    rfl
  · obtain ⟨S, n, p, ws, v, d, rfl, ep, ok, n0, n1, th, hz, q⟩ := h
    refine ok_b (bss_cons ⟨ps_expr (pe_cal c1 hr (by decide) rfl (pa_c (pv 0) (pa_c (pv 1) pa_nil)))⟩
      (bss_cons ⟨ps_if (PW.pt (pw_or (pt_not (pt_val (pe_cal c2 hr (by decide) rfl (pa_c (pv 2) (pa_c (pe_callB call_len_seq rfl T.len PySem.boot_len (pa_c (pv 1) pa_nil)) pa_nil))))) (pw_or1 (pt_cmpR op_ne (pe_callB (call_sumL rfl) rfl Ts boot_sum (pa_c (pv 2) pa_nil)) (pv 0) (nomark _))))) (pss_one (ps_ret pe_bl)) pss_nil⟩
      (bss_cons ⟨ps_set (i := 3) sc17.nd rfl (Or.inr rfl) (pe_callB (call_sumL rfl) rfl Ts boot_sum (pa_c (pv 1) pa_nil))⟩
      (bss_one ⟨ps_ret (pe_callB (call_all rfl) rfl T.all boot_all (pa_c (pe_comp (g := gTup K 2 (gCons (gName 0) (gCons (gName 1) gNil))) ["part", "weight", "sacks", "together"] [none, none, some 0, some 3] rfl (zip_tt (K := K) rfl rfl Tz (pa_c (pv 2) (pa_c (pv 1) pa_nil)))
        (fun C fp pins s₂ H₂ => ⟨pg_tupK rfl rfl (pgs_cons (pg_name (i := 0) nd4 rfl (Or.inl rfl) (Or.inr rfl)) (pgs_cons (pg_name (i := 1) nd4 rfl (Or.inl rfl) (Or.inr rfl)) pgs_nil)), pts_nil,
          pe_cmpR op_lt (pe_callB call_abs rfl Ta boot_abs (pa_c (pe_op op_sub (pe_op op_mul (pv 0) (pv 3)) (pe_op op_mul (pv 2) (pv 1))) pa_nil)) (pv 3) (nomark _)⟩) (fun C => ⟨⟨rfl, .inl rfl, rfl, .inl rfl⟩, ⟨rfl, .inl rfl, rfl, .inl rfl⟩, trivial⟩) ⟨rfl, rfl, rfl, rfl⟩) pa_nil))⟩)))) ?_
    have hp := ok.pos
    have ht := ok.top
    refine rd_seq ?_
    refine ⟨_, rfl, _, rfl, n, p, ws, rfl, ep, ok, n0, n1, fun H1 s1 => ?_⟩
    dsimp only
    refine rd_seq ?_
    have hlen : (ws.map V.int).length = ws.length := List.length_map _
    refine ⟨_, rfl, _, rfl, p, _, rfl, .inr (SqT.of (s1 _ _ ep)), S, v, d, _, rfl, th.same s1, hz, fun H2 s2 => ⟨_, rfl, ?_⟩⟩
    rw [hlen]
    have fin := fun H' (s : Same H H') => q H' s
    unfold fairD at fin
    cases e : wholesD d ws.length with
    | false =>
      rw [e] at fin
      exact iteT (iteT (fin _ (s1.trans s2)))
    | true =>
      rw [e] at fin
      obtain ⟨t, rfl, et, lt⟩ := wholes_tup ((th.same s1).same s2) e
      refine iteF ?_
      refine ⟨_, rfl, t, intsD d, rfl, .inr (SqT.of et), _, rfl, rfl, _, rfl, ?_⟩
      have ec : (!decide (V.int (intsD d).sum = V.int n)) = !decide ((intsD d).sum = n) := by
        congr 1
        exact decide_eq_decide.mpr ⟨fun z => by injection z, fun z => by rw [z]⟩
      rw [ec]
      cases e2 : decide ((intsD d).sum = n) with
      | false =>
        rw [e2] at fin
        exact iteT (fin _ (s1.trans s2))
      | true =>
        rw [e2] at fin
        refine iteF ?_
        refine rd_next ?_
        dsimp only
        refine rd_seq ?_
        refine rd_asg ?_
        have ep2 := s2 _ _ (s1 _ _ ep)
        refine ⟨_, rfl, p, ws, rfl, .inr (SqT.of ep2), ?_⟩
        refine rd_name ?_
        dsimp only
        refine rd_ret ?_
        refine ⟨_, rfl, _, rfl, t, p, _, _, rfl, SqT.of et, SqT.of ep2, comp_zipI (fun x y => .bl (okP n ws.sum (x, y))) et ep2 lt (line_w ok) (fun x y H3 Q3 s3 q3 => ?_) fun H3 s3 D hD => ?_⟩
        · refine ⟨_, rfl, _, rfl, _, _, rfl, rfl, .inr ⟨by omega, by omega⟩, _, rfl, _, rfl, _, _, rfl, rfl, .inl ⟨by omega, by omega⟩, _, _, rfl, rfl, _, rfl, _, rfl, _, _, rfl, rfl, ?_⟩
          have e3 : decide ((if x * ws.sum - n * y < 0 then -(x * ws.sum - n * y) else x * ws.sum - n * y) < ws.sum) = okP n ws.sum (x, y) := by
            unfold okP
            rw [← Bool.decide_and]
            refine decide_eq_decide.mpr ?_
            dsimp only
            split <;> omega
          have := q3 H3 (Same.refl H3)
          rw [← e3] at this
          exact this
        · refine ⟨D, ((intsD d).zip ws).map (okP n ws.sum), rfl, ?_, ?_⟩
          · rw [List.map_map]
            exact SqL.of upd_same
          · rw [List.all_map]
            exact fin _ (((s1.trans s2).trans s3).updR hD)
end
end K11

set_option Elab.async false
set_option linter.all false
set_option maxRecDepth 100000
set_option maxHeartbeats 400000
namespace K11
open PySem L2
section
variable {P : Program} {w : World} {K : PySem.W.Frag} {mg : Str → Option Value} {base : Heap}
theorem scLF : FnScope ["_law_sacks", "_law_weights_here", "_law_thing", "_law_one", "_law_whole", "_law_weight"] ["_law_sacks", "_law_weights_here", "_law_thing"] (defScope (top 27)) := ⟨rfl, rfl, rfl, by decide +kernel, rfl, by decide +kernel, by decide +kernel⟩
theorem ok_lfair {f : Addr} {fd : FuncData} (F : Fun K "_law_is_fair" "_law_is_fair" (top 27) f fd) (T : Mg mg) (Ts : mg "sum" = none) (Tz : mg "zip" = none) : FnOk P w K mg base CX0 1 f fd ["_law_sacks", "_law_weights_here", "_law_thing"] spFair := by
  refine F.ok scLF (fun vs H Q E h => ?_) (fun cdv A outer s H vs Q E hr h => ?_)
  · obtain ⟨S, n, p, ws, v, d, rfl, _⟩ := h
    rfl
  · obtain ⟨S, n, p, ws, v, d, rfl, ep, ok, n0, n1, th, hz, q⟩ := h
    refine ok_b (bss_cons ⟨ps_if (PW.pt (pw_or (pt_not (pt_val (pe_callB call_isinst rfl T.isinstance boot_isinstance (pa_c (pv 2) (pa_c (pe_bltn rfl T.tuple boot_tuple (v := .ty "tuple") rfl) pa_nil))))) (pw_or1 (pt_cmpR op_ne (pe_callB call_len_seq rfl T.len PySem.boot_len (pa_c (pv 2) pa_nil)) (pe_callB call_len_seq rfl T.len PySem.boot_len (pa_c (pv 1) pa_nil)) (nomark _))))) (pss_one (ps_ret pe_bl)) pss_nil⟩
      (bss_cons ⟨ps_for PassesOwn.never rfl (pi_tup (pv 2)) (pg_name (i := 3) scLF.nd rfl (Or.inl rfl)) (pss_one (ps_if (PW.pt (pw_or (pt_not (pt_val (pe_callB call_isinst rfl T.isinstance boot_isinstance (pa_c (pv 3) (pa_c (pe_bltn rfl T.int boot_int (v := .ty "int") rfl) pa_nil))))) (pw_or1 (pt_val (pe_callB call_isinst rfl T.isinstance boot_isinstance (pa_c (pv 3) (pa_c (pe_bltn rfl T.bool boot_bool (v := .ty "bool") rfl) pa_nil))))))) (pss_one (ps_ret pe_bl)) pss_nil))⟩
      (bss_cons ⟨ps_set (i := 4) scLF.nd rfl (Or.inl rfl) (pe_callB (call_sumL rfl) rfl Ts boot_sum (pa_c (pv 1) pa_nil))⟩
      (bss_cons ⟨ps_for PassesOwn.never rfl (ZT.pi_zip rfl Tz (pa_c (pv 2) (pa_c (pv 1) pa_nil))) (pg_tup rfl (pgs_cons (pg_name (i := 3) scLF.nd rfl (Or.inl rfl)) (pgs_cons (pg_name (i := 5) scLF.nd rfl (Or.inl rfl)) pgs_nil)))
        (pss_one (ps_if (PW.pt (pw_or (pt_cmpR op_ge (pe_op op_mul (pv 3) (pv 4)) (pe_op op_add (pe_op op_mul (pv 0) (pv 5)) (pv 4)) (nomark _)) (pw_or1 (pt_cmpR op_le (pe_op op_mul (pv 3) (pv 4)) (pe_op op_sub (pe_op op_mul (pv 0) (pv 5)) (pv 4)) (nomark _))))) (pss_one (ps_ret pe_bl)) pss_nil))⟩
      (bss_one ⟨ps_ret (pe_cmpR op_eq (pe_callB (call_sumL rfl) rfl Ts boot_sum (pa_c (pv 2) pa_nil)) (pv 0) (nomark _))⟩))))) ?_
    have hp := ok.pos
    have ht := ok.top
    have fin := fun H' (s : Same H H') => q H' s
    unfold fairD at fin
    have no : wholesD d ws.length = false → ∀ H', Same H H' → Q (.bl false) H' := fun e H' s => by
      have := fin H' s
      rw [e] at this
      exact this
    refine rd_seq ?_
    refine ⟨_, rfl, v, _, "tuple", isTupD d, rfl, th.ty, kit_tup d, _, rfl, ?_⟩
    cases th with
    | @tup a xs ds ea r =>
      refine iteF ?_
      have hlen : (ws.map V.int).length = ws.length := List.length_map _
      have hlx := r.length
      refine ⟨_, rfl, a, _, rfl, .inr (SqT.of ea), _, rfl, p, _, rfl, .inr (SqT.of ep), rfl, _, rfl, ?_⟩
      rw [hlen, hlx]
      have ec : (!decide (V.int (ds.length : Int) = V.int (ws.length : Int))) = !decide (ds.length = ws.length) := by
        congr 1
        refine decide_eq_decide.mpr ⟨fun z => ?_, fun z => by rw [z]⟩
        injection z with z
        omega
      rw [ec]
      by_cases e : ds.length = ws.length
      · rw [decide_eq_true e]
        refine iteF ?_
        refine rd_next ?_
        dsimp only
        refine rd_seq ?_
        refine ⟨_, rfl, a, rfl, ⟨_, SqT.of ea⟩, ?_⟩
        have tl : tupOfD (.tuple ds) ws.length ws.length = true := by
          show (true && (decide ((ws.length : Int) ≤ (ds.length : Int)) && decide ((ds.length : Int) ≤ ws.length))) = true
          rw [e, decide_eq_true (Int.le_refl _)]
          rfl
        refine for_tup (xs := xs) (fun i σ Hc => (∃ o3, σ = [some (.int n), some (.ref p), some (.ref a), o3, none, none]) ∧ Hc = H ∧ (ds.take i).all wholeD = true) ⟨⟨_, rfl⟩, rfl, rfl⟩ (fun i σ Hc hi h => by rw [h.2.1]; exact SqT.of ea) ?_ ?_
        · rintro i x σ Hc hx ⟨⟨o3, rfl⟩, rfl, hall⟩
          obtain ⟨e1, he1, tx⟩ := r.get hx
          refine rd_name ?_
          refine ⟨_, rfl, x, _, "int", isIntD e1, rfl, tx.ty, kit_int e1, _, rfl, ?_⟩
          have stop : wholeD e1 = false → Q (.bl false) Hc := fun z => by
            refine no ?_ _ (Same.refl _)
            unfold wholesD
            rw [tl, Bool.true_and]
            refine Bool.eq_false_iff.mpr fun c => ?_
            have := List.all_eq_true.mp c e1 (List.mem_of_getElem? he1)
            rw [z] at this
            cases this
          cases hi1 : isIntD e1 with
          | false => exact iteT (iteT (stop (by unfold wholeD; rw [hi1]; rfl)))
          | true =>
            refine iteF ?_
            refine ⟨_, rfl, x, _, "bool", isBoolD e1, rfl, tx.ty, kit_bool e1, _, rfl, ?_⟩
            cases hb1 : isBoolD e1 with
            | true => exact iteT (stop (by unfold wholeD; rw [hi1, hb1]; rfl))
            | false =>
              refine iteF ⟨⟨_, rfl⟩, rfl, ?_⟩
              rw [List.take_add_one, he1, List.all_append, hall]
              show (true && ([e1].all wholeD)) = true
              rw [List.all_cons, List.all_nil]
              unfold wholeD
              rw [hi1, hb1]
              rfl
        · rintro σ Hc ⟨⟨o3, rfl⟩, rfl, hall⟩
          rw [hlx, List.take_length] at hall
          have ew : wholesD (.tuple ds) ws.length = true := by
            unfold wholesD
            rw [tl, Bool.true_and]
            exact hall
          have exs := ints_ths r hall
          have ei : intsD (.tuple ds) = ds.map intOf := rfl
          rw [← ei] at exs
          have li : (intsD (.tuple ds)).length = ws.length := by rw [ei, List.length_map, e]
          rw [ew, Bool.true_and] at fin
          subst exs
          generalize intsD (.tuple ds) = ms at *
          dsimp only
          refine rd_seq ?_
          refine rd_asg ?_
          refine ⟨_, rfl, p, ws, rfl, .inr (SqT.of ep), ?_⟩
          refine rd_name ?_
          dsimp only
          refine rd_seq ?_
          refine ⟨_, rfl, _, rfl, a, p, _, _, rfl, SqT.of ea, SqT.of ep, ?_⟩
          refine for_zipT (xs := ms.map V.int) (ys := ws.map V.int) (by rw [List.length_map, List.length_map]; exact li) (fun i σ H2 => (∃ o3 o5, σ = [some (.int n), some (.ref p), some (.ref a), o3, some (.int ws.sum), o5]) ∧ Same Hc H2 ∧ ((ms.zip ws).take i).all (okP n ws.sum) = true) ⟨⟨_, _, rfl⟩, Same.refl _, rfl⟩ (fun i σ H2 hi h => ⟨SqT.of (h.2.1 _ _ ea), SqT.of (h.2.1 _ _ ep)⟩) ?_ ?_
          · rintro i x y σ H2 T' hx hy ⟨⟨o3, o5, rfl⟩, s2, hall2⟩ nT
            rw [List.getElem?_map] at hx hy
            cases hm : ms[i]? with
            | none => rw [hm] at hx; cases hx
            | some m =>
              cases hw : ws[i]? with
              | none => rw [hw] at hy; cases hy
              | some w1 =>
                rw [hm] at hx
                rw [hw] at hy
                cases hx
                cases hy
                have s3 := s2.updR (o := .tup [.int m, .int w1]) nT
                refine ⟨T', _, rfl, SqT.of upd_same, rfl, _, _, rfl, _, _, rfl, rfl, ?_⟩
                have hzp : (ms.zip ws)[i]? = some (m, w1) := by
                  rw [List.getElem?_zip_eq_some]
                  exact ⟨hm, hw⟩
                have stop : okP n ws.sum (m, w1) = false → Q (.bl false) (upd H2 T' (.tup [.int m, .int w1])) := fun z => by
                  have := fin _ s3
                  have e3 : (ms.zip ws).all (okP n ws.sum) = false := Bool.eq_false_iff.mpr fun c => by
                    have := List.all_eq_true.mp c _ (List.mem_of_getElem? hzp)
                    rw [z] at this
                    cases this
                  rw [e3, Bool.and_false] at this
                  exact this
                refine ⟨_, rfl, _, rfl, _, _, rfl, rfl, .inr ⟨by omega, by omega⟩, _, rfl, _, rfl, _, _, rfl, rfl, .inl ⟨by omega, by omega⟩, _, rfl, _, _, rfl, rfl, _, _, rfl, rfl, _, rfl, ?_⟩
                by_cases g1 : n * w1 + ws.sum ≤ m * ws.sum
                · rw [decide_eq_true g1]
                  exact iteT (iteT (stop (by unfold okP; rw [decide_eq_false (p := m * ws.sum < n * w1 + ws.sum) (by omega), Bool.and_false])))
                · rw [decide_eq_false g1]
                  refine iteF ?_
                  refine ⟨_, rfl, _, rfl, _, _, rfl, rfl, .inr ⟨by omega, by omega⟩, _, rfl, _, rfl, _, _, rfl, rfl, .inl ⟨by omega, by omega⟩, _, rfl, _, _, rfl, rfl, _, _, rfl, rfl, _, rfl, ?_⟩
                  by_cases g2 : m * ws.sum ≤ n * w1 - ws.sum
                  · rw [decide_eq_true g2]
                    exact iteT (stop (by unfold okP; rw [decide_eq_false (p := n * w1 - ws.sum < m * ws.sum) (by omega), Bool.false_and]))
                  · rw [decide_eq_false g2]
                    refine iteF ⟨⟨_, _, rfl⟩, s3, ?_⟩
                    rw [List.take_add_one, hzp, List.all_append, hall2]
                    show (true && ([(m, w1)].all (okP n ws.sum))) = true
                    rw [List.all_cons, List.all_nil]
                    unfold okP
                    rw [decide_eq_true (p := n * w1 - ws.sum < m * ws.sum) (by omega), decide_eq_true (p := m * ws.sum < n * w1 + ws.sum) (by omega)]
                    rfl
          · rintro σ H2 ⟨⟨o3, o5, rfl⟩, s2, hall2⟩
            rw [List.length_map, List.take_of_length_le (by rw [List.length_zip]; omega)] at hall2
            dsimp only
            refine rd_ret ?_
            refine ⟨_, rfl, a, ms, rfl, .inr (SqT.of (s2 _ _ ea)), _, rfl, rfl, ?_⟩
            have := fin _ s2
            rw [hall2, Bool.and_true] at this
            have e4 : decide (V.int ms.sum = V.int n) = decide (ms.sum = n) := decide_eq_decide.mpr ⟨fun z => by injection z, fun z => by rw [z]⟩
            rw [e4]
            exact this
      · rw [decide_eq_false e]
        refine iteT (no ?_ _ (Same.refl _))
        unfold wholesD
        have : tupOfD (.tuple ds) ws.length ws.length = false := by
          show (true && (decide ((ws.length : Int) ≤ (ds.length : Int)) && decide ((ds.length : Int) ≤ ws.length))) = false
          rw [Bool.true_and, ← Bool.decide_and]
          exact decide_eq_false (by omega)
        rw [this]
        rfl
    | _ => exact iteT (iteT (no rfl _ (Same.refl _)))
end
end K11

set_option Elab.async false
set_option linter.all false
set_option maxRecDepth 100000
set_option maxHeartbeats 400000
namespace K11
open PySem L2
/-- where the lists and dicts of a thing may stand -/
def SS (st : Addr) : Addr → Prop := fun a => a ≠ st ∧ a ≠ sysModules
theorem Dr.thsS {st : Addr} {H H1 : Hp} {vs : List V} {ds : List PyData} (g : Dr st H H1) (h0 : StAt H st) (t : IsThs (SS st) H vs ds) : IsThs (SS st) H1 vs ds := t.keep (g.tups h0) (fun b o z e => g.bt b o e z.1) fun _ _ z _ => z
def BT (d : PyData) : Prop := tame d = true ∧ sz d ≤ 300
/-! ### tuples, somewhere -/
section
variable {X : Cx}
theorem op_catU : OpR X (binaryOp .Add) (fun x y H Q => ∃ a b xs ys, x = .ref a ∧ y = .ref b ∧ H a = some (.tup xs) ∧ H b = some (.tup ys) ∧ xs.length + ys.length ≤ sizeLine ∧ ∀ c H', Same H H' → H' c = some (.tup (xs ++ ys)) → Q (.ref c) H') := by
  intro pins s σ H x y v u Q I rx ry h
  obtain ⟨a, b, xs, ys, rfl, rfl, ha, hb, hz, q⟩ := h
  by_cases hx : xs = []
  · subst hx
    exact op_catT0 pins s σ H _ _ v u Q I rx ry ⟨a, b, ys, rfl, rfl, SqT.of ha, SqT.of hb, q b H (Same.refl H) hb⟩
  · refine op_catT pins s σ H _ _ v u Q I rx ry ⟨a, b, xs, ys, rfl, rfl, SqT.of ha, SqT.of hb, hx, hz, fun e => q a H (Same.refl H) ?_, fun _ p hp => q p _ (Same.upd hp) upd_same⟩
    rw [e, List.append_nil]
    exact ha
theorem sl_tupU : SlR X (fun x lo hi H Q => ∃ a xs, x = .ref a ∧ H a = some (.tup xs) ∧ ∀ c H', Same H H' → H' c = some (.tup (cutV xs lo hi)) → Q (.ref c) H') := by
  intro pins s σ H x v vl vu lo hi sl Q I rx hs pl pu h
  obtain ⟨a, xs, rfl, ha, q⟩ := h
  refine sl_tupW pins s σ H _ v vl vu lo hi sl Q I rx hs pl pu ⟨a, xs, rfl, SqT.of ha, fun hw => q a H (Same.refl H) ?_, fun _ p hp => q p _ (Same.upd hp) upd_same⟩
  rw [ha]
  unfold cutV
  rw [hw.1, hw.2, List.drop_zero, Nat.sub_zero, List.take_length]
end
abbrev rCatU : R2 := fun x y H Q => ∃ a b xs ys, x = .ref a ∧ y = .ref b ∧ H a = some (.tup xs) ∧ H b = some (.tup ys) ∧ xs.length + ys.length ≤ sizeLine ∧ ∀ c H', Same H H' → H' c = some (.tup (xs ++ ys)) → Q (.ref c) H'
abbrev rSlU : V → Option Int → Option Int → Hp → VK → Prop := fun x lo hi H Q => ∃ a xs, x = .ref a ∧ H a = some (.tup xs) ∧ ∀ c H', Same H H' → H' c = some (.tup (cutV xs lo hi)) → Q (.ref c) H'
/-- t gives a tuple of these items, none of the old things turned -/
def TuE (σ : St) (H : Hp) (t : TE) (vs : List V) : Prop := ∀ H0, Same H H0 → ∀ Q : VK, (∀ c H', Same H0 H' → H' c = some (.tup vs) → Q (.ref c) H') → t σ H0 Q
section
variable {σ : St} {H : Hp} {S : Addr → Prop}
theorem tu_v {i : Nat} {p : Addr} {vs : List V} (h : σ[i]? = some (some (.ref p))) (e : H p = some (.tup vs)) : TuE σ H (tVar i) vs := fun H0 s0 Q q => ⟨_, h, q p H0 (Same.refl _) (s0 _ _ e)⟩
theorem tu_cat {ta tb : TE} {xs ys : List V} (ha : TuE σ H ta xs) (hb : TuE σ H tb ys) (hz : xs.length + ys.length ≤ 4000) : TuE σ H (tOp rCatU ta tb) (xs ++ ys) := fun H0 s0 Q q =>
  ha H0 s0 _ fun c H1 s1 e1 => hb H1 (s0.trans s1) _ fun c2 H2 s2 e2 => ⟨c, c2, xs, ys, rfl, rfl, s2 _ _ e1, e2, by rw [sizeLine_eq]; omega, fun c3 H3 s3 e3 => q c3 H3 (s1.trans (s2.trans s3)) e3⟩
/-- a part of a slice: no turn, this number -/
def PtE (σ : St) (H : Hp) (t : TO) (o : Option Int) : Prop := ∀ H0, Same H H0 → ∀ Q : Option Int → Hp → Prop, Q o H0 → t σ H0 Q
theorem pt_none : PtE σ H tNoPart none := fun H0 _ Q q => q
theorem pt_some {te : TE} {i : Int} (h : ∀ H', Ev σ H' te (.int i)) : PtE σ H (tPart te) (some i) := fun H0 _ Q q => h H0 _ ⟨i, rfl, q⟩
theorem tu_sl {ta : TE} {tl th : TO} {xs : List V} {lo hi : Option Int} (ha : TuE σ H ta xs) (hl : PtE σ H tl lo) (hh : PtE σ H th hi) : TuE σ H (tSl rSlU ta tl th) (cutV xs lo hi) := fun H0 s0 Q q =>
  ha H0 s0 _ fun c H1 s1 e1 => hl H1 (s0.trans s1) _ (hh H1 (s0.trans s1) _ ⟨c, xs, rfl, e1, fun c2 H2 s2 e2 => q c2 H2 (s1.trans s2) e2⟩)
theorem tu_rev {K : PySem.W.Frag} {ta : TE} {xs : List V} (ha : TuE σ H ta xs) : TuE σ H (tRev K ta) xs.reverse := fun H0 s0 Q q =>
  ha H0 s0 _ fun c H1 s1 e1 => ⟨c, xs, rfl, SqT.of e1, fun p hp => q p _ (s1.updR hp) upd_same⟩
theorem tu_one {te : TE} {v : V} (h : ∀ H', Ev σ H' te v) : TuE σ H (tTup (tCons te tNil)) [v] := fun H0 s0 Q q => h H0 _ ⟨by show 1 ≤ sizeLine; decide, fun p hp => q p _ (Same.upd hp) upd_same⟩
theorem th_tu {t : TE} {vs : List V} {ds : List PyData} (h : TuE σ H t vs) (ht : ∀ H', IsThs S H' vs ds) : ThE S σ H t (.tuple ds) := fun H0 s0 Q q => h H0 s0 _ fun c H' s e => q _ H' s (.tup e (ht H'))
end
/-! ### items that are ints or None -/
def vD : V → PyData
  | .int i => .int i
  | _ => .none
def scV : V → Prop
  | .int i => -2 ≤ i ∧ i ≤ 101
  | .non => True
  | _ => False
theorem ths_sc {S : Addr → Prop} {H : Hp} : ∀ {vs : List V}, (∀ v ∈ vs, scV v) → IsThs S H vs (vs.map vD)
  | [], _ => .nil
  | v :: vs, h => by
    refine .cons ?_ (ths_sc fun u hu => h u (.tail _ hu))
    have := h v (.head _)
    cases v with
    | int i => exact .int i
    | non => exact .non
    | _ => exact this.elim
theorem tames_mem : ∀ {ds : List PyData}, (∀ d ∈ ds, tame d = true) → tames ds = true
  | [], _ => rfl
  | d :: ds, h => by
    show (tame d && tames ds) = true
    rw [h d (.head _), tames_mem fun e he => h e (.tail _ he)]
    rfl
theorem szs_one : ∀ {ds : List PyData}, (∀ d ∈ ds, sz d = 1) → szs ds = ds.length
  | [], _ => rfl
  | d :: ds, h => by
    show sz d + szs ds = ds.length + 1
    rw [h d (.head _), szs_one fun e he => h e (.tail _ he), Nat.add_comm]
theorem vD_ok {v : V} (h : scV v) : tame (vD v) = true ∧ sz (vD v) = 1 := by
  cases v with
  | int i =>
    have h : -2 ≤ i ∧ i ≤ 101 := h
    exact ⟨decide_eq_true (show i.natAbs < 2 ^ 128 by omega), rfl⟩
  | non => exact ⟨rfl, rfl⟩
  | _ => exact h.elim
theorem sc_ok {vs : List V} (h : ∀ v ∈ vs, scV v) (hl : vs.length ≤ 250) : BT (.tuple (vs.map vD)) ∧ BT (.list (vs.map vD)) := by
  have h1 : tames (vs.map vD) = true := tames_mem fun d hd => by
    obtain ⟨v, hv, rfl⟩ := List.mem_map.mp hd
    exact (vD_ok (h v hv)).1
  have h2 : szs (vs.map vD) = vs.length := by
    rw [szs_one fun d hd => by obtain ⟨v, hv, rfl⟩ := List.mem_map.mp hd; exact (vD_ok (h v hv)).2, List.length_map]
  exact ⟨⟨h1, by show 1 + szs (vs.map vD) ≤ 300; omega⟩, ⟨h1, by show 1 + szs (vs.map vD) ≤ 300; omega⟩⟩
theorem sc_ints {ns : List Int} (h : ∀ n ∈ ns, -2 ≤ n ∧ n ≤ 101) : ∀ v ∈ ns.map V.int, scV v := fun v hv => by
  obtain ⟨n, hn, rfl⟩ := List.mem_map.mp hv
  exact h n hn
theorem sc_cut {vs : List V} (h : ∀ v ∈ vs, scV v) (lo hi : Option Int) : ∀ v ∈ cutV vs lo hi, scV v := fun v hv => by
  unfold cutV at hv
  exact h v (List.mem_of_mem_drop (List.mem_of_mem_take hv))
theorem sc_app {a b : List V} (h : ∀ v ∈ a, scV v) (h' : ∀ v ∈ b, scV v) : ∀ v ∈ a ++ b, scV v := fun v hv => (List.mem_append.mp hv).elim (h v) (h' v)
/-! ### a sack moved -/
def spMoved : Sp := fun vs H Q _ => ∃ st p ns, vs = [.ref st, .ref p] ∧ StAt H st ∧ H p = some (.tup ((ns : List Int).map V.int)) ∧ 1 ≤ ns.length ∧ ns.length ≤ 80 ∧ (∀ n ∈ ns, 0 ≤ n ∧ n ≤ 99) ∧ ∀ t ms H', Dr st H H' → ms.length = ns.length → (∀ m ∈ ms, -2 ≤ m ∧ m ≤ 101) → H' t = some (.tup ((ms : List Int).map V.int)) → Q (.ref t) H'
theorem boot_list : bootBuiltins "list" = some (.type "list") := by decide +kernel
theorem set_mem {l : List Int} {i : Nat} {x m : Int} (h : m ∈ l.set i x) : m = x ∨ m ∈ l := (List.mem_or_eq_of_mem_set h).symm
section
variable {P : Program} {w : World} {K : PySem.W.Frag} {mg : Str → Option Value} {base : Heap}
theorem scM : FnScope ["_law_state_here", "_law_parts", "_law_row", "_law_one", "_law_other", "_law_far"] ["_law_state_here", "_law_parts"] (defScope (top 28)) := ⟨rfl, rfl, rfl, by decide +kernel, rfl, by decide +kernel, by decide +kernel⟩
theorem ok_moved {f : Addr} {fd : FuncData} (F : Fun K "_law_moved" "_law_moved" (top 28) f fd) (T : Mg mg) (Tl : mg "list" = none) (c1 : Cal P w K mg base 1 "_law_choice" ["_law_state_here", "_law_many"] spChoice) : FnOk P w K mg base CX0 2 f fd ["_law_state_here", "_law_parts"] spMoved := by
  refine F.ok scM (fun vs H Q E h => ?_) (fun cdv A outer s H vs Q E hr h => ?_)
  · obtain ⟨st, p, ns, rfl, _⟩ := h
    rfl
  · obtain ⟨st, p, ns, rfl, hst, ep, l1, l2, bn, q⟩ := h
    refine ok_b (bss_cons ⟨ps_set (i := 2) scM.nd rfl (Or.inl rfl) (pe_callTy call_list_ofS rfl Tl boot_list (pa_c (pv 1) pa_nil))⟩
      (bss_cons ⟨ps_par (i := 3) (j := 4) rfl scM.nd rfl rfl (by decide) rfl rfl (pa_c (pe_cal c1 hr (by decide) rfl (pa_c (pv 0) (pa_c (pe_callB call_len_seq rfl T.len PySem.boot_len (pa_c (pv 2) pa_nil)) pa_nil))) (pa_c (pe_cal c1 hr (by decide) rfl (pa_c (pv 0) (pa_c (pe_callB call_len_seq rfl T.len PySem.boot_len (pa_c (pv 2) pa_nil)) pa_nil))) pa_nil)) rfl⟩
      (bss_cons ⟨ps_set (i := 5) scM.nd rfl (Or.inl rfl) (pe_op op_add pe_int (pe_cal c1 hr (by decide) rfl (pa_c (pv 0) (pa_c pe_int pa_nil))))⟩
      (bss_cons ⟨ps_asg (pe_tup (pa_c (pe_op op_sub (pe_ix ix_list (pv 2) (pv 3) (fun _ _ => rfl)) (pv 5)) (pa_c (pe_op op_add (pe_ix ix_list (pv 2) (pv 4) (fun _ _ => rfl)) (pv 5)) pa_nil)))
          (pg_tup rfl (pgs_cons (pg_sub (pv 2) (pv 3) set_list) (pgs_cons (pg_sub (pv 2) (pv 4) set_list) pgs_nil)))⟩
      (bss_one ⟨ps_ret (pe_callTy call_tuple_of rfl T.tuple boot_tuple (pa_c (pv 2) pa_nil))⟩))))) ?_
    refine rd_seq ?_
    refine rd_asg ?_
    refine ⟨_, rfl, p, _, rfl, SqT.of ep, fun l hl _ => ?_⟩
    refine rd_name ?_
    dsimp only
    have g1 := (Dr.refl hst).same (Same.upd (o := .lst (ns.map V.int)) hl)
    have el := upd_same (H := H) (a := l) (o := .lst (ns.map V.int))
    have nl := (Dr.refl hst).ne hl
    have nHl : H l = none := hl
    generalize upd H l _ = H1 at g1 el ⊢
    have hlen : (ns.map V.int).length = ns.length := List.length_map _
    refine rd_seq ?_
    refine ⟨_, rfl, _, rfl, l, _, rfl, .inl (SqL.of el), st, _, rfl, g1.sa, by rw [hlen]; omega, by rw [hlen]; omega, fun r1 a b c r10 r11 a0 b0 b1 => ?_⟩
    rw [hlen] at r11
    have g2 := g1.draw (c := c) a0 b0 b1
    have el2 : upd H1 st (.lst [.int a, .int b, .int c]) l = some (.lst (ns.map V.int)) := by rw [upd_ne nl]; exact el
    generalize upd H1 st (.lst [.int a, .int b, .int c]) = H2 at g2 el2 ⊢
    refine ⟨_, rfl, _, rfl, l, _, rfl, .inl (SqL.of el2), st, _, rfl, g2.sa, by rw [hlen]; omega, by rw [hlen]; omega, fun r2 a b c r20 r21 a0 b0 b1 => ?_⟩
    rw [hlen] at r21
    have g3 := g2.draw (c := c) a0 b0 b1
    have el3 : upd H2 st (.lst [.int a, .int b, .int c]) l = some (.lst (ns.map V.int)) := by rw [upd_ne nl]; exact el2
    generalize upd H2 st (.lst [.int a, .int b, .int c]) = H3 at g3 el3 ⊢
    refine ⟨_, _, rfl, ?_⟩
    dsimp only
    refine rd_seq ?_
    refine rd_asg ?_
    refine ⟨_, rfl, st, 2, rfl, g3.sa, by decide, by decide, fun r3 a b c r30 r31 a0 b0 b1 => ⟨_, _, rfl, rfl, ?_⟩⟩
    have g5 := g3.draw (c := c) a0 b0 b1
    have el5 : upd H3 st (.lst [.int a, .int b, .int c]) l = some (.lst (ns.map V.int)) := by rw [upd_ne nl]; exact el3
    generalize upd H3 st (.lst [.int a, .int b, .int c]) = H5 at g5 el5 ⊢
    clear g1 g2 g3 el el2 el3 hl
    refine rd_name ?_
    dsimp only
    refine rd_seq ?_
    have i1 : r1.toNat < ns.length := by omega
    have i2 : r2.toNat < ns.length := by omega
    have x1 : (ns.map V.int)[r1.toNat]? = some (.int ns[r1.toNat]) := by rw [List.getElem?_map, List.getElem?_eq_getElem i1]; rfl
    have x2 : (ns.map V.int)[r2.toNat]? = some (.int ns[r2.toNat]) := by rw [List.getElem?_map, List.getElem?_eq_getElem i2]; rfl
    have b1 := bn _ (List.getElem_mem i1)
    have b2 := bn _ (List.getElem_mem i2)
    have y1 := atI_nat x1
    have y2 := atI_nat x2
    rw [show ((r1.toNat : Nat) : Int) = r1 by omega] at y1
    rw [show ((r2.toNat : Nat) : Int) = r2 by omega] at y2
    refine ⟨_, rfl, _, rfl, l, _, r1, _, rfl, rfl, SqL.of el5, y1, _, rfl, _, _, rfl, rfl, _, rfl, _, rfl, l, _, r2, _, rfl, rfl, SqL.of el5, y2, _, rfl, _, _, rfl, rfl, (by show 2 ≤ sizeLine; decide), fun t2 ht2 => ⟨t2, _, rfl, SqT.of upd_same, rfl, ?_⟩⟩
    dsimp only
    generalize hv1 : ns[r1.toNat] - (1 + r3) = v1
    generalize hv2 : ns[r2.toNat] + (1 + r3) = v2
    have g6 := g5.same (Same.upd (o := .tup [.int v1, .int v2]) ht2)
    have el6 := Same.upd (o := .tup [.int v1, .int v2]) ht2 _ _ el5
    generalize upd H5 t2 _ = H6 at g6 el6 ⊢
    have z1 : ixN (ns.map V.int).length r1 = some r1.toNat := by
      have := ixN_nat (n := (ns.map V.int).length) (j := r1.toNat) (by rw [hlen]; exact i1)
      rw [show ((r1.toNat : Nat) : Int) = r1 by omega] at this
      exact this
    refine ⟨_, _, rfl, _, rfl, _, rfl, l, _, r1, r1.toNat, rfl, rfl, el6, z1, ?_⟩
    have el7 := upd_same (H := H6) (a := l) (o := .lst ((ns.map V.int).set r1.toNat (.int v1)))
    have z2 : ixN ((ns.map V.int).set r1.toNat (.int v1)).length r2 = some r2.toNat := by
      have := ixN_nat (n := ((ns.map V.int).set r1.toNat (.int v1)).length) (j := r2.toNat) (by rw [List.length_set, hlen]; exact i2)
      rw [show ((r2.toNat : Nat) : Int) = r2 by omega] at this
      exact this
    refine ⟨_, _, rfl, _, rfl, _, rfl, l, _, r2, r2.toNat, rfl, rfl, el7, z2, rfl, ?_⟩
    have el8 := upd_same (H := upd H6 l (.lst ((ns.map V.int).set r1.toNat (.int v1)))) (a := l) (o := .lst (((ns.map V.int).set r1.toNat (.int v1)).set r2.toNat (.int v2)))
    have g8 : Dr st H (upd (upd H6 l (.lst ((ns.map V.int).set r1.toNat (.int v1)))) l (.lst (((ns.map V.int).set r1.toNat (.int v1)).set r2.toNat (.int v2)))) := by
      obtain ⟨a, b, c, e, h⟩ := g6.sa
      refine ⟨fun b o e ne => ?_, a, b, c, ?_, h⟩
      · rw [upd_ne (ne_of_none e nHl), upd_ne (ne_of_none e nHl)]
        exact g6.bt _ _ e ne
      · rw [upd_ne nl.symm, upd_ne nl.symm]
        exact e
    generalize upd (upd H6 l _) l _ = H8 at g8 el8 ⊢
    refine rd_ret ?_
    have em : ((ns.map V.int).set r1.toNat (.int v1)).set r2.toNat (.int v2) = ((ns.set r1.toNat v1).set r2.toNat v2).map V.int := by rw [List.map_set, List.map_set]
    rw [em] at el8
    refine ⟨_, rfl, l, _, rfl, .inl ⟨SqL.of el8, fun t ht => q t _ _ (g8.same (Same.upd ht)) (by rw [List.length_set, List.length_set]) (fun m hm => ?_) upd_same⟩⟩
    rcases set_mem hm with e | hm
    · omega
    · rcases set_mem hm with e | hm
      · omega
      · have := bn m hm
        omega
end
end K11

set_option Elab.async false
set_option linter.all false
set_option maxRecDepth 100000
set_option maxHeartbeats 800000
namespace K11
open PySem L2
theorem boot_dict : bootBuiltins "dict" = some (.type "dict") := by decide +kernel
section
variable {σ : St} {H : Hp}
theorem pt_v {i : Nat} {n : Int} (h : σ[i]? = some (some (.int n))) : PtE σ H (tPart (tVar i)) (some n) := pt_some fun _ => ev_v h
theorem pt_v1 {i : Nat} {n : Int} (h : σ[i]? = some (some (.int n))) : PtE σ H (tPart (tOp (rI0 fun i j => .int (i + j)) (tVar i) (tC (.int 1)))) (some (n + 1)) := pt_some fun _ => ev_op0 (ev_v h) ev_c
theorem pt_m1 : PtE σ H (tPart (tUn (rU fun i => .int (-i)) (tC (.int 1)))) (some (-1)) := fun H0 _ Q q => ⟨1, rfl, _, rfl, q⟩
theorem pt_c {n : Int} : PtE σ H (tPart (tC (.int n))) (some n) := pt_some fun _ => ev_c
theorem tu_catS {ta tb : TE} {xs ys : List V} (ha : TuE σ H ta xs) (hb : TuE σ H tb ys) (hx : xs.length ≤ 1000) (hy : ys.length ≤ 1000) : TuE σ H (tOp rCatU ta tb) (xs ++ ys) := tu_cat ha hb (by omega)
theorem cut_le {vs : List V} {lo hi : Option Int} (h : vs.length ≤ 80) : (cutV vs lo hi).length ≤ 1000 := by
  have := cutV_length vs lo hi
  omega
end
/-- list of a tuple, as a thing -/
theorem th_lof {K : PySem.W.Frag} {S : Addr → Prop} {σ : St} {H : Hp} {i : Nat} {p : Addr} {vs : List V} {ds : List PyData} (h : σ[i]? = some (some (.ref p))) (e : H p = some (.tup vs)) (ht : ∀ H', IsThs S H' vs ds) (hS : ∀ H', Same H H' → ∀ p, H' p = none → p ≠ sysModules → S p) :
    ThE S σ H (tCB (fun xs H Q => ∃ p ys, xs = [.ref p] ∧ SqT K H p ys ∧ ∀ l, H l = none → l ≠ sysModules → Q (.ref l) (upd H l (.lst ys))) (tCons (tVar i) tNil)) (.list ds) := fun H0 s0 Q q =>
  ⟨_, h, p, vs, rfl, SqT.of (s0 _ _ e), fun l hl nl => q _ _ (Same.upd hl) (.lst (hS H0 s0 l hl nl) upd_same (ht _))⟩
/-- dict of the pairs of two letters -/
theorem th_ab {S : Addr → Prop} {σ : St} {H : Hp} {src : List (Option Nat)} (hsrc : capσ σ src = [none]) (hS : ∀ H', Same H H' → ∀ p, H' p = none → p ≠ sysModules → S p) :
    ThE S σ H (tCB (fun xs H Q => ∃ (p : Addr) (l : List Addr) (kvs : List (Key × V)), xs = [.ref p] ∧ H p = some (.lst (l.map V.ref)) ∧ kvs.length = l.length ∧ (∀ (j : Nat) (kv : Key × V), kvs[j]? = some kv → ∃ a, l[j]? = some a ∧ H a = some (.tup [kV kv.1, kv.2])) ∧ ∀ q, H q = none → q ≠ sysModules → Q (.ref q) (upd H q (.dK (mergeK [] kvs))))
      (tCons (tComp (iStr (tC (.str "ab"))) src (gName 0) tYes (tTup (tCons (tVar 0) (tCons (tC (.int 1)) tNil)))) tNil)) (.dict [(.str "a", .int 1), (.str "b", .int 1)]) := fun H0 s0 Q q => by
  refine ⟨"ab", rfl, by decide +kernel, ?_⟩
  rw [hsrc]
  have two : ("ab" : Str).cps.size = 2 := by decide +kernel
  have l0 : ("ab" : Str).cps[0]? = some 97 := by decide +kernel
  have l1 : ("ab" : Str).cps[1]? = some 98 := by decide +kernel
  refine comp_gen 2 (fun i ys σ Hc => Same H0 Hc ∧ (∃ o, σ = [o]) ∧ ∃ ts : List Addr, ys = ts.map V.ref ∧ (1 ≤ i → ∃ a, ts[0]? = some a ∧ Hc a = some (.tup [.str ⟨#[97]⟩, .int 1])) ∧ (2 ≤ i → ∃ a, ts[1]? = some a ∧ Hc a = some (.tup [.str ⟨#[98]⟩, .int 1]))) ⟨Same.refl _, ⟨_, rfl⟩, [], rfl, fun h => absurd h (by decide), fun h => absurd h (by decide)⟩ (by decide) ?_ ?_
  · rintro i ys σ Hc hi hy ⟨s1, ⟨o, rfl⟩, ts, rfl, h1, h2⟩
    rw [List.length_map] at hy
    refine ⟨by show i < ("ab" : Str).cps.size; rw [two]; exact hi, fun v H' yl R hR => ?_⟩
    obtain ⟨eH, c, hc, rfl⟩ := yl
    subst H'
    refine rd_name ?_
    refine ⟨_, rfl, (by show 2 ≤ sizeLine; decide), fun t ht => hR _ _ _ ⟨s1.updR ht, ⟨_, rfl⟩, ts ++ [t], by rw [List.map_append]; rfl, fun _ => ?_, fun _ => ?_⟩⟩
    · by_cases z : i = 0
      · subst z
        rw [l0] at hc
        cases hc
        exact ⟨t, by rw [List.getElem?_append_right (by omega), hy]; rfl, upd_same⟩
      · obtain ⟨a, e1, e2⟩ := h1 (by omega)
        exact ⟨a, by rw [List.getElem?_append_left (by omega)]; exact e1, Same.upd ht _ _ e2⟩
    · have z : i = 1 := by omega
      subst z
      rw [l1] at hc
      cases hc
      exact ⟨t, by rw [List.getElem?_append_right (by omega), hy]; rfl, upd_same⟩
  · rintro ys σ Hc hy ⟨s1, _, ts, rfl, h1, h2⟩
    rw [List.length_map] at hy
    refine ⟨by show ("ab" : Str).cps.size ≤ 2; rw [two]; exact Nat.le_refl _, fun D hD => ?_⟩
    obtain ⟨a, e1, e2⟩ := h1 (by decide)
    obtain ⟨b, e3, e4⟩ := h2 (by decide)
    have la : (⟨#[97]⟩ : Str) = "a" := by decide +kernel
    have lb : (⟨#[98]⟩ : Str) = "b" := by decide +kernel
    rw [la] at e2
    rw [lb] at e4
    have m := Same.upd (o := .lst (ts.map V.ref)) hD
    refine ⟨D, ts, [(.inr "a", .int 1), (.inr "b", .int 1)], rfl, upd_same, by rw [hy]; rfl, fun j kv hj => ?_, fun p hp np => ?_⟩
    · match j, hj with
      | 0, hj => cases hj; exact ⟨a, e1, m _ _ e2⟩
      | 1, hj => cases hj; exact ⟨b, e3, m _ _ e4⟩
      | j + 2, hj => simp at hj
    · refine q _ _ ((s1.updR hD).updR hp) ?_
      have em : mergeK [] ([(.inr "a", .int 1), (.inr "b", .int 1)] : List (Key × V)) = ([(.inr "a", 1), (.inr "b", 1)] : List (Key × Int)).map fun p => (p.1, V.int p.2) := by decide +kernel
      rw [em]
      exact .dct (ks := [(.inr "a", 1), (.inr "b", 1)]) (hS _ (s0.trans (s1.updR hD)) p hp np) upd_same
theorem sc_non : ∀ v ∈ [V.non], scV v := fun v hv => by
  rw [List.mem_singleton.mp hv]
  trivial
/-- one of these things is chosen -/
theorem ths_at {S : Addr → Prop} {H : Hp} {vs : List V} {ds : List PyData} {i : Nat} (h : IsThs S H vs ds) (hi : i < ds.length) : ∃ v d, vs[i]? = some v ∧ d ∈ ds ∧ IsTh S H v d := by
  have hl := h.length
  have hv : vs[i]? = some vs[i] := List.getElem?_eq_getElem (by omega)
  obtain ⟨d, hd, t⟩ := h.get hv
  exact ⟨_, d, hv, List.mem_of_getElem? hd, t⟩
def spRowB : Sp := fun vs H Q _ => ∃ st p ns, vs = [.ref st, .ref p] ∧ StAt H st ∧ H p = some (.tup ((ns : List Int).map V.int)) ∧ 1 ≤ ns.length ∧ ns.length ≤ 80 ∧ (∀ n ∈ ns, 0 ≤ n ∧ n ≤ 99) ∧ ∀ v d H', Dr st H H' → BT d → IsTh (SS st) H' v d → Q v H'
section
variable {P : Program} {w : World} {K : PySem.W.Frag} {mg : Str → Option Value} {base : Heap}
theorem scB : FnScope ["_law_state_here", "_law_things", "_law_kind", "_law_at", "_law_some"] ["_law_state_here", "_law_things"] (defScope (top 24)) := ⟨rfl, rfl, rfl, by decide +kernel, rfl, by decide +kernel, by decide +kernel⟩
theorem ok_rowB {f : Addr} {fd : FuncData} (F : Fun K "_law_row_bent" "_law_row_bent" (top 24) f fd) (T : Mg mg) (Tl : mg "list" = none) (Td : mg "dict" = none) (c1 : Cal P w K mg base 1 "_law_choice" ["_law_state_here", "_law_many"] spChoice) : FnOk P w K mg base CX0 2 f fd ["_law_state_here", "_law_things"] spRowB := by
  refine F.ok scB (fun vs H Q E h => ?_) (fun cdv A outer s H vs Q E hr h => ?_)
  · obtain ⟨st, p, ns, rfl, _⟩ := h
    rfl
  · obtain ⟨st, p, ns, rfl, hst, ep, l1, l2, bn, q⟩ := h
    refine ok_b (bss_cons ⟨ps_par (i := 2) (j := 3) rfl scB.nd rfl rfl (by decide) rfl rfl (pa_c (pe_cal c1 hr (by decide) rfl (pa_c (pv 0) (pa_c pe_int pa_nil))) (pa_c (pe_cal c1 hr (by decide) rfl (pa_c (pv 0) (pa_c (pe_op op_add (pe_callB call_len_seq rfl T.len PySem.boot_len (pa_c (pv 1) pa_nil)) pe_int) pa_nil))) pa_nil)) rfl⟩
      (bss_cons (bs_set (i := 4) scB.nd rfl (Or.inl rfl) (be_lst (ab_c ⟨pe_callTy call_list_ofS rfl Tl boot_list (pa_c (pv 1) pa_nil)⟩
          (ab_c ⟨pe_op op_catU (pe_slice sl_tupU (pv 1) po_none (po_some (pv 3))) (pe_slice sl_tupU (pv 1) (po_some (pe_op op_add (pv 3) pe_int)) po_none)⟩
          (ab_c ⟨pe_rev (pv 1)⟩ (ab_c ⟨pe_op op_catU (pv 1) (pe_slice sl_tupU (pv 1) (po_some (pe_un un_neg pe_int)) po_none)⟩
          (ab_c ⟨pe_op op_catU (pe_slice sl_tupU (pv 1) po_none (po_some (pv 3))) (pe_slice sl_tupU (pv 1) po_none (po_some pe_int))⟩ aa_nil)))))))
      (bss_cons (bs_set (i := 4) scB.nd rfl (Or.inl rfl) (be_op op_cat ⟨pv 4⟩ (be_lst (ab_c ⟨pe_op op_catU (pe_slice sl_tupU (pv 1) (po_some (pv 3)) po_none) (pe_slice sl_tupU (pv 1) po_none (po_some (pv 3)))⟩
          (ab_c ⟨pe_op op_catU (pe_op op_catU (pe_slice sl_tupU (pv 1) po_none (po_some (pv 3))) (pe_tup (pa_c pe_non pa_nil))) (pe_slice sl_tupU (pv 1) (po_some (pv 3)) po_none)⟩
          (ab_c ⟨pe_callTy (call_dict_rows rfl) rfl Td boot_dict (pa_c (pe_comp ["_law_one"] [none] rfl (pi_str pe_str) (fun C fp pins s₂ H₂ => ⟨pg_name (i := 0) (nd1 _) rfl (Or.inl rfl), pts_nil, pe_tup (pa_c (pv 0) (pa_c pe_int pa_nil))⟩) (fun C => trivial) ⟨rfl, rfl, rfl, rfl⟩) pa_nil)⟩ aa_nil))))))
      (bss_one (bs_ret (be_ix ix_list (be_op op_cat ⟨pv 4⟩ (be_lst (ab_c be_non aa_nil))) ⟨pv 2⟩ (fun _ _ => rfl))))))) ?_
    have hlen : (ns.map V.int).length = ns.length := List.length_map _
    refine rd_seq ?_
    refine ⟨_, rfl, st, 9, rfl, hst, by decide, by decide, fun r1 a b c r10 r11 a0 b0 b1 => ?_⟩
    have g2 := (Dr.refl hst).draw (c := c) a0 b0 b1
    have ep2 := g2.tups hst _ _ ep
    generalize upd H st (.lst [.int a, .int b, .int c]) = H2 at g2 ep2 ⊢
    refine ⟨_, rfl, _, rfl, p, _, rfl, .inr (SqT.of ep2), _, _, rfl, rfl, st, _, rfl, g2.sa, by rw [hlen]; omega, by rw [hlen]; omega, fun r2 a b c r20 r21 a0 b0 b1 => ⟨_, _, rfl, ?_⟩⟩
    rw [hlen] at r21
    have g3 := g2.draw (c := c) a0 b0 b1
    have ep3 := ((Dr.refl g2.sa).draw (c := c) a0 b0 b1).tups g2.sa _ _ ep2
    generalize upd H2 st (.lst [.int a, .int b, .int c]) = H3 at g3 ep3 ⊢
    clear ep2 g2
    dsimp only
    have hS : ∀ H', Same H3 H' → ∀ p, H' p = none → p ≠ sysModules → SS st p := fun H' s p hp np => by
      obtain ⟨a, b, c, e, _⟩ := g3.sa
      refine ⟨fun z => ?_, np⟩
      rw [z, s _ _ e] at hp
      cases hp
    have bI : ∀ v ∈ ns.map V.int, scV v := sc_ints fun n hn => by have := bn n hn; omega
    have cl := fun lo hi => cutV_length (ns.map V.int) lo hi
    have evI : ∀ (i : Nat) (n : Int) (σ : St), σ[i]? = some (some (.int n)) → ∀ H', Ev σ H' (tVar i) (.int n) := fun i n σ h H' => ev_v h
    refine rd_seq ?_
    refine rd_asg ?_
    refine rd_lst ?_
    have l80 : (ns.map V.int).length ≤ 80 := by rw [hlen]; exact l2
    have l1k : (ns.map V.int).length ≤ 1000 := by omega
    have A1 : ThA (SS st) [some (.ref st), some (.ref p), some (.int r1), some (.int r2), none] H3 _ _ :=
      th_cons (th_lof (K := K) (i := 1) rfl ep3 (fun H' => ths_sc bI) hS)
      (th_cons (th_tu (tu_catS (tu_sl (tu_v (i := 1) rfl ep3) pt_none (pt_v (i := 3) rfl)) (tu_sl (tu_v (i := 1) rfl ep3) (pt_v1 (i := 3) rfl) pt_none) (cut_le l80) (cut_le l80)) fun H' => ths_sc (sc_app (sc_cut bI _ _) (sc_cut bI _ _)))
      (th_cons (th_tu (tu_rev (K := K) (tu_v (i := 1) rfl ep3)) fun H' => ths_sc fun v hv => bI v (List.mem_reverse.mp hv))
      (th_cons (th_tu (tu_catS (tu_v (i := 1) rfl ep3) (tu_sl (tu_v (i := 1) rfl ep3) pt_m1 pt_none) l1k (cut_le l80)) fun H' => ths_sc (sc_app bI (sc_cut bI _ _)))
      (th_cons (th_tu (tu_catS (tu_sl (tu_v (i := 1) rfl ep3) pt_none (pt_v (i := 3) rfl)) (tu_sl (tu_v (i := 1) rfl ep3) pt_none (pt_c (n := 1))) (cut_le l80) (cut_le l80)) fun H' => ths_sc (sc_app (sc_cut bI _ _) (sc_cut bI _ _))) th_nil))))
    refine A1 H3 (Same.refl _) _ fun vs1 H4 s4 t4 => ?_
    refine ⟨?_, fun L1 hL1 => ?_⟩
    · rw [t4.length]
      show 5 ≤ sizeLine
      decide
    refine rd_name ?_
    dsimp only
    have s5 := s4.updR (o := .lst vs1) hL1
    have eL1 := upd_same (H := H4) (a := L1) (o := .lst vs1)
    have t5 := t4.same (Same.upd (o := .lst vs1) hL1)
    generalize upd H4 L1 _ = H5 at s5 eL1 t5 ⊢
    clear t4 s4 hL1
    have ep5 := s5 _ _ ep3
    have hS5 : ∀ H', Same H5 H' → ∀ p, H' p = none → p ≠ sysModules → SS st p := fun H' s => hS H' (s5.trans s)
    refine rd_seq ?_
    refine rd_asg ?_
    refine ⟨_, rfl, ?_⟩
    refine rd_lst ?_
    have A2 : ThA (SS st) [some (.ref st), some (.ref p), some (.int r1), some (.int r2), some (.ref L1)] H5 _ _ :=
      th_cons (th_tu (tu_catS (tu_sl (tu_v (i := 1) rfl ep5) (pt_v (i := 3) rfl) pt_none) (tu_sl (tu_v (i := 1) rfl ep5) pt_none (pt_v (i := 3) rfl)) (cut_le l80) (cut_le l80)) fun H' => ths_sc (sc_app (sc_cut bI _ _) (sc_cut bI _ _)))
      (th_cons (th_tu (tu_cat (tu_catS (tu_sl (tu_v (i := 1) rfl ep5) pt_none (pt_v (i := 3) rfl)) (tu_one (v := .non) fun H' => ev_c) (cut_le l80) (by show 1 ≤ 1000; decide)) (tu_sl (tu_v (i := 1) rfl ep5) (pt_v (i := 3) rfl) pt_none) (by have := cut_le (lo := none) (hi := some r2) l80; have := cut_le (lo := some r2) (hi := none) l80; rw [List.length_append]; show _ + 1 + _ ≤ 4000; omega)) fun H' => ths_sc (sc_app (sc_app (sc_cut bI _ _) sc_non) (sc_cut bI _ _)))
      (th_cons (th_ab (src := [none]) rfl hS5) th_nil))
    refine A2 H5 (Same.refl _) _ fun vs2 H6 s6 t6 => ?_
    refine ⟨?_, fun L2 hL2 => ?_⟩
    · rw [t6.length]
      show 3 ≤ sizeLine
      decide
    have m6 := Same.upd (o := .lst vs2) hL2
    have e1 := m6 _ _ (s6 _ _ eL1)
    refine ⟨L1, L2, vs1, vs2, rfl, rfl, e1, upd_same, ?_, fun L3 hL3 => ?_⟩
    · rw [t5.length, t6.length]
      show 8 ≤ sizeLine
      decide
    have s7 := ((s5.trans s6).updR (o := .lst vs2) hL2).updR (o := .lst (vs1 ++ vs2)) hL3
    have t7 := ((t5.same s6).append t6).same (m6.updR (o := .lst (vs1 ++ vs2)) hL3)
    have eL3 := upd_same (H := upd H6 L2 (.lst vs2)) (a := L3) (o := .lst (vs1 ++ vs2))
    generalize upd (upd H6 L2 _) L3 _ = H7 at s7 t7 eL3 ⊢
    refine rd_name ?_
    dsimp only
    refine rd_ret ?_
    refine ⟨_, rfl, (by show 1 ≤ sizeLine; decide), fun L4 hL4 => ?_⟩
    have m8 := Same.upd (o := .lst [V.non]) hL4
    refine ⟨L3, L4, _, _, rfl, rfl, m8 _ _ eL3, upd_same, ?_, fun L5 hL5 => ?_⟩
    · rw [t7.length]
      show 9 ≤ sizeLine
      decide
    have s9 := (s7.updR (o := .lst [V.non]) hL4).updR (o := .lst (vs1 ++ vs2 ++ [V.non])) hL5
    have t9 := (t7.append (.cons .non .nil)).same (m8.updR (o := .lst (vs1 ++ vs2 ++ [V.non])) hL5)
    have eL5 := upd_same (H := upd H7 L4 (.lst [V.non])) (a := L5) (o := .lst (vs1 ++ vs2 ++ [V.non]))
    generalize upd (upd H7 L4 _) L5 _ = H9 at s9 t9 eL5 ⊢
    obtain ⟨v, d, hv, hd, tv⟩ := ths_at (i := r1.toNat) t9 (by show r1.toNat < 9; omega)
    have y1 := atI_nat hv
    rw [show ((r1.toNat : Nat) : Int) = r1 by omega] at y1
    refine ⟨_, rfl, L5, _, r1, v, rfl, rfl, SqL.of eL5, y1, q v d H9 (g3.same s9) ?_ tv⟩
    simp only [List.cons_append, List.nil_append, List.mem_cons, List.not_mem_nil, or_false] at hd
    have cl2 := fun (a b c e : Option Int) => show (cutV (ns.map V.int) a b ++ cutV (ns.map V.int) c e).length ≤ 250 by rw [List.length_append]; have := cl a b; have := cl c e; omega
    rcases hd with rfl | rfl | rfl | rfl | rfl | rfl | rfl | rfl | rfl
    · exact (sc_ok bI (by omega)).2
    · exact (sc_ok (sc_app (sc_cut bI _ _) (sc_cut bI _ _)) (cl2 _ _ _ _)).1
    · exact (sc_ok (fun v hv => bI v (List.mem_reverse.mp hv)) (by rw [List.length_reverse]; omega)).1
    · exact (sc_ok (sc_app bI (sc_cut bI _ _)) (by rw [List.length_append]; have := cl (some (-1)) none; omega)).1
    · exact (sc_ok (sc_app (sc_cut bI _ _) (sc_cut bI _ _)) (cl2 _ _ _ _)).1
    · exact (sc_ok (sc_app (sc_cut bI _ _) (sc_cut bI _ _)) (cl2 _ _ _ _)).1
    · exact (sc_ok (sc_app (sc_app (sc_cut bI _ _) sc_non) (sc_cut bI _ _)) (by rw [List.length_append, List.length_append]; have := cl none (some r2); have := cl (some r2) none; show _ + 1 + _ ≤ 250; omega)).1
    · exact ⟨by decide +kernel, by decide⟩
    · exact ⟨rfl, by decide⟩
end
end K11

set_option Elab.async false
set_option linter.all false
set_option maxRecDepth 100000
set_option maxHeartbeats 800000
namespace K11
open PySem L2
theorem boot_str : bootBuiltins "str" = some (.type "str") := by decide +kernel
/-- t != () of a tuple of ints -/
theorem op_neT {X : Cx} (hu : X.A.units + 64 < cLine) : OpR X (compareOp .NotEq) (fun x y H Q => ∃ (a b : Addr) (ns : List Int), x = .ref a ∧ y = .ref b ∧ H a = some (.tup (ns.map V.int)) ∧ H b = some (.tup []) ∧ Q (.bl (!decide (ns = []))) H) := by
  intro pins s σ H x y v u Q I rx ry h
  obtain ⟨a, b, ns, rfl, rfl, ha, hb, q⟩ := h
  obtain ⟨as, ra, _⟩ := (IsTh.tup (S := fun _ => False) ha (IsThs.ints ns)).reads I rx
  obtain ⟨bs, rb, _⟩ := (IsTh.tup (S := fun _ => False) hb .nil).reads I ry
  have h1 : SeqAt.shaped (.tuple (ns.map PyData.int)) = true := by
    simp [SeqAt.shaped, PyData.canLay0, PyData.depth, PySem.W.ke_canLayAll0, PySem.W.ke_depthAll]
  have h2 : SeqAt.shaped (.tuple []) = true := rfl
  have h3 : SeqAt.noMix (.tuple (ns.map PyData.int)) (.tuple []) = true := by
    cases ns <;> simp [SeqAt.noMix, SeqAt.noMixAll]
  have h4 : PySem.Spec.same (.tuple (ns.map PyData.int)) (.tuple []) = decide (ns = []) := by
    have := PySem.W.ke_sameAll ns []
    simp only [PySem.Spec.same]
    exact this
  refine PyProof.Rows.ne_dataH_same ra rb h1 h2 hu h3 ?_
  rw [h4]
  exact ⟨.bl _, H, I, rfl, q⟩
theorem strs_ok : ∀ i : Fin 100, tame (.str (Str.ofString (toString ((i.val : Nat) : Int)))) = true := by decide +kernel
theorem str_ok {i : Int} (h0 : 0 ≤ i) (h1 : i ≤ 99) : tame (.str (Str.ofString (toString i))) = true := by
  have := strs_ok ⟨i.toNat, by omega⟩
  rw [show (((⟨i.toNat, by omega⟩ : Fin 100).val : Nat) : Int) = i by show ((i.toNat : Nat) : Int) = i; omega] at this
  exact this
theorem room64 {A : Around} {k : Nat} (hr : Room k A) : A.units + 64 < cLine := by
  have := hr.un
  omega
theorem log_ok {i : Int} (h0 : 0 ≤ i) (h1 : i ≤ 99) : i.natAbs.log2 < 1920 := by
  have : i.natAbs < 2 ^ 128 := by omega
  by_cases z : i.natAbs = 0
  · rw [z]; decide
  · exact Nat.lt_trans ((Nat.log2_lt z).mpr this) (by decide)
def BT0 (d : PyData) : Prop := tame d = true ∧ sz d ≤ 2
def spBent0 : Sp := fun vs H Q _ => ∃ st i k, vs = [.ref st, .int i, .int k] ∧ StAt H st ∧ 0 ≤ i ∧ i ≤ 99 ∧ ∀ v d H', Dr st H H' → BT0 d → IsTh (SS st) H' v d → Q v H'
def spBent : Sp := fun vs H Q _ => ∃ st p ns, vs = [.ref st, .ref p, .int 1] ∧ StAt H st ∧ H p = some (.tup ((ns : List Int).map V.int)) ∧ 1 ≤ ns.length ∧ ns.length ≤ 80 ∧ (∀ n ∈ ns, 0 ≤ n ∧ n ≤ 99) ∧ ∀ v d H', Dr st H H' → BT d → IsTh (SS st) H' v d → Q v H'
theorem kit_str {K : PySem.W.Frag} : PySem.W.kitOne K (.type "int") (.type "str") = some false := by kernel_rfl
theorem th_ev0 {S : Addr → Prop} {σ : St} {H : Hp} {t : TE} {v : V} {d : PyData} (h : ∀ H', Ev σ H' t v) (hd : ∀ H', IsTh S H' v d) : ThE S σ H t d := fun H0 _ Q q => h H0 _ (q _ H0 (Same.refl _) (hd H0))
theorem tames_app : ∀ {a b : List PyData}, tames a = true → tames b = true → tames (a ++ b) = true
  | [], _, _, h => h
  | x :: a, b, h, h' => by
    have h : (tame x && tames a) = true := h
    rw [Bool.and_eq_true] at h
    show (tame x && tames (a ++ b)) = true
    rw [h.1, tames_app h.2 h']
    rfl
theorem szs_app : ∀ {a b : List PyData}, szs (a ++ b) = szs a + szs b
  | [], b => by show szs b = 0 + szs b; omega
  | x :: a, b => by
    show sz x + szs (a ++ b) = sz x + szs a + szs b
    rw [szs_app]
    omega
section
variable {P : Program} {w : World} {K : PySem.W.Frag} {mg : Str → Option Value} {base : Heap}
theorem scC : FnScope ["_law_state_here", "_law_thing", "_law_deep", "_law_at"] ["_law_state_here", "_law_thing", "_law_deep"] (defScope (top 25)) := ⟨rfl, rfl, rfl, by decide +kernel, rfl, by decide +kernel, by decide +kernel⟩
theorem ok_bent0 {f : Addr} {fd : FuncData} (F : Fun K "_law_bent" "_law_bent" (top 25) f fd) (T : Mg mg) (Tt : mg "str" = none) (c1 : Cal P w K mg base 1 "_law_choice" ["_law_state_here", "_law_many"] spChoice) : FnOk P w K mg base CX0 2 f fd ["_law_state_here", "_law_thing", "_law_deep"] spBent0 := by
  refine F.ok scC (fun vs H Q E h => ?_) (fun cdv A outer s H vs Q E hr h => ?_)
  · obtain ⟨st, i, k, rfl, _⟩ := h
    rfl
  · obtain ⟨st, i, k, rfl, hst, i0, i1, q⟩ := h
    refine ok_b (bss_cons ⟨ps_if (PW.pt (pw_and (pt_val (pe_callB call_isinst rfl T.isinstance boot_isinstance (pa_c (pv 1) (pa_c (pe_bltn rfl T.tuple boot_tuple (v := .ty "tuple") rfl) pa_nil)))) (pw_and (pt_cmpR (op_neT (room64 hr)) (pv 1) (pe_tup pa_nil) (nomark _)) (pw_and (pt_cmpR op_gt (pv 2) pe_int (nomark _)) (pw_and1 (pt_cmpR op_gt (pe_cal c1 hr (by decide) rfl (pa_c (pv 0) (pa_c pe_int pa_nil))) pe_int (nomark _))))))) (pss_cons ps_never (pss_one ps_never)) pss_nil⟩
      (bss_cons ⟨ps_if (pt_val (pe_callB call_isinst rfl T.isinstance boot_isinstance (pa_c (pv 1) (pa_c (pe_bltn rfl T.tuple boot_tuple (v := .ty "tuple") rfl) pa_nil)))) (pss_one ps_never) pss_nil⟩
      (bss_cons ⟨ps_if (pt_val (pe_callB call_isinst rfl T.isinstance boot_isinstance (pa_c (pv 1) (pa_c (pe_bltn rfl Tt boot_str (v := .ty "str") rfl) pa_nil)))) (pss_one ps_never) pss_nil⟩
      (bss_one (bs_ret (be_ix ix_list (be_lst (ab_c (be_op op_add ⟨pv 1⟩ be_int) (ab_c (be_op op_sub ⟨pv 1⟩ be_int) (ab_c (be_op op_sub be_int ⟨pv 1⟩) (ab_c be_non (ab_c ⟨pe_callTy call_str_int rfl Tt boot_str (pa_c (pv 1) pa_nil)⟩ (ab_c ⟨pe_cmpR op_eq (pv 1) pe_int (nomark _)⟩ (ab_c ⟨pe_tup (pa_c (pv 1) pa_nil)⟩ (ab_c be_int aa_nil)))))))))
        ⟨pe_cal c1 hr (by decide) rfl (pa_c (pv 0) (pa_c pe_int pa_nil))⟩ (fun _ _ => rfl))))))) ?_
    refine rd_seq ?_
    refine ⟨_, rfl, _, _, "tuple", false, rfl, (IsTh.int (S := SS st) (H := H) i).ty, kit_tup (.int i), _, rfl, ?_⟩
    refine iteF ?_
    refine iteF ?_
    refine rd_next ?_
    dsimp only
    refine rd_seq ?_
    refine ⟨_, rfl, _, _, "tuple", false, rfl, (IsTh.int (S := SS st) (H := H) i).ty, kit_tup (.int i), _, rfl, ?_⟩
    refine iteF ?_
    refine rd_next ?_
    dsimp only
    refine rd_seq ?_
    refine ⟨_, rfl, _, _, "str", false, rfl, (IsTh.int (S := SS st) (H := H) i).ty, kit_str, _, rfl, ?_⟩
    refine iteF ?_
    refine rd_next ?_
    dsimp only
    refine rd_ret ?_
    refine rd_lst ?_
    have ev1 : ∀ H', Ev [some (.ref st), some (.int i), some (.int k), none] H' (tVar 1) (.int i) := fun H' => ev_v rfl
    have A1 : ThA (SS st) [some (.ref st), some (.int i), some (.int k), none] H _ _ :=
      th_cons (th_ev (t := tOp (rI0 fun i j => .int (i + j)) (tVar 1) (tC (.int 1))) (i := i + 1) fun H' => ev_op0 (g := fun i j => .int (i + j)) (ev1 H') (ev_c (v := .int 1)))
      (th_cons (th_ev (i := i - 1) fun H' => ev_op0 (g := fun i j => .int (i - j)) (ev1 H') (ev_c (v := .int 1)))
      (th_cons (th_ev (i := 0 - i) fun H' => ev_op0 (g := fun i j => .int (i - j)) (ev_c (v := .int 0)) (ev1 H'))
      (th_cons th_non
      (th_cons (th_ev0 (t := tCB (fun xs H Q => ∃ i, xs = [.int i] ∧ i.natAbs.log2 < 1920 ∧ Q (.str (toString i)) H) (tCons (tVar 1) tNil)) (v := .str (toString i)) (fun H' Q h => ⟨_, rfl, i, rfl, log_ok i0 i1, h⟩) (fun H' => .str _))
      (th_cons (th_ev0 (t := tOp rEq (tVar 1) (tC (.int 1))) (v := .bl (decide (V.int i = V.int 1))) (fun H' Q h => ⟨_, rfl, rfl, h⟩) (fun H' => .bl _))
      (th_cons (th_tu (tu_one ev1) fun H' => .cons (.int i) .nil)
      (th_cons (th_int (i := 7)) th_nil)))))))
    refine A1 H (Same.refl _) _ fun vs1 H4 s4 t4 => ?_
    refine ⟨?_, fun L1 hL1 => ?_⟩
    · rw [t4.length]
      show 8 ≤ sizeLine
      decide
    have g5 := (Dr.refl hst).same (s4.updR (o := .lst vs1) hL1)
    have eL1 := upd_same (H := H4) (a := L1) (o := .lst vs1)
    have t5 := t4.same (Same.upd (o := .lst vs1) hL1)
    have nL1 : L1 ≠ st := ((Dr.refl hst).same s4).ne hL1
    generalize upd H4 L1 _ = H5 at g5 eL1 t5 ⊢
    refine ⟨_, rfl, st, 8, rfl, g5.sa, by decide, by decide, fun r a b c r0 r1 a0 b0 b1 => ?_⟩
    have g6 := g5.draw (c := c) a0 b0 b1
    have t6 := Dr.thsS ((Dr.refl g5.sa).draw (c := c) a0 b0 b1) g5.sa t5
    have eL6 : upd H5 st (.lst [.int a, .int b, .int c]) L1 = some (.lst vs1) := by rw [upd_ne nL1]; exact eL1
    generalize upd H5 st (.lst [.int a, .int b, .int c]) = H6 at g6 t6 eL6 ⊢
    obtain ⟨v, d, hv, hd, tv⟩ := ths_at (i := r.toNat) t6 (by show r.toNat < 8; omega)
    have y1 := atI_nat hv
    rw [show ((r.toNat : Nat) : Int) = r by omega] at y1
    refine ⟨L1, _, r, v, rfl, rfl, SqL.of eL6, y1, q v d H6 g6 ?_ tv⟩
    simp only [List.mem_cons, List.not_mem_nil, or_false] at hd
    have ti : ∀ j : Int, -100 ≤ j → j ≤ 1000 → BT0 (.int j) := fun j h1 h2 => ⟨decide_eq_true (show j.natAbs < 2 ^ 128 by omega), by show 1 ≤ 2; decide⟩
    rcases hd with rfl | rfl | rfl | rfl | rfl | rfl | rfl | rfl
    · exact ti _ (by omega) (by omega)
    · exact ti _ (by omega) (by omega)
    · exact ti _ (by omega) (by omega)
    · exact ⟨rfl, by decide⟩
    · exact ⟨str_ok i0 i1, by show 1 ≤ 2; decide⟩
    · exact ⟨rfl, by show 1 ≤ 2; decide⟩
    · refine ⟨?_, by show 1 + (1 + 0) ≤ 2; decide⟩
      show (tame (.int i) && true) = true
      rw [(ti i (by omega) (by omega)).1]
      rfl
    · exact ti _ (by omega) (by omega)
end
end K11

set_option Elab.async false
set_option linter.all false
set_option maxRecDepth 100000
set_option maxHeartbeats 800000
namespace K11
open PySem L2
section
variable {P : Program} {w : World} {K : PySem.W.Frag} {mg : Str → Option Value} {base : Heap}
theorem ok_bent {f : Addr} {fd : FuncData} (F : Fun K "_law_bent" "_law_bent" (top 25) f fd) (T : Mg mg) (Tt : mg "str" = none) (c1 : Cal P w K mg base 1 "_law_choice" ["_law_state_here", "_law_many"] spChoice) (c2 : Cal P w K mg base 2 "_law_row_bent" ["_law_state_here", "_law_things"] spRowB)
    (hm : mg "_law_bent" = some (.ref f)) (hb : Binds K fd ["_law_state_here", "_law_thing", "_law_deep"] []) : FnOk P w K mg base CX0 3 f fd ["_law_state_here", "_law_thing", "_law_deep"] spBent := by
  have c0 : Cal P w K mg base 2 "_law_bent" ["_law_state_here", "_law_thing", "_law_deep"] spBent0 := ⟨f, fd, ok_bent0 F T Tt c1, hm, F.kp, hb⟩
  refine F.ok scC (fun vs H Q E h => ?_) (fun cdv A outer s H vs Q E hr h => ?_)
  · obtain ⟨st, p, ns, rfl, _⟩ := h
    rfl
  · obtain ⟨st, p, ns, rfl, hst, ep, l1, l2, bn, q⟩ := h
    refine ok_b (bss_cons ⟨ps_if (PW.pt (pw_and (pt_val (pe_callB call_isinst rfl T.isinstance boot_isinstance (pa_c (pv 1) (pa_c (pe_bltn rfl T.tuple boot_tuple (v := .ty "tuple") rfl) pa_nil)))) (pw_and (pt_cmpR (op_neT (room64 hr)) (pv 1) (pe_tup pa_nil) (nomark _)) (pw_and (pt_cmpR op_gt (pv 2) pe_int (nomark _)) (pw_and1 (pt_cmpR op_gt (pe_cal c1 hr (by decide) rfl (pa_c (pv 0) (pa_c pe_int pa_nil))) pe_int (nomark _)))))))
        (pss_cons (ps_set (i := 3) scC.nd rfl (Or.inl rfl) (pe_cal c1 hr (by decide) rfl (pa_c (pv 0) (pa_c (pe_callB call_len_seq rfl T.len PySem.boot_len (pa_c (pv 1) pa_nil)) pa_nil))))
        (pss_one (ps_ret (pe_op op_catU (pe_op op_catU (pe_slice sl_tupU (pv 1) po_none (po_some (pv 3))) (pe_tup (pa_c (pe_cal c0 hr (by decide) rfl (pa_c (pv 0) (pa_c (pe_ix ix_tup (pv 1) (pv 3) (fun _ _ => rfl)) (pa_c (pe_op op_sub (pv 2) pe_int) pa_nil)))) pa_nil))) (pe_slice sl_tupU (pv 1) (po_some (pe_op op_add (pv 3) pe_int)) po_none))))) pss_nil⟩
      (bss_cons ⟨ps_if (pt_val (pe_callB call_isinst rfl T.isinstance boot_isinstance (pa_c (pv 1) (pa_c (pe_bltn rfl T.tuple boot_tuple (v := .ty "tuple") rfl) pa_nil)))) (pss_one (ps_ret (pe_cal c2 hr (by decide) rfl (pa_c (pv 0) (pa_c (pv 1) pa_nil))))) pss_nil⟩
      (bss_cons ⟨ps_never⟩ (bss_one ⟨ps_never⟩)))) ?_
    have hlen : (ns.map V.int).length = ns.length := List.length_map _
    have tp := IsTh.tup (S := SS st) ep (IsThs.ints ns)
    refine rd_seq ?_
    refine ⟨_, rfl, _, _, "tuple", true, rfl, tp.ty, kit_tup (.tuple (ns.map PyData.int)), _, rfl, ?_⟩
    refine iteT ?_
    refine ⟨_, rfl, (by show 0 ≤ sizeLine; decide), fun e0 he0 => ?_⟩
    have s1 := Same.upd (o := .tup []) he0
    have ee := upd_same (H := H) (a := e0) (o := .tup [])
    have hst1 : StAt (upd H e0 (.tup [])) st := ((Dr.refl hst).same s1).sa
    have g1 := (Dr.refl hst).same s1
    have ep1 := s1 _ _ ep
    generalize upd H e0 (.tup []) = H1 at s1 ee hst1 g1 ep1 ⊢
    refine ⟨p, e0, ns, rfl, rfl, ep1, ee, _, rfl, ?_⟩
    rw [decide_eq_false (fun z : ns = [] => by rw [z] at l1; exact absurd l1 (by decide))]
    refine iteT ?_
    refine ⟨_, rfl, _, _, rfl, rfl, _, rfl, ?_⟩
    refine iteT ?_
    refine ⟨_, rfl, st, 4, rfl, hst1, by decide, by decide, fun r a b c r0 r1 a0 b0 b1 => ⟨_, _, rfl, rfl, _, rfl, ?_⟩⟩
    have g2 := g1.draw (c := c) a0 b0 b1
    have ep2 := ((Dr.refl hst1).draw (c := c) a0 b0 b1).tups hst1 _ _ ep1
    generalize upd H1 st (.lst [.int a, .int b, .int c]) = H2 at g2 ep2 ⊢
    clear g1 hst1 ep1 ee
    by_cases gr : 0 < r
    · rw [decide_eq_true gr]
      refine iteT ?_
      refine rd_seq ?_
      refine rd_asg ?_
      refine ⟨_, rfl, _, rfl, p, _, rfl, .inr (SqT.of ep2), st, _, rfl, g2.sa, by rw [hlen]; omega, by rw [hlen]; omega, fun r2 a b c r20 r21 a0 b0 b1 => ?_⟩
      rw [hlen] at r21
      have g3 := g2.draw (c := c) a0 b0 b1
      have ep3 := ((Dr.refl g2.sa).draw (c := c) a0 b0 b1).tups g2.sa _ _ ep2
      generalize upd H2 st (.lst [.int a, .int b, .int c]) = H3 at g3 ep3 ⊢
      refine rd_name ?_
      dsimp only
      refine rd_ret ?_
      have i2 : r2.toNat < ns.length := by omega
      have x2 : (ns.map V.int)[r2.toNat]? = some (.int ns[r2.toNat]) := by rw [List.getElem?_map, List.getElem?_eq_getElem i2]; rfl
      have y2 := atI_nat x2
      rw [show ((r2.toNat : Nat) : Int) = r2 by omega] at y2
      have b2 := bn _ (List.getElem_mem i2)
      refine ⟨_, rfl, _, rfl, _, rfl, p, _, rfl, ep3, fun c4 H4 s4 e4 => ?_⟩
      have g4 := g3.same s4
      have ep4 := s4 _ _ ep3
      refine ⟨_, rfl, _, rfl, _, rfl, p, _, r2, _, rfl, rfl, SqT.of ep4, y2, _, rfl, _, _, rfl, rfl, st, _, _, rfl, g4.sa, b2.1, b2.2, fun v d H5 g5 bd tv => ?_⟩
      have e5 := g5.tups g4.sa _ _ e4
      have ep5 := g5.tups g4.sa _ _ ep4
      have g5' := g4.trans g5
      refine ⟨(by show 1 ≤ sizeLine; decide), fun t6 ht6 => ?_⟩
      have m6 := Same.upd (o := .tup [v]) ht6
      have e6 := m6 _ _ e5
      have ep6 := m6 _ _ ep5
      have ev6 := upd_same (H := H5) (a := t6) (o := .tup [v])
      have g6 := g5'.same m6
      have tv6 := tv.same m6
      generalize upd H5 t6 (.tup [v]) = H6 at e6 ep6 ev6 g6 tv6 ⊢
      have cl := fun lo hi => cutV_length (ns.map V.int) lo hi
      refine ⟨c4, t6, _, _, rfl, rfl, e6, ev6, by have := cl none (some r2); rw [sizeLine_eq]; show _ + 1 ≤ _; omega, fun c7 H7 s7 e7 => ?_⟩
      refine ⟨_, rfl, _, rfl, _, _, rfl, rfl, _, rfl, p, _, rfl, s7 _ _ ep6, fun c8 H8 s8 e8 => ?_⟩
      refine ⟨c7, c8, _, _, rfl, rfl, s8 _ _ e7, e8, by have := cl none (some r2); have := cl (some (r2 + 1)) none; rw [sizeLine_eq, List.length_append]; show _ + 1 + _ ≤ _; omega, fun c9 H9 s9 e9 => ?_⟩
      have bI : ∀ v ∈ ns.map V.int, scV v := sc_ints fun n hn => by have := bn n hn; omega
      refine q (.ref c9) (.tuple ((cutV (ns.map V.int) none (some r2)).map vD ++ [d] ++ (cutV (ns.map V.int) (some (r2 + 1)) none).map vD)) H9 (((g6.same s7).same s8).same s9) ?_ (.tup e9 (((ths_sc (sc_cut bI _ _)).append (.cons (((tv6.same s7).same s8).same s9) .nil)).append (ths_sc (sc_cut bI _ _))))
      have o1 := (sc_ok (sc_cut bI none (some r2)) (by have := cl none (some r2); omega)).1
      have o2 := (sc_ok (sc_cut bI (some (r2 + 1)) none) (by have := cl (some (r2 + 1)) none; omega)).1
      refine ⟨tames_app (tames_app o1.1 ?_) o2.1, ?_⟩
      · show (tame d && true) = true
        rw [bd.1]
        rfl
      · show 1 + szs _ ≤ 300
        rw [szs_app, szs_app, szs_one fun e he => by obtain ⟨v, hv, rfl⟩ := List.mem_map.mp he; exact (vD_ok (sc_cut bI _ _ v hv)).2, szs_one (ds := (cutV (ns.map V.int) (some (r2 + 1)) none).map vD) fun e he => by obtain ⟨v, hv, rfl⟩ := List.mem_map.mp he; exact (vD_ok (sc_cut bI _ _ v hv)).2]
        have := bd.2
        have := cl none (some r2)
        have := cl (some (r2 + 1)) none
        rw [List.length_map, List.length_map]
        show 1 + (_ + (sz d + 0) + _) ≤ 300
        omega
    · rw [decide_eq_false gr]
      refine iteF ?_
      refine rd_next ?_
      dsimp only
      refine rd_seq ?_
      refine ⟨_, rfl, _, _, "tuple", true, rfl, (IsTh.tup (S := SS st) ep2 (IsThs.ints ns)).ty, kit_tup (.tuple (ns.map PyData.int)), _, rfl, ?_⟩
      refine iteT ?_
      refine rd_ret ?_
      exact ⟨_, rfl, _, rfl, st, p, ns, rfl, g2.sa, ep2, l1, l2, bn, fun v d H' g bd tv => q v d H' (g2.trans g) bd tv⟩
end
end K11

set_option Elab.async false
set_option linter.all false
set_option maxRecDepth 100000
set_option maxHeartbeats 1000000
namespace K11
open PySem L2
theorem bt_w {ms : List Int} (h : ∀ m ∈ ms, -2 ≤ m ∧ m ≤ 101) (hl : ms.length ≤ 250) : BT (wD ms) := by
  have := (sc_ok (sc_ints h) (by rw [List.length_map]; exact hl)).1
  rw [List.map_map] at this
  exact this
theorem tu_rep {K : PySem.W.Frag} {σ : St} {H : Hp} {ta tk : TE} {v : V} {k : Int} (ha : TuE σ H ta [v]) (hk : ∀ H', Same H H' → Ev σ H' tk (.int k)) (h0 : 0 ≤ k) (h1 : k ≤ 1000) : TuE σ H (tOp (rRepT K) ta tk) (List.replicate k.toNat [v]).flatten := fun H0 s0 Q q => by
  refine ha H0 s0 _ fun c H1 s1 e1 => hk H1 (s0.trans s1) _ ⟨c, k, [v], rfl, rfl, SqT.of e1, by simp, by show 1 ≤ 1000; decide, ?_⟩
  by_cases z : k = 1
  · subst z
    exact .inl ⟨rfl, q c H1 s1 e1⟩
  · refine .inr ⟨by omega, fun p hp => q p _ (s1.updR hp) upd_same⟩
theorem rep_sc {k : Nat} : ∀ v ∈ (List.replicate k [V.int 0]).flatten, scV v := fun v hv => by
  obtain ⟨l, hl, hv⟩ := List.mem_flatten.mp hv
  rw [List.eq_of_mem_replicate hl] at hv
  rw [List.mem_singleton.mp hv]
  exact ⟨by decide, by decide⟩
theorem rep_len {k : Nat} : (List.replicate k [V.int 0]).flatten.length = k := by
  rw [List.length_flatten]
  simp
theorem op_subE {σ : St} {H : Hp} {ta : TE} {i : Int} (h : Ev σ H ta (.int i)) : Ev σ H (tOp (rI0 fun i j => .int (i - j)) ta (tC (.int 1))) (.int (i - 1)) := ev_op0 (g := fun i j => .int (i - j)) h ev_c
def S0 : Addr → Prop := fun a => a ≠ sysModules
theorem s0_no : ¬ S0 sysModules := fun h => h rfl
theorem th_s0 {st : Addr} {H : Hp} {v : V} {d : PyData} (t : IsTh (SS st) H v d) : IsTh S0 H v d := t.keep (fun _ _ e => e) (fun _ _ _ e => e) fun _ _ z _ => z.2
theorem ths_all {S : Addr → Prop} {H : Hp} {vs : List V} {ds : List PyData} {p : PyData → Prop} (h : IsThs S H vs ds) (hp : ∀ d ∈ ds, p d) {i : Nat} {v : V} (e : vs[i]? = some v) : ∃ d, p d ∧ IsTh S H v d := by
  obtain ⟨d, hd, t⟩ := h.get e
  exact ⟨d, hp d (List.mem_of_getElem? hd), t⟩
theorem res_all' {n : Int} {ws : List Int} (h : OkW ws) (n0 : 0 ≤ n) (n1 : n ≤ ws.sum) : ∀ r ∈ res n ws, 0 ≤ r ∧ r ≤ 99 := fun r hr => by
  obtain ⟨i, hi, e⟩ := List.getElem_of_mem hr
  have hw : i < ws.length := by rw [res_len] at hi; exact hi
  have := res_get h n0 n1 (by rw [List.getElem?_eq_getElem hi, e]) (List.getElem?_eq_getElem hw)
  have := h.2.2 _ (List.getElem_mem hw)
  omega
def spLaw (K : PySem.W.Frag) : Sp := fun vs H Q _ => ∃ (a : Addr) (ns : List Int), vs = [.ref a] ∧ SqL K H a (ns.map V.int) ∧ ns.length ≤ 63 ∧ ∀ H', Q (.bl true) H'
section
variable {P : Program} {w : World} {K : PySem.W.Frag} {mg : Str → Option Value} {base : Heap}
theorem scE : FnScope ["_law_script", "_law_k", "_law_state_here", "_law_weights_here", "_law_sacks", "_law_good", "_law_things", "_law_turn", "_law_thing", "_law_kept"] ["_law_script"] (defScope (top 29)) := ⟨rfl, rfl, rfl, by decide +kernel, rfl, by decide +kernel, by decide +kernel⟩
theorem ok_law {f : Addr} {fd : FuncData} (F : Fun K "law" "law" (top 29) f fd) (T : Mg mg) (Tr : mg "range" = none) (Tm : mg "max" = none) (Tn : mg "min" = none) (Ts : mg "sum" = none) (Tl : mg "list" = none) (Tp : mg "repr" = none)
    (c1 : Cal P w K mg base 2 "_law_state" ["_law_script", "_law_k"] (spState K)) (c2 : Cal P w K mg base 2 "_law_weights" ["_law_state_here"] spWeights) (c3 : Cal P w K mg base 1 "_law_choice" ["_law_state_here", "_law_many"] spChoice)
    (c4 : Cal P w K mg base 6 "parted" ["sacks", "weights"] spParts) (c5 : Cal P w K mg base 6 "is_fair" ["sacks", "weights", "thing"] spFair) (c6 : Cal P w K mg base 61 "_law_same" ["_law_found", "_law_due"] spSame) (c7 : Cal P w K mg base 1 "_law_is_fair" ["_law_sacks", "_law_weights_here", "_law_thing"] spFair)
    (c8 : Cal P w K mg base 2 "_law_moved" ["_law_state_here", "_law_parts"] spMoved) (c9 : Cal P w K mg base 3 "_law_bent" ["_law_state_here", "_law_thing", "_law_deep"] spBent) : FnOk P w K mg base CX0 63 f fd ["_law_script"] (spLaw K) := by
  refine F.ok scE (fun vs H Q E h => ?_) (fun cdv A outer s H vs Q E hr h => ?_)
  · obtain ⟨a, ns, rfl, _⟩ := h
    rfl
  · obtain ⟨a, ns, rfl, hS, hl, q⟩ := h
    refine ok_b (bss_cons ⟨ps_for PassesOwn.never rfl (pi_range1 rfl Tr (pa_c (pe_callB (call_max2 rfl) rfl Tm boot_max' (pa_c pe_int (pa_c (pe_callB (call_min2 rfl) rfl Tn boot_min' (pa_c (pe_callB call_len_seq rfl T.len PySem.boot_len (pa_c (pv 0) pa_nil)) (pa_c pe_int pa_nil))) pa_nil))) pa_nil)) (pg_name (i := 1) scE.nd rfl (Or.inl rfl))
        (pss_b (bss_cons ⟨ps_set (i := 2) scE.nd rfl (Or.inl rfl) (pe_cal c1 hr (by omega) rfl (pa_c (pv 0) (pa_c (pv 1) pa_nil)))⟩
        (bss_cons ⟨ps_set (i := 3) scE.nd rfl (Or.inl rfl) (pe_cal c2 hr (by omega) rfl (pa_c (pv 2) pa_nil))⟩
        (bss_cons ⟨ps_set (i := 4) scE.nd rfl (Or.inl rfl) (pe_cal c3 hr (by omega) rfl (pa_c (pv 2) (pa_c (pe_op op_add (pe_callB (call_sumL rfl) rfl Ts boot_sum (pa_c (pv 3) pa_nil)) pe_int) pa_nil)))⟩
        (bss_cons ⟨ps_set (i := 5) scE.nd rfl (Or.inl rfl) (pe_cal c4 hr (by omega) rfl (pa_c (pv 4) (pa_c (pv 3) pa_nil)))⟩
        (bss_cons ⟨ps_if (pt_cmpR op_isnotB (pe_cal c5 hr (by omega) rfl (pa_c (pv 4) (pa_c (pv 3) (pa_c (pv 5) pa_nil)))) pe_bl (nomark _)) (pss_one (ps_ret pe_bl)) pss_nil⟩
        (bss_cons (bs_set (i := 6) scE.nd rfl (Or.inl rfl) (be_lst (ab_c ⟨pv 5⟩ (ab_c ⟨pe_callTy call_list_ofS rfl Tl boot_list (pa_c (pv 5) pa_nil)⟩ (ab_c be_non (ab_c ⟨pe_rev (pv 5)⟩ (ab_c ⟨pv 3⟩ (ab_c ⟨pe_op op_catU (pe_tup (pa_c (pv 4) pa_nil)) (pe_op op_repT (pe_tup (pa_c pe_int pa_nil)) (pe_op op_sub (pe_callB call_len_seq rfl T.len PySem.boot_len (pa_c (pv 3) pa_nil)) pe_int))⟩ aa_nil))))))))
        (bss_cons ⟨ps_for PassesOwn.never rfl (pi_range1 rfl Tr (pa_c pe_int pa_nil)) (pg_name (i := 7) scE.nd rfl (Or.inl rfl))
          (pss_one (ps_set (i := 6) scE.nd rfl (Or.inl rfl) (pe_op op_cat (pv 6) (pe_lst (pa_c (pe_cal c8 hr (by omega) rfl (pa_c (pv 2) (pa_c (pv 5) pa_nil))) (pa_c (pe_cal c9 hr (by omega) rfl (pa_c (pv 2) (pa_c (pv 5) (pa_c pe_int pa_nil)))) pa_nil))))))⟩
        (bss_one ⟨ps_for PassesOwn.never rfl (pi_list (pv 6)) (pg_name (i := 8) scE.nd rfl (Or.inl rfl))
          (pss_cons (ps_set (i := 9) scE.nd rfl (Or.inl rfl) (pe_callB (call_repr (S := S0) hr.gd s0_no) rfl Tp boot_repr' (pa_c (pv 8) pa_nil)))
          (pss_cons (ps_if (pt_not (pt_val (pe_cal c6 hr (by omega) rfl (pa_c (pe_cal c5 hr (by omega) rfl (pa_c (pv 4) (pa_c (pv 3) (pa_c (pv 8) pa_nil)))) (pa_c (pe_cal c7 hr (by omega) rfl (pa_c (pv 4) (pa_c (pv 3) (pa_c (pv 8) pa_nil)))) pa_nil))))) (pss_one (ps_ret pe_bl)) pss_nil)
          (pss_one (ps_if (pt_cmpR op_ne (pe_callB (call_repr (S := S0) hr.gd s0_no) rfl Tp boot_repr' (pa_c (pv 8) pa_nil)) (pv 9) (nomark _)) (pss_one (ps_ret pe_bl)) pss_nil))))⟩)))))))))⟩
      (bss_one ⟨ps_ret pe_bl⟩)) ?_
    refine rd_seq ?_
    have hl' : (ns.map V.int).length ≤ 63 := by rw [List.length_map]; exact hl
    refine ⟨_, rfl, a, _, rfl, .inl hS, _, _, rfl, _, _, rfl, _, rfl, ?_, ?_, ?_⟩
    · split <;> split <;> omega
    · split <;> split <;> omega
    refine for_range (lo := 0) (fun i σ Hc => ∃ x1 x2 x3 x4 x5 x6 x7 x8 x9, σ = [some (.ref a), x1, x2, x3, x4, x5, x6, x7, x8, x9] ∧ Same H Hc) ?_ ?_ ?_
    · exact ⟨none, none, none, none, none, none, none, none, none, rfl, Same.refl H⟩
    · rintro i σ H1 hi ⟨x1, x2, x3, x4, x5, x6, x7, x8, x9, rfl, s1⟩
      refine rd_name ?_
      refine rd_seq ?_
      refine rd_asg ?_
      refine ⟨_, rfl, _, rfl, a, ns, _, rfl, s1.seq hS, by omega, fun st x y z hn hx0 hy0 hy1 => ?_⟩
      have nst : H st = none := s1.free hn
      have g1 : StAt (upd H1 st (.lst [.int x, .int y, .int z])) st := ⟨x, y, z, upd_same, hx0, hy0, hy1⟩
      have s2 : Same H (upd H1 st (.lst [.int x, .int y, .int z])) := s1.updR hn
      generalize upd H1 st (.lst [.int x, .int y, .int z]) = H2 at g1 s2 ⊢
      refine rd_name ?_
      dsimp only
      refine rd_seq ?_
      refine rd_asg ?_
      refine ⟨_, rfl, st, rfl, g1, fun c ws H3 g3 ok ec => ?_⟩
      refine rd_name ?_
      dsimp only
      have hp := ok.pos
      have ht := ok.top
      have hlw := ok.2.1
      have hlw1 := ok.1
      refine rd_seq ?_
      refine rd_asg ?_
      refine ⟨_, rfl, _, rfl, c, ws, rfl, .inr (SqT.of ec), _, _, rfl, rfl, st, _, rfl, g3.sa, (by show 1 ≤ ws.sum + 1; omega), (by show ws.sum + 1 < 1073741824; omega), fun n a1 b1 k1 n0 n1 a10 b10 b11 => ?_⟩
      have n1 : n < ws.sum + 1 := n1
      have n1' : n ≤ ws.sum := by omega
      have g4 := g3.draw (c := k1) a10 b10 b11
      have ec4 := (Dr.refl g3.sa).draw (c := k1) a10 b10 b11 |>.tups g3.sa _ _ ec
      generalize upd H3 st (.lst [.int a1, .int b1, .int k1]) = H4 at g4 ec4 ⊢
      clear ec g3
      refine rd_name ?_
      dsimp only
      refine rd_seq ?_
      refine rd_asg ?_
      refine ⟨_, rfl, _, rfl, n, c, ws, rfl, ec4, ok, n0, n1', fun H5 t s5 et => ?_⟩
      refine rd_name ?_
      dsimp only
      have g5 := g4.same s5
      have ec5 := s5 _ _ ec4
      have ra := res_all' ok n0 n1'
      have rl := res_len n ws
      refine rd_seq ?_
      refine ⟨_, rfl, _, rfl, _, rfl, fun _ => False, n, c, ws, _, wD (res n ws), rfl, ec5, ok, n0, n1', .tup et (IsThs.ints _), by rw [sz_w, rl]; omega, fun H6 s6 => ?_⟩
      rw [fair_res ok]
      refine ⟨_, _, rfl, rfl, _, rfl, ?_⟩
      refine iteF ?_
      refine rd_next ?_
      dsimp only
      have g6 := g5.same s6
      have ec6 := s6 _ _ ec5
      have et6 := s6 _ _ et
      clear g5 ec5 et g4 ec4
      have hSS : ∀ H', Same H6 H' → ∀ p, H' p = none → p ≠ sysModules → SS st p := fun H' s p hp np => by
        obtain ⟨a, b, c, e, _⟩ := g6.sa
        refine ⟨fun z => ?_, np⟩
        rw [z, s _ _ e] at hp
        cases hp
      have bI : ∀ v ∈ (res n ws).map V.int, scV v := sc_ints fun m hm => by have := ra m hm; omega
      have wI : ∀ v ∈ ws.map V.int, scV v := sc_ints fun m hm => by have := ok.2.2 m hm; omega
      refine rd_seq ?_
      refine rd_asg ?_
      refine rd_lst ?_
      have evl : ∀ H', Same H6 H' → Ev [some (.ref a), some (.int (0 + (i : Int))), some (.ref st), some (.ref c), some (.int n), some (.ref t), x6, x7, x8, x9] H' (tOp (rI0 fun i j => .int (i - j)) (tCB (fun xs H Q => ∃ p ys, xs = [.ref p] ∧ (SqL K H p ys ∨ SqT K H p ys) ∧ Q (.int ys.length) H) (tCons (tVar 3) tNil)) (tC (.int 1))) (.int ((ws.length : Int) - 1)) := fun H' s => by
        refine op_subE fun Q h => ⟨_, rfl, c, _, rfl, .inr (SqT.of (s _ _ ec6)), ?_⟩
        rw [List.length_map]
        exact h
      have rk : ((ws.length : Int) - 1).toNat ≤ 80 := by omega
      have A1 : ThA (SS st) [some (.ref a), some (.int (0 + (i : Int))), some (.ref st), some (.ref c), some (.int n), some (.ref t), x6, x7, x8, x9] H6 _ _ :=
        th_cons (th_v (n := 5) rfl (.tup et6 (IsThs.ints _)))
        (th_cons (th_lof (K := K) (i := 5) rfl et6 (fun H' => ths_sc bI) hSS)
        (th_cons th_non
        (th_cons (th_tu (tu_rev (K := K) (tu_v (i := 5) rfl et6)) fun H' => ths_sc fun v hv => bI v (List.mem_reverse.mp hv))
        (th_cons (th_v (n := 3) rfl (.tup ec6 (IsThs.ints _)))
        (th_cons (th_tu (tu_catS (tu_one (te := tVar 4) (v := .int n) fun H' => ev_v rfl) (tu_rep (K := K) (tu_one (te := tC (.int 0)) (v := .int 0) fun H' => ev_c) evl (by omega) (by omega)) (by show 1 ≤ 1000; decide) (by rw [rep_len]; omega)) fun H' => .cons (.int n) (ths_sc rep_sc)) th_nil)))))
      refine A1 H6 (Same.refl _) _ fun vs1 H7 s7 t7 => ?_
      refine ⟨?_, fun L1 hL1 => ?_⟩
      · rw [t7.length]
        show 6 ≤ sizeLine
        decide
      have g8 := g6.same (s7.updR (o := .lst vs1) hL1)
      have nL1 : L1 ≠ st := (g6.same s7).ne hL1
      have eL1 := upd_same (H := H7) (a := L1) (o := .lst vs1)
      have t8 := t7.same (Same.upd (o := .lst vs1) hL1)
      have ec8 := Same.upd (o := .lst vs1) hL1 _ _ (s7 _ _ ec6)
      have et8 := Same.upd (o := .lst vs1) hL1 _ _ (s7 _ _ et6)
      generalize upd H7 L1 _ = H8 at g8 eL1 t8 ec8 et8 ⊢
      have l1 : vs1.length = 6 := t7.length
      have bt : ∀ d ∈ [wD (res n ws), .list (((res n ws).map V.int).map vD), .none, .tuple (((res n ws).map V.int).reverse.map vD), wD ws, .tuple (.int n :: ((List.replicate ((ws.length : Int) - 1).toNat [V.int 0]).flatten.map vD))], BT d := fun d hd => by
        simp only [List.mem_cons, List.not_mem_nil, or_false] at hd
        have lr : ((res n ws).map V.int).length ≤ 250 := by rw [List.length_map, rl]; omega
        rcases hd with rfl | rfl | rfl | rfl | rfl | rfl
        · exact bt_w (fun m hm => by have := ra m hm; omega) (by rw [rl]; omega)
        · exact (sc_ok bI lr).2
        · exact ⟨rfl, by decide⟩
        · exact (sc_ok (fun v hv => bI v (List.mem_reverse.mp hv)) (by rw [List.length_reverse]; exact lr)).1
        · exact bt_w (fun m hm => by have := ok.2.2 m hm; omega) (by omega)
        · have o := (sc_ok (rep_sc (k := ((ws.length : Int) - 1).toNat)) (by rw [rep_len]; omega)).1
          refine ⟨?_, ?_⟩
          · show (tame (.int n) && tames _) = true
            rw [show tame (.int n) = true from decide_eq_true (show n.natAbs < 2 ^ 128 by omega)]
            exact o.1
          · show 1 + (1 + szs _) ≤ 300
            rw [szs_one fun e he => by obtain ⟨v, hv, rfl⟩ := List.mem_map.mp he; exact (vD_ok (rep_sc v hv)).2, List.length_map, rep_len]
            omega
      clear t7 s7 hL1 A1 evl hSS et6 ec6
      refine rd_name ?_
      dsimp only
      refine rd_seq ?_
      refine ⟨5, rfl, by decide, by decide, ?_⟩
      refine for_range (lo := 0) (n := (5 : Int).toNat) (fun j σ Hc => ∃ L vs ds y1 y7 y8 y9, σ = [some (.ref a), y1, some (.ref st), some (.ref c), some (.int n), some (.ref t), some (.ref L), y7, y8, y9] ∧ Dr st H2 Hc ∧ L ≠ st ∧ Hc L = some (.lst vs) ∧ IsThs (SS st) Hc vs ds ∧ (∀ d ∈ ds, BT d) ∧ vs.length = 6 + 2 * j ∧ Hc c = some (.tup (ws.map V.int)) ∧ Hc t = some (.tup ((res n ws).map V.int))) ?_ ?_ ?_
      · exact ⟨L1, vs1, _, _, _, _, _, rfl, g8, nL1, eL1, t8, bt, l1, ec8, et8⟩
      · rintro j σ Hc hj ⟨L, vs, ds, y1, y7, y8, y9, rfl, g9, nL, eL, tL, btL, lL, ec9, et9⟩
        have hj : j < 5 := hj
        refine rd_name ?_
        refine rd_asg ?_
        refine ⟨_, rfl, _, rfl, _, rfl, st, t, res n ws, rfl, g9.sa, et9, by rw [rl]; omega, by rw [rl]; omega, ra, fun t2 ms H10 g10 lm bm et2 => ?_⟩
        have ec10 := g10.tups g9.sa _ _ ec9
        have et10 := g10.tups g9.sa _ _ et9
        have eL10 := g10.bt _ _ eL nL
        have tL10 := Dr.thsS g10 g9.sa tL
        refine ⟨_, rfl, _, rfl, st, t, res n ws, rfl, g10.sa, et10, by rw [rl]; omega, by rw [rl]; omega, ra, fun v2 d2 H11 g11 bd2 tv2 => ?_⟩
        have ec11 := g11.tups g10.sa _ _ ec10
        have et11 := g11.tups g10.sa _ _ et10
        have eL11 := g11.bt _ _ eL10 nL
        have tL11 := Dr.thsS g11 g10.sa tL10
        have et211 := g11.tups g10.sa _ _ et2
        refine ⟨(by show 2 ≤ sizeLine; decide), fun L2 hL2 => ?_⟩
        have m12 := Same.upd (o := .lst [.ref t2, v2]) hL2
        refine ⟨L, L2, vs, _, rfl, rfl, m12 _ _ eL11, upd_same, by rw [lL, sizeLine_eq]; show 6 + 2 * j + 2 ≤ _; omega, fun L3 hL3 => ?_⟩
        have m13 := m12.updR (o := .lst (vs ++ [.ref t2, v2])) hL3
        have g13 := ((g9.trans g10).trans g11).same m13
        have nL3 : L3 ≠ st := (((g9.trans g10).trans g11).same m12).ne hL3
        have th13 : IsThs (SS st) (upd (upd H11 L2 (.lst [.ref t2, v2])) L3 (.lst (vs ++ [.ref t2, v2]))) (vs ++ [.ref t2, v2]) (ds ++ [wD ms, d2]) := (tL11.append (.cons (.tup et211 (IsThs.ints ms)) (.cons tv2 .nil))).same m13
        refine rd_name ?_
        refine ⟨L3, _, _, _, _, _, _, rfl, g13, nL3, upd_same, th13, fun d hd => ?_, ?_, m13 _ _ ec11, m13 _ _ et11⟩
        · rcases List.mem_append.mp hd with z | z
          · exact btL d z
          · simp only [List.mem_cons, List.not_mem_nil, or_false] at z
            rcases z with rfl | rfl
            · exact bt_w bm (by rw [lm, rl]; omega)
            · exact bd2
        · rw [List.length_append, lL]
          show 6 + 2 * j + 2 = _
          omega
      · rintro σ Hc ⟨L, vs, ds, y1, y7, y8, y9, rfl, g9, nL, eL, tL, btL, lL, ec9, et9⟩
        dsimp only
        have sH : Same H Hc := fun b o e => g9.bt b o (s2 _ _ e) (ne_of_none e nst)
        refine ⟨_, rfl, L, rfl, ⟨_, SqL.of eL⟩, ?_⟩
        refine for_list (xs := vs) (fun j σ Hd => ∃ z1 z7 z8 z9, σ = [some (.ref a), z1, some (.ref st), some (.ref c), some (.int n), some (.ref t), some (.ref L), z7, z8, z9] ∧ Same Hc Hd) ?_ ?_ ?_ ?_
        · exact ⟨_, _, _, _, rfl, Same.refl _⟩
        · rintro j σ Hd hj ⟨z1, z7, z8, z9, rfl, s10⟩
          exact SqL.of (s10 _ _ eL)
        · rintro j v σ Hd hv ⟨z1, z7, z8, z9, rfl, s10⟩
          obtain ⟨d, bd, tv⟩ := ths_all tL btL hv
          have tv10 := th_s0 (tv.same s10)
          have hun : A.units + 0 = A.units := Nat.add_zero _
          refine rd_name ?_
          refine rd_seq ?_
          refine rd_asg ?_
          refine ⟨_, rfl, v, d, rfl, tv10, bd.1, by have := bd.2; omega, room_sz hr (by omega) (by have := bd.2; omega), ?_⟩
          refine rd_name ?_
          dsimp only
          refine rd_seq ?_
          refine ⟨_, rfl, _, rfl, _, rfl, S0, n, c, ws, v, d, rfl, s10 _ _ ec9, ok, n0, n1', tv10, by have := bd.2; omega, fun H11 s11 => ?_⟩
          refine ⟨_, rfl, _, rfl, _, rfl, S0, n, c, ws, v, d, rfl, s11 _ _ (s10 _ _ ec9), ok, n0, n1', tv10.same s11, by have := bd.2; omega, fun H12 s12 => ?_⟩
          refine ⟨S0, _, _, .bool (fairD n ws d), .bool (fairD n ws d), rfl, s0_no, .bl _, .bl _, rfl, rfl, by show 1 ≤ 1000; decide, by show 1 ≤ 1000; decide, ⟨_, rfl, ?_⟩⟩
          rw [decide_eq_true rfl]
          refine iteF ?_
          refine rd_next ?_
          dsimp only
          refine ⟨_, rfl, v, d, rfl, (tv10.same s11).same s12, bd.1, by have := bd.2; omega, room_sz hr (by omega) (by have := bd.2; omega), _, rfl, rfl, _, rfl, ?_⟩
          rw [decide_eq_true rfl]
          exact iteF ⟨_, _, _, _, rfl, (s10.trans s11).trans s12⟩
        · rintro σ Hd ⟨z1, z7, z8, z9, rfl, s10⟩
          exact ⟨_, _, _, _, _, _, _, _, _, rfl, sH.trans s10⟩
    · rintro σ Hc ⟨x1, x2, x3, x4, x5, x6, x7, x8, x9, rfl, s1⟩
      exact q Hc
end
end K11

set_option Elab.async false
set_option linter.all false
set_option maxRecDepth 100000
set_option maxHeartbeats 400000
namespace K11
open PySem L2
theorem el1 {C : List Value → Prop} (h : ∀ a0 : Value, C [a0]) : ∀ us : List Value, us.length = 1 → C us := fun us e => match us, e with | [a0], _ => h a0
theorem el2 {C : List Value → Prop} (h : ∀ a0 a1 : Value, C [a0, a1]) : ∀ us : List Value, us.length = 2 → C us := fun us e => match us, e with | [a0, a1], _ => h a0 a1
theorem el3 {C : List Value → Prop} (h : ∀ a0 a1 a2 : Value, C [a0, a1, a2]) : ∀ us : List Value, us.length = 3 → C us := fun us e => match us, e with | [a0, a1, a2], _ => h a0 a1 a2
/-- the def stands in the text under its name -/
def Has (K : PySem.W.Frag) (x : Str) (st : Stmt) : Prop := ∃ (f : Addr) (od an : Option Addr) (sl : Array (Option Value)) (oc kV dc pm cd ct : Value), PySem.W.nsIn K mainGlobals x = some (some (.ref f)) ∧
  K.lookup f = some ⟨oc, od, .func (PySem.W.fnOf x x (defArgs st) (defBody st) (defScope st) .none kV dc pm an cd ct), sl⟩ ∧ PySem.W.codeIn K cd x = true ∧ PySem.W.keepIn K (.ref f) = true
theorem has_mk {K : PySem.W.Frag} {x : Str} {st : Stmt} {f : Addr} {od an : Option Addr} {sl : Array (Option Value)} {oc kV dc pm cd ct : Value} (a : PySem.W.nsIn K mainGlobals x = some (some (.ref f)))
    (l : K.lookup f = some ⟨oc, od, .func (PySem.W.fnOf x x (defArgs st) (defBody st) (defScope st) .none kV dc pm an cd ct), sl⟩) (c : PySem.W.codeIn K cd x = true) (k : PySem.W.keepIn K (.ref f) = true) : Has K x st := ⟨f, od, an, sl, oc, kV, dc, pm, cd, ct, a, l, c, k⟩
theorem Has.get {K : PySem.W.Frag} {x : Str} {st : Stmt} {h : Heap} {mg : Str → Option Value} (H : Has K x st) (X : K.In h) (G : h.Ns mainGlobals mg) : ∃ f fd, Fun K x x st f fd ∧ mg x = some (.ref f) := by
  obtain ⟨f, od, an, sl, oc, kV, dc, pm, cd, ct, a, l, c, k⟩ := H
  exact ⟨f, _, fun_mk (st := st) l c k, PySem.W.mg_of X G a⟩
theorem cal_mk {P : Program} {w : World} {K : PySem.W.Frag} {mg : Str → Option Value} {base : Heap} {k : Nat} {x : Str} {ps : List Str} {sp : Sp} {f : Addr} {fd : FuncData} (F : FnOk P w K mg base CX0 k f fd ps sp) (m : mg x = some (.ref f)) (kp : PySem.W.keepIn K (.ref f) = true) (b : Binds K fd ps []) : Cal P w K mg base k x ps sp := ⟨f, fd, F, m, kp, b⟩
theorem all_mk {l : PySem.W.OpenLaw} {w : World} {K : PySem.W.Frag} {h : Heap} {mg : Str → Option Value} {fa fL : Addr} {odL anL : Option Addr} {slL : Array (Option Value)} {ocL kVL dcL pmL cdL ctL : Value} {t0 t1 : Tok} (X : K.In h) (G : h.Ns mainGlobals mg) (hfa : mg "law" = some (.ref fa))
    (h5 : Has K "is_whole" (top 5))
    (h6 : Has K "is_whole_from" (top 6))
    (h7 : Has K "is_tuple_of" (top 7))
    (h8 : Has K "are_wholes" (top 8))
    (h12 : Has K "are_weights" (top 12))
    (h13 : Has K "refuse_unpartable" (top 13))
    (h14 : Has K "places_by_rest" (top 14))
    (h15 : Has K "parts_of" (top 15))
    (h16 : Has K "parted" (top 16))
    (h17 : Has K "is_fair" (top 17))
    (h19 : Has K "_law_cell_at" (top 19))
    (h20 : Has K "_law_state" (top 20))
    (h21 : Has K "_law_choice" (top 21))
    (h22 : Has K "_law_same" (top 22))
    (h24 : Has K "_law_row_bent" (top 24))
    (h25 : Has K "_law_bent" (top 25))
    (h26 : Has K "_law_weights" (top 26))
    (h27 : Has K "_law_is_fair" (top 27))
    (h28 : Has K "_law_moved" (top 28))
    (aL : PySem.W.nsIn K mainGlobals "law" = some (some (.ref fL))) (lL : K.lookup fL = some ⟨ocL, odL, .func (PySem.W.fnOf "law" "law" (defArgs (top 29)) (defBody (top 29)) (defScope (top 29)) .none kVL dcL pmL anL cdL ctL), slL⟩) (cL : PySem.W.codeIn K cdL "law" = true) (kL : PySem.W.keepIn K (.ref fL) = true)
    (n0 : PySem.W.nsIn K mainGlobals "MOST_WEIGHTS" = some (some (.int 80 t0)))
    (n1 : PySem.W.nsIn K mainGlobals "MOST_WEIGHT" = some (some (.int 99 t1)))
    (z_isinstance : PySem.W.nsIn K mainGlobals "isinstance" = some none)
    (z_int : PySem.W.nsIn K mainGlobals "int" = some none)
    (z_bool : PySem.W.nsIn K mainGlobals "bool" = some none)
    (z_tuple : PySem.W.nsIn K mainGlobals "tuple" = some none)
    (z_len : PySem.W.nsIn K mainGlobals "len" = some none)
    (z_all : PySem.W.nsIn K mainGlobals "all" = some none)
    (z_range : PySem.W.nsIn K mainGlobals "range" = some none)
    (z_max : PySem.W.nsIn K mainGlobals "max" = some none)
    (z_min : PySem.W.nsIn K mainGlobals "min" = some none)
    (z_repr : PySem.W.nsIn K mainGlobals "repr" = some none)
    (z_zip : PySem.W.nsIn K mainGlobals "zip" = some none)
    (z_enumerate : PySem.W.nsIn K mainGlobals "enumerate" = some none)
    (z_sorted : PySem.W.nsIn K mainGlobals "sorted" = some none)
    (z_sum : PySem.W.nsIn K mainGlobals "sum" = some none)
    (z_abs : PySem.W.nsIn K mainGlobals "abs" = some none)
    (z_list : PySem.W.nsIn K mainGlobals "list" = some none)
    (z_dict : PySem.W.nsIn K mainGlobals "dict" = some none)
    (z_str : PySem.W.nsIn K mainGlobals "str" = some none)
    : ∃ fd : FuncData, (∀ (s : Shared) (v : Value), BindsTo s fd ⟨[v], []⟩ [("_law_script", v)]) ∧ ∀ base : Heap, K.In base → base.Ns mainGlobals mg → FnOk l.prog w K mg base CX0 63 fa fd ["_law_script"] (spLaw K) := by
  have e := hfa.symm.trans (PySem.W.mg_of X G aL)
  cases e
  have FL := fun_mk (st := top 29) lL cL kL
  obtain ⟨f5, fd5, F5, m5⟩ := h5.get X G
  have b5 := F5.binds (ps := ["thing"]) fun _ _ _ _ _ _ => el1 fun _ => rfl
  obtain ⟨f6, fd6, F6, m6⟩ := h6.get X G
  have b6 := F6.binds (ps := ["thing", "least", "most"]) fun _ _ _ _ _ _ => el3 fun _ _ _ => rfl
  obtain ⟨f7, fd7, F7, m7⟩ := h7.get X G
  have b7 := F7.binds (ps := ["thing", "fewest", "most"]) fun _ _ _ _ _ _ => el3 fun _ _ _ => rfl
  obtain ⟨f8, fd8, F8, m8⟩ := h8.get X G
  have b8 := F8.binds (ps := ["thing", "many"]) fun _ _ _ _ _ _ => el2 fun _ _ => rfl
  obtain ⟨f12, fd12, F12, m12⟩ := h12.get X G
  have b12 := F12.binds (ps := ["thing"]) fun _ _ _ _ _ _ => el1 fun _ => rfl
  obtain ⟨f13, fd13, F13, m13⟩ := h13.get X G
  have b13 := F13.binds (ps := ["sacks", "weights"]) fun _ _ _ _ _ _ => el2 fun _ _ => rfl
  obtain ⟨f14, fd14, F14, m14⟩ := h14.get X G
  have b14 := F14.binds (ps := ["rests"]) fun _ _ _ _ _ _ => el1 fun _ => rfl
  obtain ⟨f15, fd15, F15, m15⟩ := h15.get X G
  have b15 := F15.binds (ps := ["sacks", "weights"]) fun _ _ _ _ _ _ => el2 fun _ _ => rfl
  obtain ⟨f16, fd16, F16, m16⟩ := h16.get X G
  have b16 := F16.binds (ps := ["sacks", "weights"]) fun _ _ _ _ _ _ => el2 fun _ _ => rfl
  obtain ⟨f17, fd17, F17, m17⟩ := h17.get X G
  have b17 := F17.binds (ps := ["sacks", "weights", "thing"]) fun _ _ _ _ _ _ => el3 fun _ _ _ => rfl
  obtain ⟨f19, fd19, F19, m19⟩ := h19.get X G
  have b19 := F19.binds (ps := ["_law_script", "_law_k"]) fun _ _ _ _ _ _ => el2 fun _ _ => rfl
  obtain ⟨f20, fd20, F20, m20⟩ := h20.get X G
  have b20 := F20.binds (ps := ["_law_script", "_law_k"]) fun _ _ _ _ _ _ => el2 fun _ _ => rfl
  obtain ⟨f21, fd21, F21, m21⟩ := h21.get X G
  have b21 := F21.binds (ps := ["_law_state_here", "_law_many"]) fun _ _ _ _ _ _ => el2 fun _ _ => rfl
  obtain ⟨f22, fd22, F22, m22⟩ := h22.get X G
  have b22 := F22.binds (ps := ["_law_found", "_law_due"]) fun _ _ _ _ _ _ => el2 fun _ _ => rfl
  obtain ⟨f24, fd24, F24, m24⟩ := h24.get X G
  have b24 := F24.binds (ps := ["_law_state_here", "_law_things"]) fun _ _ _ _ _ _ => el2 fun _ _ => rfl
  obtain ⟨f25, fd25, F25, m25⟩ := h25.get X G
  have b25 := F25.binds (ps := ["_law_state_here", "_law_thing", "_law_deep"]) fun _ _ _ _ _ _ => el3 fun _ _ _ => rfl
  obtain ⟨f26, fd26, F26, m26⟩ := h26.get X G
  have b26 := F26.binds (ps := ["_law_state_here"]) fun _ _ _ _ _ _ => el1 fun _ => rfl
  obtain ⟨f27, fd27, F27, m27⟩ := h27.get X G
  have b27 := F27.binds (ps := ["_law_sacks", "_law_weights_here", "_law_thing"]) fun _ _ _ _ _ _ => el3 fun _ _ _ => rfl
  obtain ⟨f28, fd28, F28, m28⟩ := h28.get X G
  have b28 := F28.binds (ps := ["_law_state_here", "_law_parts"]) fun _ _ _ _ _ _ => el2 fun _ _ => rfl
  have T : Mg mg := ⟨(PySem.W.mg_none_of X G z_isinstance), (PySem.W.mg_none_of X G z_int), (PySem.W.mg_none_of X G z_bool), (PySem.W.mg_none_of X G z_tuple), (PySem.W.mg_none_of X G z_len), (PySem.W.mg_none_of X G z_all)⟩
  have N : Nums mg := ⟨⟨t0, PySem.W.mg_of X G n0⟩, ⟨t1, PySem.W.mg_of X G n1⟩⟩
  refine ⟨PySem.W.fnOf "law" "law" (defArgs (top 29)) (defBody (top 29)) (defScope (top 29)) .none kVL dcL pmL anL cdL ctL, fun s v => .of_eq rfl, fun base _ _ => ?_⟩
  have C5 := cal_mk (P := l.prog) (w := w) (base := base) (ok_is_whole F5 T) m5 F5.kp b5
  have C6 := cal_mk (P := l.prog) (w := w) (base := base) (ok_whole_from F6 C5) m6 F6.kp b6
  have C7 := cal_mk (P := l.prog) (w := w) (base := base) (ok_is_tuple_of F7 T) m7 F7.kp b7
  have C8 := cal_mk (P := l.prog) (w := w) (base := base) (ok_are_wholes F8 T C5 C7) m8 F8.kp b8
  have C12 := cal_mk (P := l.prog) (w := w) (base := base) (ok_are_weights F12 T N C6 C7) m12 F12.kp b12
  have C13 := cal_mk (P := l.prog) (w := w) (base := base) (ok_refuse F13 (PySem.W.mg_none_of X G z_sum) C12 C6) m13 F13.kp b13
  have C14 := cal_mk (P := l.prog) (w := w) (base := base) (ok_places F14 (PySem.W.mg_none_of X G z_enumerate) (PySem.W.mg_none_of X G z_sorted)) m14 F14.kp b14
  have C15 := cal_mk (P := l.prog) (w := w) (base := base) (ok_parts F15 T (PySem.W.mg_none_of X G z_sum) C14) m15 F15.kp b15
  have C16 := cal_mk (P := l.prog) (w := w) (base := base) (ok_parted F16 C13 C15) m16 F16.kp b16
  have C17 := cal_mk (P := l.prog) (w := w) (base := base) (ok_fair F17 T (PySem.W.mg_none_of X G z_sum) (PySem.W.mg_none_of X G z_abs) (PySem.W.mg_none_of X G z_zip) C13 C8) m17 F17.kp b17
  have C19 := cal_mk (P := l.prog) (w := w) (base := base) (ok_cell F19 T) m19 F19.kp b19
  have C20 := cal_mk (P := l.prog) (w := w) (base := base) (ok_state F20 (PySem.W.mg_none_of X G z_max) C19) m20 F20.kp b20
  have C21 := cal_mk (P := l.prog) (w := w) (base := base) (ok_choice F21) m21 F21.kp b21
  have C22 := cal_mk (P := l.prog) (w := w) (base := base) (ok_same F22 (PySem.W.mg_none_of X G z_repr)) m22 F22.kp b22
  have C24 := cal_mk (P := l.prog) (w := w) (base := base) (ok_rowB F24 T (PySem.W.mg_none_of X G z_list) (PySem.W.mg_none_of X G z_dict) C21) m24 F24.kp b24
  have C25 := cal_mk (P := l.prog) (w := w) (base := base) (ok_bent F25 T (PySem.W.mg_none_of X G z_str) C21 C24 m25 b25) m25 F25.kp b25
  have C26 := cal_mk (P := l.prog) (w := w) (base := base) (ok_weights F26 T (PySem.W.mg_none_of X G z_range) C21) m26 F26.kp b26
  have C27 := cal_mk (P := l.prog) (w := w) (base := base) (ok_lfair F27 T (PySem.W.mg_none_of X G z_sum) (PySem.W.mg_none_of X G z_zip)) m27 F27.kp b27
  have C28 := cal_mk (P := l.prog) (w := w) (base := base) (ok_moved F28 T (PySem.W.mg_none_of X G z_list) C21) m28 F28.kp b28
  exact ok_law FL T (PySem.W.mg_none_of X G z_range) (PySem.W.mg_none_of X G z_max) (PySem.W.mg_none_of X G z_min) (PySem.W.mg_none_of X G z_sum) (PySem.W.mg_none_of X G z_list) (PySem.W.mg_none_of X G z_repr) C20 C26 C21 C16 C17 C22 C27 C28 C25
theorem walk {l : PySem.W.OpenLaw} {q : Program} {loose : List Str} {XP : (Str → Option Value) → Heap → Prop} {YP : World → Heap → Prop} {d : DefRec} {K : Params → PySem.W.Frag} (hn : l.most = some 63) (hdf : d.params.defaults = [])
    (hY : ∀ (w : World) (h : Heap), YP w h → (K w.params).In h)
    (F : ∀ (w : World) (mg : Str → Option Value) (fa : Addr) (h : Heap), (K w.params).In h → h.Ns mainGlobals mg → mg d.name = some (.ref fa) →
      ∃ fd : FuncData, (∀ (s : Shared) (u : Value), BindsTo s fd ⟨[u], []⟩ [("_law_script", u)]) ∧ ∀ base : Heap, (K w.params).In base → base.Ns mainGlobals mg → FnOk l.prog w (K w.params) mg base CX0 63 fa fd ["_law_script"] (spLaw (K w.params))) :
    PySem.W.WalkO q loose XP YP l.row.toRowW d [] (fun f vs => PySem.call f vs) :=
  L2.walk_of (n := 63) (k := 63) (x := "_law_script") (CX := fun _ => CX0) (sp := fun w => spLaw (K w.params)) hn (by decide) hdf ⟨rfl, by decide, by decide, rfl⟩ hY F (fun _ _ a ns hl _ hS => ⟨a, ns, rfl, hS, hl, fun _ => rfl⟩) fun _ _ _ _ _ z => z
end K11
open PySem PySem.W PyProof.Rows
set_option maxRecDepth 100000 in
set_option maxHeartbeats 0 in
theorem PySem.Challenge.cw_woolyears_k11_parts_that_are_fair_holds : PySem.Challenge.rw_woolyears_k11_parts_that_are_fair.Holds := by
  w_on; o_law; k_head; (case hw => w_witness2)
  k_fill
  refine K11.walk (l := PySem.Challenge.rw_woolyears_k11_parts_that_are_fair) rfl rfl (fun w h Y => PySem.W.kIn_of Y) ?F
  case F =>
    intro w mg fa h KX G hmg
    refine' K11.all_mk KX G hmg ?h5 ?h6 ?h7 ?h8 ?h12 ?h13 ?h14 ?h15 ?h16 ?h17 ?h19 ?h20 ?h21 ?h22 ?h24 ?h25 ?h26 ?h27 ?h28 ?aL ?lL ?cL ?kL ?n0 ?n1 ?z0 ?z1 ?z2 ?z3 ?z4 ?z5 ?z6 ?z7 ?z8 ?z9 ?z10 ?z11 ?z12 ?z13 ?z14 ?z15 ?z16 ?z17
    case h5 =>
      refine' K11.has_mk ?a ?l ?c ?k
      (case a => k_is); (case l => k_is); (case c => k_is); (case k => k_is)
    case h6 =>
      refine' K11.has_mk ?a ?l ?c ?k
      (case a => k_is); (case l => k_is); (case c => k_is); (case k => k_is)
    case h7 =>
      refine' K11.has_mk ?a ?l ?c ?k
      (case a => k_is); (case l => k_is); (case c => k_is); (case k => k_is)
    case h8 =>
      refine' K11.has_mk ?a ?l ?c ?k
      (case a => k_is); (case l => k_is); (case c => k_is); (case k => k_is)
    case h12 =>
      refine' K11.has_mk ?a ?l ?c ?k
      (case a => k_is); (case l => k_is); (case c => k_is); (case k => k_is)
    case h13 =>
      refine' K11.has_mk ?a ?l ?c ?k
      (case a => k_is); (case l => k_is); (case c => k_is); (case k => k_is)
    case h14 =>
      refine' K11.has_mk ?a ?l ?c ?k
      (case a => k_is); (case l => k_is); (case c => k_is); (case k => k_is)
    case h15 =>
      refine' K11.has_mk ?a ?l ?c ?k
      (case a => k_is); (case l => k_is); (case c => k_is); (case k => k_is)
    case h16 =>
      refine' K11.has_mk ?a ?l ?c ?k
      (case a => k_is); (case l => k_is); (case c => k_is); (case k => k_is)
    case h17 =>
      refine' K11.has_mk ?a ?l ?c ?k
      (case a => k_is); (case l => k_is); (case c => k_is); (case k => k_is)
    case h19 =>
      refine' K11.has_mk ?a ?l ?c ?k
      (case a => k_is); (case l => k_is); (case c => k_is); (case k => k_is)
    case h20 =>
      refine' K11.has_mk ?a ?l ?c ?k
      (case a => k_is); (case l => k_is); (case c => k_is); (case k => k_is)
    case h21 =>
      refine' K11.has_mk ?a ?l ?c ?k
      (case a => k_is); (case l => k_is); (case c => k_is); (case k => k_is)
    case h22 =>
      refine' K11.has_mk ?a ?l ?c ?k
      (case a => k_is); (case l => k_is); (case c => k_is); (case k => k_is)
    case h24 =>
      refine' K11.has_mk ?a ?l ?c ?k
      (case a => k_is); (case l => k_is); (case c => k_is); (case k => k_is)
    case h25 =>
      refine' K11.has_mk ?a ?l ?c ?k
      (case a => k_is); (case l => k_is); (case c => k_is); (case k => k_is)
    case h26 =>
      refine' K11.has_mk ?a ?l ?c ?k
      (case a => k_is); (case l => k_is); (case c => k_is); (case k => k_is)
    case h27 =>
      refine' K11.has_mk ?a ?l ?c ?k
      (case a => k_is); (case l => k_is); (case c => k_is); (case k => k_is)
    case h28 =>
      refine' K11.has_mk ?a ?l ?c ?k
      (case a => k_is); (case l => k_is); (case c => k_is); (case k => k_is)
    (case aL => k_is); (case lL => k_is); (case cL => k_is); (case kL => k_is)
    (case n0 => k_is)
    (case n1 => k_is)
    (case z0 => k_is)
    (case z1 => k_is)
    (case z2 => k_is)
    (case z3 => k_is)
    (case z4 => k_is)
    (case z5 => k_is)
    (case z6 => k_is)
    (case z7 => k_is)
    (case z8 => k_is)
    (case z9 => k_is)
    (case z10 => k_is)
    (case z11 => k_is)
    (case z12 => k_is)
    (case z13 => k_is)
    (case z14 => k_is)
    (case z15 => k_is)
    (case z16 => k_is)
    (case z17 => k_is)

