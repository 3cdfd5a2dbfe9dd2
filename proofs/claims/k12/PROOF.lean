import PyProof.Rows.All
import Wide.All
import OpenK.AllK
import Wide.FinOn
import Lean
import PyProof.EqAt
import PyProof.EqKinds
import PyProof.TupleCall
import PyProof.StrLawsRepr
import PyProof.ZipIter
import PySem.Challenge.RW_woolyears_k12_what_cannot_be_parted
import PyProof.Rows.SortRunsK
import PyProof.AttrMissHeap
import PyProof.StationsW
import PyProof.ExcBaseAll.ValueError
-- CHANGE: your row's module here, as the last of these rows
set_option Elab.async false
set_option linter.all false
set_option maxRecDepth 100000
/-! THE HAND LAYER, for ints, bools, texts, own classes, LISTS and tuples (index, slices, in, append, pop ..), calls, loops. Paste it whole ahead of your own text; what your proof does not reach may be deleted. -/
namespace L2
open PySem PySem.Spec PyProof.Rows

/-- a key: an int or a str -/
abbrev Key := Sum Int Str
def keyIs : Key → Value → Bool
  | .inl k, v => Value.isInt k v
  | .inr x, v => Value.isStrOf x v
def keyH (w : World) : Key → Int
  | .inl k => hashInt k
  | .inr x => hashStr w x
theorem keyIs_shape : ∀ {k : Key} {v : Value}, keyIs k v = true → (∃ i t, k = Sum.inl i ∧ v = Value.int i t) ∨ (∃ x t, k = Sum.inr x ∧ v = Value.str x t)
  | .inl i, v, h => by
    obtain ⟨t, e⟩ := Value.isInt_shape (k := i) (v := v) h
    exact .inl ⟨i, t, rfl, e⟩
  | .inr x, v, h => by
    obtain ⟨t, e⟩ := Value.isStrOf_shape (x := x) (v := v) h
    exact .inr ⟨x, t, rfl, e⟩
theorem keyIs_int (i : Int) (t : Tok) : keyIs (.inl i) (.int i t) = true := by simp [keyIs, Value.isInt]
theorem keyIs_str (x : Str) (t : Tok) : keyIs (.inr x) (.str x t) = true := by simp [keyIs, Value.isStrOf]
theorem key_ll (a b : Int) : decide ((Sum.inl a : Key) = Sum.inl b) = (a == b) := by
  by_cases e : a = b
  · subst e; simp
  · have h : ¬ (Sum.inl a : Key) = Sum.inl b := fun q => e (Sum.inl.inj q)
    rw [decide_eq_false h]
    exact (beq_eq_false_iff_ne.mpr e).symm
theorem key_rr (a b : Str) : decide ((Sum.inr a : Key) = Sum.inr b) = decide (a = b) := by
  by_cases e : a = b
  · subst e; simp
  · have h : ¬ (Sum.inr a : Key) = Sum.inr b := fun q => e (Sum.inr.inj q)
    rw [decide_eq_false h, decide_eq_false e]
theorem key_lr (a : Int) (b : Str) : decide ((Sum.inl a : Key) = Sum.inr b) = false := decide_eq_false (fun q => nomatch q)
theorem key_rl (a : Str) (b : Int) : decide ((Sum.inr a : Key) = Sum.inl b) = false := decide_eq_false (fun q => nomatch q)

def mixKind (prog : Program) (w : World) : PySem.KeyKind prog w Key where
  is := keyIs
  hash := keyH w
  inj := fun v a b ha hb => by
    rcases keyIs_shape ha with ⟨i, t, rfl, rfl⟩ | ⟨x, t, rfl, rfl⟩
    · rcases keyIs_shape hb with ⟨j, u, rfl, e⟩ | ⟨y, u, rfl, e⟩
      · injection e with e1 _; rw [e1]
      · exact nomatch e
    · rcases keyIs_shape hb with ⟨j, u, rfl, e⟩ | ⟨y, u, rfl, e⟩
      · exact nomatch e
      · injection e with e1 _; rw [e1]
  byValue := fun k v h => by
    rcases keyIs_shape h with ⟨i, t, rfl, rfl⟩ | ⟨x, t, rfl, rfl⟩ <;> rfl
  pyHash := fun hv h => by
    rcases keyIs_shape hv with ⟨i, t, rfl, rfl⟩ | ⟨x, t, rfl, rfl⟩
    · exact wpAny_pyHash_int h
    · exact wpAny_pyHash_str h
  eqBool := fun hu hv h => by
    rcases keyIs_shape hu with ⟨i, t, rfl, rfl⟩ | ⟨x, t, rfl, rfl⟩
    · rcases keyIs_shape hv with ⟨j, u, rfl, rfl⟩ | ⟨y, u, rfl, rfl⟩
      · rw [key_ll] at h; exact wpAny_eqBool_int h
      · rw [key_lr] at h; exact SeqAt.EqAt.int_str i t y u _ _ _ _ h
    · rcases keyIs_shape hv with ⟨j, u, rfl, rfl⟩ | ⟨y, u, rfl, rfl⟩
      · rw [key_rl] at h; exact SeqAt.EqAt.str_int x t j u _ _ _ _ h
      · rw [key_rr] at h; exact wpAny_eqBool_str h
  «strs» := fun k x t v h => by
    rcases keyIs_shape h with ⟨i, u, rfl, e⟩ | ⟨y, u, rfl, e⟩
    · exact nomatch e
    · injection e with e1 _
      subst e1
      cases v <;> rfl

theorem mixKind_int (prog : Program) (w : World) (i : Int) (t : Tok) : (mixKind prog w).is (.inl i) (.int i t) = true := keyIs_int i t
theorem mixKind_str (prog : Program) (w : World) (x : Str) (t : Tok) : (mixKind prog w).is (.inr x) (.str x t) = true := keyIs_str x t
end L2

namespace L2
open PySem PySem.Spec PyProof.Rows

/-- a value, without the heap -/
inductive V where
  | non | bl (b : Bool) | int (i : Int) | str (x : Str) | byt (b : Array UInt8) | flt (b : UInt64) | ref (a : Addr) | ty (n : String)
  deriving DecidableEq

def RelV : V → Value → Prop
  | .non, u => u = Value.none
  | .bl b, u => u = Value.bool b
  | .int i, u => ∃ t, u = Value.int i t
  | .str x, u => ∃ t, u = Value.str x t
  | .byt b, u => ∃ t, u = Value.bytes b t
  | .flt b, u => ∃ t, u = Value.float b t
  | .ref a, u => u = Value.ref a
  | .ty n, u => u = Value.type n

abbrev Vals : List V → List Value → Prop := Paired RelV
theorem Vals.length {xs : List V} {us : List Value} (r : Vals xs us) : xs.length = us.length := Paired.length r
theorem Vals.get : ∀ {xs : List V} {us : List Value} {i : Nat} {x : V}, Vals xs us → xs[i]? = some x → ∃ u, us[i]? = some u ∧ RelV x u
  | _, _, _, _, .nil, e => by simp at e
  | _, _, 0, _, .cons r _, e => by simp at e; subst e; exact ⟨_, rfl, r⟩
  | _, _, i + 1, x, .cons _ t, e => by
    obtain ⟨u, h1, h2⟩ := Vals.get (i := i) (x := x) t (by simpa using e)
    exact ⟨u, by simpa using h1, h2⟩
theorem Vals.set {x : V} {u : Value} (r : RelV x u) : ∀ {xs : List V} {us : List Value} (i : Nat), Vals xs us → Vals (xs.set i x) (us.set i u)
  | _, _, _, .nil => .nil
  | _, _, 0, .cons _ t => .cons r t
  | _, _, i + 1, .cons q t => .cons q (Vals.set r i t)
theorem Vals.append : ∀ {xs ys : List V} {us ws : List Value}, Vals xs us → Vals ys ws → Vals (xs ++ ys) (us ++ ws)
  | _, _, _, _, .nil, s => s
  | _, _, _, _, .cons r t, s => .cons r (Vals.append t s)
theorem Vals.take : ∀ {xs : List V} {us : List Value} (n : Nat), Vals xs us → Vals (xs.take n) (us.take n)
  | _, _, 0, _ => .nil
  | _, _, _ + 1, .nil => .nil
  | _, _, n + 1, .cons r t => .cons r (Vals.take n t)
theorem Vals.drop : ∀ {xs : List V} {us : List Value} (n : Nat), Vals xs us → Vals (xs.drop n) (us.drop n)
  | _, _, 0, r => r
  | _, _, _ + 1, .nil => .nil
  | _, _, n + 1, .cons _ t => Vals.drop n t

def RelO : Option V → Option Value → Prop
  | some v, some u => RelV v u
  | none, none => True
  | _, _ => False
def KV {κ : Type} : List (κ × V) → List (κ × Value) → Prop := Paired fun (p : κ × V) (q : κ × Value) => p.1 = q.1 ∧ RelV p.2 q.2

/-- a key of a dict (00_mix): an int or a text -/
def kV : Key → V
  | .inl i => .int i
  | .inr x => .str x

/-- what stands at a tracked address -/
inductive HO where
  /-- a list -/
  | lst (xs : List V)
  /-- a tuple (never changes) -/
  | tup (xs : List V)
  /-- a dict whose keys are ints and texts; one whose keys are tuples of ints and texts (the empty one is both) -/
  | dK (kvs : List (Key × V)) | dT (kvs : List (List Key × V))
  /-- a set of ints: its members, its size -/
  | set (S : Int → Bool) (n : Nat)
  /-- an instance of the class at C, its dict at dx, its attributes -/
  | ins (C dx : Addr) (fs : List (Str × V))
  /-- the dict of the instance at x -/
  | own (x : Addr)
  /-- the dict of an exception -/
  | xd (fs : List (Str × V))
  /-- a bound method, f of x -/
  | met (f x : Addr)
  /-- a range object lo, lo + 1, .. below hi -/
  | rng (lo hi : Int)
  /-- a thing that is known to the object (the script; a dict while a loop walks it): read, never written while it is so -/
  | frz (o : Obj) (u : HO)
  /-- a code object's table -/
  | tbl (ps : Array Value)
  /-- any other thing, by what is true of its one object (a def of one's own: SetO a S n := HO.ext fun h => ..) -/
  | ext (φ : Heap → Prop)

abbrev Hp := Addr → Option HO
def upd (H : Hp) (a : Addr) (o : HO) : Hp := fun b => if b = a then some o else H b
theorem upd_same {H : Hp} {a : Addr} {o : HO} : upd H a o a = some o := by unfold upd; rw [if_pos rfl]
theorem upd_ne {H : Hp} {a b : Addr} {o : HO} (h : b ≠ a) : upd H a o b = H b := by unfold upd; rw [if_neg h]
theorem ne_of_none {H : Hp} {a b : Addr} {o : HO} (h : H a = some o) (h' : H b = none) : a ≠ b := by
  intro e; subst e; rw [h] at h'; cases h'

section
variable (P : Program) (w : World)
def ObjOk (H : Hp) (h : Heap) (a : Addr) : HO → Prop
  | .lst xs => xs.length ≤ sizeLine ∧ ∃ (its : List Value) (n : Nat), Vals xs its ∧ h.get? a = some { cls := .type "list", data := .seq its.toArray n }
  | .tup xs => xs.length ≤ sizeLine ∧ ∃ its : List Value, Vals xs its ∧ IsTup h a its.toArray
  | .dK kvs => kvs.length ≤ sizeLine ∧ (a == sysModules) = false ∧ ∃ vs, KV kvs vs ∧ h.DictOf (mixKind P w) a vs
  | .dT kvs => kvs.length ≤ sizeLine ∧ (a == sysModules) = false ∧ ∃ xs : List (List Key × Addr × Value),
      Paired (fun (p : List Key × V) (q : List Key × Addr × Value) => p.1 = q.1 ∧ H q.2.1 = some (.tup (p.1.map kV)) ∧ RelV p.2 q.2.2) kvs xs ∧
      ∃ o es ep, h.get? a = some o ∧ o.ExactDict ∧ o.data = .dict es ep ∧ es.toList = xs.map (entryOfKey (tupleKind (mixKind P w))) ∧ (xs.map (·.1)).Nodup
  | .set S n => h.SetOf (intKind P w) a S n
  | .ins C dx fs => H dx = some (.own a) ∧ fs.length ≤ 1000 ∧ dx ≠ a ∧ h.get? a = some (PySem.W.instObj C dx) ∧
      ∃ mA, h.Ns1 dx mA ∧ (∀ f, RelO (fs.lookup f) (mA f)) ∧ PySem.Within mA (fs.map (·.1))
  | .own _ => ∃ o, h.get? a = some o
  | .xd fs => ∃ mA, h.Ns1 a mA ∧ ∀ f, RelO (fs.lookup f) (mA f)
  | .rng lo hi => ∃ t u v, h.get? a = some { cls := .type "range", data := .fields #[.int lo t, .int hi u, .int 1 v] }
  | .frz o u => h.get? a = some o ∧ ObjOk H h a u
  | .tbl ps => h.get? a = some { cls := .none, data := .fields ps }
  | .met f x => h.get? a = some (PySem.W.methodObj (.ref f) (.ref x))
  | .ext φ => φ h ∧ (∃ o, h.get? a = some o) ∧ ∀ h1 h2 : Heap, φ h1 → (∀ o, h1.get? a = some o → h2.get? a = some o) → φ h2
/-- the abstract heap is held -/
def HOk (H : Hp) (h : Heap) : Prop := ∀ a o, H a = some o → ObjOk P w H h a o
end

section
variable {P : Program} {w : World} {H H' : Hp} {h h' : Heap} {a : Addr} {o : HO}
theorem ObjOk.lt (x : ObjOk P w H h a o) : a < h.objs.size := by
  cases o with
  | lst xs => obtain ⟨_, _, _, _, e⟩ := x; exact Heap.lt_size e
  | tup xs => obtain ⟨_, _, _, p⟩ := x; exact p.lt
  | dK kvs => obtain ⟨_, _, _, _, o, _, _, e, _⟩ := x; exact Heap.lt_size e
  | dT kvs => obtain ⟨_, _, _, _, o, _, _, e, _⟩ := x; exact Heap.lt_size e
  | set S n => obtain ⟨o, _, _, _, e, _⟩ := x; exact Heap.lt_size e
  | ins C dx fs => obtain ⟨_, _, _, e, _⟩ := x; exact Heap.lt_size e
  | own y => obtain ⟨_, e⟩ := x; exact Heap.lt_size e
  | xd fs => obtain ⟨_, ⟨_, _, _, e, _⟩, _⟩ := x; exact Heap.lt_size e
  | rng lo hi => obtain ⟨_, _, _, e⟩ := x; exact Heap.lt_size e
  | frz ob u => obtain ⟨e, _⟩ := x; exact Heap.lt_size e
  | tbl ps => exact Heap.lt_size (show h.get? a = some _ from x)
  | met f y => exact Heap.lt_size (show h.get? a = some _ from x)
  | ext φ => obtain ⟨_, ⟨_, e⟩, _⟩ := x; exact Heap.lt_size e
theorem Paired.mapP {α β : Type} {F G : α → β → Prop} : ∀ {l₁ : List α} {l₂ : List β}, Paired F l₁ l₂ → (∀ a b, F a b → G a b) → Paired G l₁ l₂
  | _, _, .nil, _ => .nil
  | _, _, .cons r t, f => .cons (f _ _ r) (Paired.mapP t f)
/-- what an object's description leans on: its own object, its own dict, the tuples -/
theorem ObjOk.stay (x : ObjOk P w H h a o) (k : ∀ b u, (b = a ∨ H b = some (.own a)) → h.get? b = some u → h'.get? b = some u)
    (ho : ∀ b, H b = some (.own a) → H' b = some (.own a)) (ht : ∀ b xs, H b = some (.tup xs) → H' b = some (.tup xs)) : ObjOk P w H' h' a o := by
  induction o with
  | lst xs => obtain ⟨z, its, n, r, e⟩ := x; exact ⟨z, its, n, r, k _ _ (.inl rfl) e⟩
  | tup xs => obtain ⟨z, its, r, ob, e, c⟩ := x; exact ⟨z, its, r, ob, k _ _ (.inl rfl) e, c⟩
  | dK kvs => obtain ⟨z, y, vs, r, ob, es, ep, e, c⟩ := x; exact ⟨z, y, vs, r, ob, es, ep, k _ _ (.inl rfl) e, c⟩
  | dT kvs =>
    obtain ⟨z, y, xs, r, ob, es, ep, e, c⟩ := x
    exact ⟨z, y, xs, Paired.mapP r fun p q z => ⟨z.1, ht _ _ z.2.1, z.2.2⟩, ob, es, ep, k _ _ (.inl rfl) e, c⟩
  | set S n => obtain ⟨ob, es, ep, t, e, c⟩ := x; exact ⟨ob, es, ep, t, k _ _ (.inl rfl) e, c⟩
  | ins C dx fs =>
    obtain ⟨d, z, ne, e, mA, ⟨od, es, ep, e2, c⟩, r⟩ := x
    exact ⟨ho _ d, z, ne, k _ _ (.inl rfl) e, mA, ⟨od, es, ep, k _ _ (.inr d) e2, c⟩, r⟩
  | own y => obtain ⟨ob, e⟩ := x; exact ⟨ob, k _ _ (.inl rfl) e⟩
  | xd fs => obtain ⟨mA, ⟨od, es, ep, e, c⟩, r⟩ := x; exact ⟨mA, ⟨od, es, ep, k _ _ (.inl rfl) e, c⟩, r⟩
  | rng lo hi => obtain ⟨t, u, v, e⟩ := x; exact ⟨t, u, v, k _ _ (.inl rfl) e⟩
  | frz ob u ih => obtain ⟨e, q⟩ := x; exact ⟨k _ _ (.inl rfl) e, ih q⟩
  | tbl ps =>
    have e : h.get? a = some { cls := .none, data := .fields ps } := x
    show h'.get? a = some { cls := .none, data := .fields ps }
    exact k a _ (.inl rfl) e
  | met f y =>
    have e : h.get? a = some (PySem.W.methodObj (.ref f) (.ref y)) := x
    show h'.get? a = some (PySem.W.methodObj (.ref f) (.ref y))
    exact k a _ (.inl rfl) e
  | ext φ => obtain ⟨p, ⟨o, e⟩, st⟩ := x; exact ⟨st _ _ p fun o q => k _ _ (.inl rfl) q, ⟨o, k _ _ (.inl rfl) e⟩, st⟩
theorem HOk.lt (x : HOk P w H h) (e : H a = some o) : a < h.objs.size := (x a o e).lt
theorem HOk.fresh (x : HOk P w H h) (e : h.objs.size ≤ a) : H a = none := by
  cases q : H a with
  | none => rfl
  | some u => exact absurd (Nat.lt_of_lt_of_le (x.lt q) e) (Nat.lt_irrefl _)
/-- every object of the heap is kept -/
theorem HOk.kept (x : HOk P w H h) (k : ∀ b u, h.get? b = some u → h'.get? b = some u) : HOk P w H h' := fun a o e =>
  (x a o e).stay (fun b u _ q => k b u q) (fun _ q => q) fun _ _ q => q
/-- a new object is laid and tracked -/
theorem HOk.laid (x : HOk P w H h) (k : ∀ b u, h.get? b = some u → h'.get? b = some u) (hp : h.objs.size ≤ a) (new : ObjOk P w (upd H a o) h' a o) : HOk P w (upd H a o) h' := fun b u e => by
  have hn := x.fresh hp
  by_cases hb : b = a
  · subst hb; rw [upd_same] at e; cases e; exact new
  · rw [upd_ne hb] at e
    exact (x b u e).stay (fun c v _ q => k c v q) (fun c q => by rw [upd_ne (ne_of_none q hn)]; exact q) fun c xs q => by rw [upd_ne (ne_of_none q hn)]; exact q
end

/-- what may be read as u: it is u, or a known u -/
def Rd (H : Hp) (a : Addr) (u : HO) : Prop := H a = some u ∨ ∃ o, H a = some (.frz o u)
theorem Rd.ok {P : Program} {w : World} {H : Hp} {h : Heap} {a : Addr} {u : HO} (r : Rd H a u) (x : HOk P w H h) : ObjOk P w H h a u := by
  rcases r with r | ⟨o, r⟩
  · exact x a u r
  · obtain ⟨_, q⟩ := x a _ r
    exact q
/-- what may be written -/
def Mut : Option HO → Prop
  | some (.lst _) => True
  | some (.dK _) => True
  | some (.dT _) => True
  | some (.set _ _) => True
  | some (.ins _ _ _) => True
  | some (.ext _) => True
  | _ => False
section
variable {P : Program} {w : World} {H : Hp} {h h' : Heap} {x e : Addr} {o' : HO}
/-- the object at e is changed: x itself, or the dict of the instance x -/
theorem HOk.write (ok : HOk P w H h) (mu : Mut (H x)) (he : e = x ∨ H e = some (.own x)) (k : ∀ b u, b ≠ e → h.get? b = some u → h'.get? b = some u) (heo : ∃ u, h'.get? e = some u)
    (new : ObjOk P w (upd H x o') h' x o') : HOk P w (upd H x o') h' := fun b u q => by
  have nown : ∀ c y, H c = some (.own y) → c ≠ x := fun c y r z => by subst z; rw [r] at mu; exact mu
  have ntup : ∀ c xs, H c = some (.tup xs) → c ≠ x := fun c xs r z => by subst z; rw [r] at mu; exact mu
  by_cases hb : b = x
  · subst hb; rw [upd_same] at q; cases q; exact new
  · rw [upd_ne hb] at q
    by_cases hbe : b = e
    · have q' : H b = some (.own x) := by
        rcases he with z | z
        · exact absurd (hbe.trans z) hb
        · rw [hbe]; exact z
      rw [q] at q'; cases q'
      obtain ⟨v, hv⟩ := heo
      exact ⟨v, by rw [hbe]; exact hv⟩
    · refine (ok b u q).stay (fun c v hc r => k c v ?_ r) (fun c r => by rw [upd_ne (nown c b r)]; exact r) fun c xs r => by rw [upd_ne (ntup c xs r)]; exact r
      rcases hc with rfl | hc
      · exact hbe
      · rintro rfl
        rcases he with z | z
        · exact nown c b hc z
        · rw [hc] at z; cases z; exact hb rfl
end

/-! ### kept unless tracked; of the frames at fs (the callers') the slots may change (an exception that passes writes there); of the records at ex (iterators) nothing is said -/
structure Un (fs ex : List Addr) (H H' : Hp) (h h' : Heap) : Prop where
  keep : ∀ b o, h.get? b = some o → H b = none → b ∉ fs → b ∉ ex → h'.get? b = some o
  slot : ∀ b o, h.get? b = some o → H b = none → b ∈ fs → b ∉ ex → ∃ sl, h'.get? b = some { o with slots := sl }
  free : ∀ b o, h.get? b = some o → H b = none → b ∉ ex → H' b = none
  there : ∀ b o, h.get? b = some o → b ∉ ex → ∃ o', h'.get? b = some o'
  tups : ∀ b xs, H b = some (.tup xs) → H' b = some (.tup xs)
  frzs : ∀ b o u, H b = some (.frz o u) → H' b = some (.frz o u)
  tbls : ∀ b ps, H b = some (.tbl ps) → ∃ more, H' b = some (.tbl (ps ++ more))
section
variable {fs fs' ex ex' : List Addr} {H H1 H2 : Hp} {h h1 h2 h' : Heap} {a x e : Addr} {o : HO}
theorem Un.any (u : Un fs ex H H1 h h1) {b : Addr} {ob : Obj} (q : h.get? b = some ob) (n : H b = none) (hx : b ∉ ex) : ∃ sl, h1.get? b = some { ob with slots := sl } := by
  by_cases hb : b ∈ fs
  · exact u.slot b ob q n hb hx
  · exact ⟨ob.slots, u.keep b ob q n hb hx⟩
theorem Un.kept (k : ∀ b u, h.get? b = some u → h'.get? b = some u) : Un fs ex H H h h' :=
  ⟨fun b ob q _ _ _ => k b ob q, fun b ob q _ _ _ => ⟨ob.slots, k b ob q⟩, fun _ _ _ n _ => n, fun b ob q _ => ⟨ob, k b ob q⟩, fun _ _ q => q, fun _ _ _ q => q, fun _ ps q => ⟨#[], by rw [q]; simp⟩⟩
theorem Un.refl : Un fs ex H H h h := Un.kept fun _ _ q => q
theorem Un.laid (k : ∀ b u, h.get? b = some u → h'.get? b = some u) (hp : h.objs.size ≤ a) (hn : H a = none) : Un fs ex H (upd H a o) h h' where
  keep := fun b u q _ _ _ => k b u q
  slot := fun b u q _ _ _ => ⟨u.slots, k b u q⟩
  free := fun b u q n _ => by rw [upd_ne (Nat.ne_of_lt (Nat.lt_of_lt_of_le (Heap.lt_size q) hp))]; exact n
  there := fun b u q _ => ⟨u, k b u q⟩
  tups := fun b xs q => by rw [upd_ne (ne_of_none q hn)]; exact q
  frzs := fun b u xs q => by rw [upd_ne (ne_of_none q hn)]; exact q
  tbls := fun b ps q => ⟨#[], by rw [upd_ne (ne_of_none q hn), q]; simp⟩
theorem Un.write (mu : Mut (H x)) (he : e = x ∨ H e = some (.own x)) (k : ∀ b u, b ≠ e → h.get? b = some u → h'.get? b = some u) (heo : ∃ u, h'.get? e = some u) : Un fs ex H (upd H x o) h h' := by
  have hx : ∀ b, H b = none → b ≠ x := fun b n z => by subst z; rw [n] at mu; exact mu
  have hb : ∀ b, H b = none → b ≠ e := fun b n z => by
    subst z
    rcases he with r | r
    · exact hx b n r
    · rw [n] at r; cases r
  have hm : ∀ b u, H b = some u → ¬ Mut (some u) → b ≠ x := fun b u q nm z => by subst z; rw [q] at mu; exact nm mu
  refine ⟨fun b u q n _ _ => k b u (hb b n) q, fun b u q n _ _ => ⟨u.slots, k b u (hb b n) q⟩, fun b u q n _ => by rw [upd_ne (hx b n)]; exact n, fun b u q _ => ?_,
    fun b xs q => by rw [upd_ne (hm b _ q fun z => z)]; exact q, fun b u xs q => by rw [upd_ne (hm b _ q fun z => z)]; exact q, fun b ps q => ⟨#[], by rw [upd_ne (hm b _ q fun z => z), q]; simp⟩⟩
  by_cases hbe : b = e
  · subst hbe; exact heo
  · exact ⟨u, k b u hbe q⟩
end

/-! ### the heap without what is tracked -/
def trk (h : Heap) (H : Hp) : List Addr := (List.range h.objs.size).filter fun a => (H a).isSome
def hidT (h : Heap) (H : Hp) : Heap := PySem.W.hideAll h (trk h H)
theorem hidT_size (h : Heap) (H : Hp) : (hidT h H).objs.size = h.objs.size := PySem.W.hideAll_size _ _
theorem hidT_get {h : Heap} {H : Hp} {b : Addr} {o : Obj} (e : h.get? b = some o) (n : H b = none) : (hidT h H).get? b = some o :=
  PySem.W.hideAll_get _ e fun hm => by
    have q : (H b).isSome = true := (List.mem_filter.mp hm).2
    rw [n] at q; simp at q
theorem of_hidT {h : Heap} {H : Hp} {b : Addr} {o : Obj} (e : (hidT h H).get? b = some o) : h.get? b = some o ∧ H b = none := by
  have e' : h.get? b = some o := PySem.W.of_hideAll (trk h H) e
  refine ⟨e', ?_⟩
  cases q : H b with
  | none => rfl
  | some x =>
    have hm : b ∈ trk h H := List.mem_filter.mpr ⟨List.mem_range.mpr (Heap.lt_size e'), by simp [q]⟩
    have z : (hidT h H).get? b = none := PySem.W.hideAll_none (trk h H) hm
    rw [z] at e; cases e

/-! ### OpenK's ledger, filled with every new object but one -/
end L2

namespace L2
open PySem PySem.Spec PyProof.Rows

/-- the module's facts, over the base: the heap at the law's entry without what is tracked there -/
structure Mod (K : PySem.W.Frag) (mg : Str → Option Value) (base : Heap) : Prop where
  kin : K.In base
  glob : base.Ns mainGlobals mg
  blt : ∃ mb, base.Ns builtinsNs mb ∧ ∀ x : Str, x ≠ "__name__" → mb x = bootBuiltins x
  nolimit : base.NoLimit

/-- the context: a def's body (or a comprehension's block) running. base: fixed through the whole law; s₀, H₀: the entry; outer: the frames whose slots others may change (a def's callers); stack: all frames that run;
   ex: iterators that were made ahead of the entry and are walked here (a comprehension's); fn: the names whose cells were made at the entry (a def: all; a comprehension's block: its own); calm: not within an except suite; pn: pins that every state bears; xe: what is wanted of an exception that leaves the code -/
structure Cx where
  prog : Program
  w : World
  K : PySem.W.Frag
  mg : Str → Option Value
  base : Heap
  A : Around
  N : List Str
  s₀ : Shared
  H₀ : Hp
  env : Env
  outer : List Env
  stack : List Env
  ex : List Addr
  fn : Str → Bool
  calm : Bool
  pn : List (Addr × Obj)
  xe : Value → Shared → Prop
/-- the callers' frames -/
def frs (l : List Env) : List Addr := l.filterMap (·.frame)
abbrev Cx.fs (X : Cx) : List Addr := frs X.outer

def Vis (sc : Scope) (x : Str) : Prop := sc.names.lookup x = some .local ∨ sc.names.lookup x = some .cell ∨ sc.names.lookup x = some .free
def Loc (sc : Scope) (x : Str) : Prop := sc.names.lookup x = some .local ∨ sc.names.lookup x = some .cell
def Look (env : Env) (h : Heap) (m : Str → Option Value) (x : Str) (u : Value) : Prop :=
  (env.kindOf x = some .local ∧ m x = some u) ∨ ((env.kindOf x = some .cell ∨ env.kindOf x = some .free) ∧ ∃ c, env.cells.lookup x = some c ∧ h.IsCell c (some u))

structure Cx.Ok (X : Cx) : Prop where
  mod : Mod X.K X.mg X.base
  kind : X.env.scope.kind = .function
  glob : X.env.globals = mainGlobals
  blt : X.env.builtins = builtinsNs
  above : X.s₀.heap.objs.size ≤ X.env.locals
  inj : ∀ x y c, X.env.cells.lookup x = some c → X.env.cells.lookup y = some c → x = y
  has : ∀ x, (X.env.kindOf x = some .cell ∨ X.env.kindOf x = some .free) → ∃ c, X.env.cells.lookup x = some c
  cab : ∀ x c, X.fn x = true → X.env.cells.lookup x = some c → X.s₀.heap.objs.size ≤ c
  hd : X.calm = true → X.A.handled = none
  frames : X.A.frames = some X.stack
  stk : X.stack = X.outer ∨ (X.stack = X.env :: X.outer ∧ X.env.frame = some X.env.locals)
  exf : ∀ b ∈ X.ex, b ≠ X.env.locals ∧ ∀ x c, X.env.cells.lookup x = some c → c ≠ b
  bs : ∀ b o, X.base.get? b = some o → X.s₀.heap.get? b = some o ∧ X.H₀ b = none
  bsz : X.base.objs.size ≤ X.s₀.heap.objs.size
  noex : ∀ b o, X.base.get? b = some o → b ∉ X.ex
  exfs : ∀ b ∈ X.ex, b ∉ X.fs
  funs : X.s₀.heap.FunFrames X.base X.outer
  frf : ∀ b ∈ X.fs, X.H₀ b = none

structure Inv (X : Cx) (pins : List (Addr × Obj)) (σ : List (Option V)) (H : Hp) (s : Shared) : Prop where
  ok : X.Ok
  os : s.os = X.s₀.os
  bare : AllBare s.gens
  base : Un X.fs X.ex X.H₀ H X.s₀.heap s.heap
  loc : ∃ m, s.heap.Ns X.env.locals m ∧ ∀ (i : Nat) (x : Str) (v : V), X.N[i]? = some x → σ[i]? = some (some v) → Vis X.env.scope x → ∃ u, RelV v u ∧ Look X.env s.heap m x u
  cell : ∀ x c, X.env.cells.lookup x = some c → ∃ v, s.heap.IsCell c v
  free : H X.env.locals = none
  freeC : ∀ x c, X.env.cells.lookup x = some c → H c = none
  pin : ∀ p ∈ X.pn ++ pins, s.heap.get? p.1 = some p.2 ∧ H p.1 = none ∧ p.1 ≠ X.env.locals ∧ p.1 ∉ X.fs ∧ ∀ v, p.2.data ≠ .cell v
  hok : HOk X.prog X.w H s.heap
  len : σ.length = X.N.length

section
variable {X : Cx} {pins : List (Addr × Obj)} {σ : List (Option V)} {H H' : Hp} {s : Shared} {h' : Heap}

theorem Cx.Ok.nofr (ok : X.Ok) {b : Addr} {o : Obj} (e : X.base.get? b = some o) : b ∉ X.fs := fun hb => by
  have := (ok.funs.mem hb).1
  rw [e] at this; cases this
theorem Inv.bs (I : Inv X pins σ H s) : ∀ b o, X.base.get? b = some o → s.heap.get? b = some o ∧ H b = none := fun b o e =>
  ⟨I.base.keep b o (I.ok.bs b o e).1 (I.ok.bs b o e).2 (I.ok.nofr e) (I.ok.noex b o e), I.base.free b o (I.ok.bs b o e).1 (I.ok.bs b o e).2 (I.ok.noex b o e)⟩
theorem Inv.bk (I : Inv X pins σ H s) : ∀ b o, X.base.get? b = some o → s.heap.get? b = some o := fun b o e => (I.bs b o e).1
theorem Inv.mod (I : Inv X pins σ H s) : Mod X.K X.mg X.base := I.ok.mod
theorem Inv.kIn (I : Inv X pins σ H s) : X.K.In s.heap := I.ok.mod.kin.keeps I.bk
theorem Inv.lt (I : Inv X pins σ H s) : X.env.locals < s.heap.objs.size := let ⟨_, hn, _⟩ := I.loc; hn.lt
theorem Inv.sz (I : Inv X pins σ H s) : X.s₀.heap.objs.size ≤ s.heap.objs.size := Nat.le_trans I.ok.above (Nat.le_of_lt I.lt)
theorem Inv.nofs (I : Inv X pins σ H s) {a : Addr} (h : s.heap.objs.size ≤ a) : a ∉ X.fs := fun hb => by
  obtain ⟨_, o, ho, _⟩ := I.ok.funs.mem hb
  exact absurd (Nat.lt_of_lt_of_le (Heap.lt_size ho) (Nat.le_trans I.sz h)) (Nat.lt_irrefl _)
theorem Inv.cne (I : Inv X pins σ H s) : ∀ x c, X.env.cells.lookup x = some c → c ≠ X.env.locals := fun x c e z => by
  obtain ⟨v, o, ho, hd⟩ := I.cell x c e
  obtain ⟨m, ⟨o', es, ep, ho', hd', _⟩, _⟩ := I.loc
  rw [z, ho'] at ho; cases ho; rw [hd'] at hd; cases hd
theorem Inv.funs (I : Inv X pins σ H s) : s.heap.FunFrames X.base X.outer := by
  have all : ∀ (l : List Env), (∀ b ∈ frs l, b ∈ X.fs) → X.s₀.heap.FunFrames X.base l → s.heap.FunFrames X.base l := by
    intro l
    induction l with
    | nil => intro _ _; trivial
    | cons env r ih =>
      intro hs hl
      obtain ⟨hk, ⟨L, o, hf, hn, ho, hd⟩, hr⟩ := hl
      have hL : L ∈ X.fs := hs L (by unfold frs; rw [List.filterMap_cons, hf]; exact List.mem_cons_self)
      obtain ⟨sl, e⟩ := I.base.slot L o ho (I.ok.frf L hL) hL fun z => I.ok.exfs L z hL
      exact ⟨hk, ⟨L, _, hf, hn, e, hd⟩, ih (fun b hb => hs b (by unfold frs; rw [List.filterMap_cons, hf]; exact List.mem_cons_of_mem _ hb)) hr⟩
  exact all X.outer (fun _ hb => hb) I.ok.funs

/-- the frames that run, for a call -/
theorem Inv.stack (I : Inv X pins σ H s) : s.heap.FunFrames X.base X.stack := by
  rcases I.ok.stk with e | ⟨e, hf⟩
  · rw [e]; exact I.funs
  · rw [e]
    obtain ⟨m, hn, _⟩ := I.loc
    refine .cons (by rw [I.ok.kind]; decide) hf hn ?_ I.funs
    exact Heap.get?_none_of_le (Nat.le_trans I.ok.bsz I.ok.above)
theorem Inv.stkSub (I : Inv X pins σ H s) : ∀ b ∈ frs X.stack, b ∈ X.env.locals :: X.fs := fun b hb => by
  rcases I.ok.stk with e | ⟨e, hf⟩
  · rw [e] at hb; exact List.mem_cons_of_mem _ hb
  · rw [e] at hb
    unfold frs at hb
    rw [List.filterMap_cons, hf] at hb
    exact hb
theorem Inv.stkFree (I : Inv X pins σ H s) : ∀ b ∈ frs X.stack, H b = none := fun b hb => by
  rcases List.mem_cons.mp (I.stkSub b hb) with e | hb
  · rw [e]; exact I.free
  · obtain ⟨_, o, ho, _⟩ := I.ok.funs.mem hb
    exact I.base.free b o ho (I.ok.frf b hb) fun z => I.ok.exfs b z hb

/-- THE STEP: the untracked objects but the frame and the records at ch are kept (the callers' frames up to slots), the frame's map is kept, the new abstract heap is held -/
theorem Inv.step {g' : Array GenState} {t' : Nat} {d' : Drawn} {ch : List Addr} (I : Inv X pins σ H s)
    (hch : ∀ b ∈ ch, (b ∈ X.ex ∨ X.s₀.heap.objs.size ≤ b) ∧ b ≠ X.env.locals ∧ (∀ x c, X.env.cells.lookup x = some c → c ≠ b) ∧ ∀ p ∈ X.pn ++ pins, p.1 ≠ b)
    (keep : ∀ b o, b ≠ X.env.locals → b ∉ X.fs → b ∉ ch → s.heap.get? b = some o → H b = none → h'.get? b = some o)
    (slot : ∀ b o, b ≠ X.env.locals → b ∈ X.fs → b ∉ ch → s.heap.get? b = some o → H b = none → ∃ sl, h'.get? b = some { o with slots := sl }) (free : ∀ b o, b ∉ ch → s.heap.get? b = some o → H b = none → H' b = none)
    (there : ∀ b o, b ∉ ch → s.heap.get? b = some o → ∃ o', h'.get? b = some o')
    (tups : ∀ b xs, H b = some (.tup xs) → H' b = some (.tup xs)) (frzs : ∀ b o u, H b = some (.frz o u) → H' b = some (.frz o u)) (tbls : ∀ b ps, H b = some (.tbl ps) → ∃ more, H' b = some (.tbl (ps ++ more)))
    (ns : ∀ m, s.heap.Ns X.env.locals m → h'.Ns X.env.locals m) (hok : HOk X.prog X.w H' h') (hg : AllBare g') :
    Inv X pins σ H' { s with heap := h', gens := g', drawn := d', toks := t' } := by
  have neL : ∀ b o, X.s₀.heap.get? b = some o → b ≠ X.env.locals := fun b o e => Nat.ne_of_lt (Nat.lt_of_lt_of_le (Heap.lt_size e) I.ok.above)
  have neC : ∀ b o, X.s₀.heap.get? b = some o → b ∉ X.ex → b ∉ ch := fun b o e hx hb => by
    rcases (hch b hb).1 with z | z
    · exact hx z
    · exact absurd (Nat.lt_of_lt_of_le (Heap.lt_size e) z) (Nat.lt_irrefl _)
  have cellK : ∀ x c, X.env.cells.lookup x = some c → ∀ v, s.heap.IsCell c v → h'.IsCell c v := fun x c e v ⟨o, ho, hd⟩ => by
    have nch : c ∉ ch := fun z => (hch c z).2.2.1 x c e rfl
    by_cases hc : c ∈ X.fs
    · obtain ⟨sl, q⟩ := slot c o (I.cne x c e) hc nch ho (I.freeC x c e)
      exact ⟨_, q, hd⟩
    · exact ⟨o, keep c o (I.cne x c e) hc nch ho (I.freeC x c e), hd⟩
  refine ⟨I.ok, I.os, hg, ⟨fun b o e n hb hx => ?_, fun b o e n hb hx => ?_, fun b o e n hx => ?_, fun b o e hx => ?_, fun b xs e => tups b xs (I.base.tups b xs e), fun b o xs e => frzs b o xs (I.base.frzs b o xs e), fun b ps e => ?_⟩, ?_, fun x c e => ?_, ?_, fun x c e => ?_, fun p hp => ?_, hok, I.len⟩
  · exact keep b o (neL b o e) hb (neC b o e hx) (I.base.keep b o e n hb hx) (I.base.free b o e n hx)
  · obtain ⟨sl, e1⟩ := I.base.slot b o e n hb hx
    obtain ⟨sl', e2⟩ := slot b _ (neL b o e) hb (neC b o e hx) e1 (I.base.free b o e n hx)
    exact ⟨sl', e2⟩
  · obtain ⟨o', e1⟩ := I.base.there b o e hx
    exact free b o' (neC b o e hx) e1 (I.base.free b o e n hx)
  · obtain ⟨o', e1⟩ := I.base.there b o e hx
    exact there b o' (neC b o e hx) e1
  · obtain ⟨m1, e1⟩ := I.base.tbls b ps e
    obtain ⟨m2, e2⟩ := tbls b _ e1
    exact ⟨m1 ++ m2, by rw [e2, Array.append_assoc]⟩
  · obtain ⟨m, hn, hl⟩ := I.loc
    refine ⟨m, ns m hn, fun i x v e1 e2 e3 => ?_⟩
    obtain ⟨u, r, l⟩ := hl i x v e1 e2 e3
    refine ⟨u, r, ?_⟩
    rcases l with l | ⟨k, c, e, z⟩
    · exact .inl l
    · exact .inr ⟨k, c, e, cellK x c e _ z⟩
  · obtain ⟨v, z⟩ := I.cell x c e
    exact ⟨v, cellK x c e v z⟩
  · obtain ⟨m, ⟨o, _, _, ho, _⟩, _⟩ := I.loc
    exact free _ o (fun z => (hch _ z).2.1 rfl) ho I.free
  · obtain ⟨v, o, ho, hd⟩ := I.cell x c e
    exact free c o (fun z => (hch c z).2.2.1 x c e rfl) ho (I.freeC x c e)
  · obtain ⟨e, n, ne, nf, d⟩ := I.pin p hp
    have nch : p.1 ∉ ch := fun z => (hch p.1 z).2.2.2 p hp rfl
    exact ⟨keep p.1 p.2 ne nf nch e n, free p.1 p.2 nch e n, ne, nf, d⟩
/-- .. where the frame's own object is kept too -/
theorem Inv.un {t' : Nat} (I : Inv X pins σ H s) (u : Un X.fs [] H H' s.heap h') (hok : HOk X.prog X.w H' h') : Inv X pins σ H' { s with heap := h', toks := t' } := by
  obtain ⟨m, ⟨o, es, ep, ho, r⟩, _⟩ := id I.loc
  obtain ⟨sl, hL⟩ := u.any ho I.free (by simp)
  exact I.step (g' := s.gens) (d' := s.drawn) (ch := []) (fun _ z => nomatch z) (fun b o _ hb _ e n => u.keep b o e n hb (by simp)) (fun b o _ hb _ e n => u.slot b o e n hb (by simp)) (fun b o _ e n => u.free b o e n (by simp)) (fun b o _ e => u.there b o e (by simp)) u.tups u.frzs u.tbls (fun m' hm => by
    obtain ⟨o', es', ep', ho', r'⟩ := hm
    rw [ho] at ho'; cases ho'
    exact ⟨_, es', ep', hL, r'⟩) hok I.bare
/-- behind a call (or a comprehension's block): the slots of this frame may have changed too, the records at ch may have turned -/
theorem Inv.call {g' : Array GenState} {t' : Nat} {d' : Drawn} {ch : List Addr} (I : Inv X pins σ H s) (u : Un (frs X.stack) ch H H' s.heap h') (hok : HOk X.prog X.w H' h') (hg : AllBare g')
    (hch : ∀ b ∈ ch, (b ∈ X.ex ∨ X.s₀.heap.objs.size ≤ b) ∧ b ≠ X.env.locals ∧ (∀ x c, X.env.cells.lookup x = some c → c ≠ b) ∧ ∀ p ∈ X.pn ++ pins, p.1 ≠ b) :
    Inv X pins σ H' { s with heap := h', gens := g', drawn := d', toks := t' } := by
  obtain ⟨m, ⟨o, es, ep, ho, r⟩, _⟩ := id I.loc
  obtain ⟨sl, hL⟩ := u.any ho I.free fun z => (hch _ z).2.1 rfl
  exact I.step (ch := ch) hch (fun b o hL hb hc e n => u.keep b o e n (fun z => (List.mem_cons.mp (I.stkSub b z)).elim hL hb) hc) (fun b o _ _ hc e n => u.any e n hc) (fun b o hc e n => u.free b o e n hc) (fun b o hc e => u.there b o e hc) u.tups u.frzs u.tbls (fun m' hm => by
    obtain ⟨o', es', ep', ho', r'⟩ := hm
    rw [ho] at ho'; cases ho'
    exact ⟨_, es', ep', hL, r'⟩) hok hg
/-- an untracked record of ours (an iterator) has turned -/
theorem Inv.turned {t' : Nat} {it : Addr} (I : Inv X pins σ H s) (k : ∀ b o, b ≠ it → s.heap.get? b = some o → h'.get? b = some o) (hn : H it = none) (hL : it ≠ X.env.locals)
    (h1 : it ∈ X.ex ∨ X.s₀.heap.objs.size ≤ it) (h2 : ∀ x c, X.env.cells.lookup x = some c → c ≠ it) (h3 : ∀ p ∈ X.pn ++ pins, p.1 ≠ it) : Inv X pins σ H { s with heap := h', toks := t' } := by
  have nit : ∀ b u, H b = some u → b ≠ it := fun b u e z => by rw [z, hn] at e; cases e
  refine I.step (g' := s.gens) (d' := s.drawn) (ch := [it]) (fun b hb => ?_) (fun b o _ _ hc e _ => k b o (fun z => hc (by simp [z])) e) (fun b o _ _ hc e _ => ⟨o.slots, k b o (fun z => hc (by simp [z])) e⟩) (fun _ _ _ _ n => n)
    (fun b o hc e => ⟨o, k b o (fun z => hc (by simp [z])) e⟩) (fun _ _ e => e) (fun _ _ _ e => e) (fun b ps e => ⟨#[], by rw [e]; simp⟩) (fun m hm => ?_) (fun b u e => ?_) I.bare
  · have e : b = it := by simpa using hb
    subst e
    exact ⟨h1, hL, h2, h3⟩
  · obtain ⟨o, es, ep, ho, r⟩ := hm
    exact ⟨o, es, ep, k _ o (Ne.symm hL) ho, r⟩
  · refine (I.hok b u e).stay (fun c v hc q => k c v ?_ q) (fun _ q => q) fun _ _ q => q
    rcases hc with z | z
    · rw [z]; exact nit b u e
    · exact nit c _ z
theorem Inv.tok (I : Inv X pins σ H s) (t : Nat) : Inv X pins σ H { s with toks := t } := I.un (h' := s.heap) (t' := t) Un.refl I.hok
/-- all objects kept -/
theorem Inv.kept {t' : Nat} (I : Inv X pins σ H s) (k : ∀ b u, s.heap.get? b = some u → h'.get? b = some u) : Inv X pins σ H { s with heap := h', toks := t' } := I.un (Un.kept k) (I.hok.kept k)
/-- a new object laid and tracked -/
theorem Inv.laid {a : Addr} {o : HO} {t' : Nat} (I : Inv X pins σ H s) (k : ∀ b u, s.heap.get? b = some u → h'.get? b = some u) (hp : s.heap.objs.size ≤ a) (new : ObjOk X.prog X.w (upd H a o) h' a o) :
    Inv X pins σ (upd H a o) { s with heap := h', toks := t' } := I.un (Un.laid k hp (I.hok.fresh hp)) (I.hok.laid k hp new)
/-- an object written -/
theorem Inv.write {x e : Addr} {o : HO} {t' : Nat} (I : Inv X pins σ H s) (mu : Mut (H x)) (he : e = x ∨ H e = some (.own x)) (k : ∀ b u, b ≠ e → s.heap.get? b = some u → h'.get? b = some u) (heo : ∃ u, h'.get? e = some u)
    (new : ObjOk X.prog X.w (upd H x o) h' x o) : Inv X pins σ (upd H x o) { s with heap := h', toks := t' } := I.un (Un.write mu he k heo) (I.hok.write mu he k heo new)
theorem Inv.pins_of {pins' : List (Addr × Obj)} (I : Inv X pins σ H s) (h : ∀ p ∈ pins', s.heap.get? p.1 = some p.2 ∧ H p.1 = none ∧ p.1 ≠ X.env.locals ∧ p.1 ∉ X.fs ∧ ∀ v, p.2.data ≠ .cell v) : Inv X pins' σ H s :=
  ⟨I.ok, I.os, I.bare, I.base, I.loc, I.cell, I.free, I.freeC, fun p hp => (List.mem_append.mp hp).elim (fun z => I.pin p (List.mem_append_left _ z)) (h p), I.hok, I.len⟩

theorem nodup_ix {N : List Str} (hN : N.Nodup) {i j : Nat} {x : Str} (a : N[i]? = some x) (b : N[j]? = some x) : i = j := by
  obtain ⟨h1, e1⟩ := List.getElem?_eq_some_iff.mp a
  obtain ⟨h2, e2⟩ := List.getElem?_eq_some_iff.mp b
  exact (List.getElem_inj hN).mp (e1.trans e2.symm)

/-- a name is stored; what changed -/
theorem store_ok2 {M : Model} {A : Around} {E : Value → Shared → Prop} {i : Nat} {x : Str} {v : V} {u : Value} {Q : Unit → Shared → Prop} (I : Inv X pins σ H s) (hN : X.N.Nodup) (hi : X.N[i]? = some x) (hx : Loc X.env.scope x) (r : RelV v u)
    (h : ∀ s', Inv X pins (σ.set i (some v)) H s' → (∃ a, Heap.SameBut a s.heap s'.heap ∧ (a = X.env.locals ∨ X.env.cells.lookup x = some a)) → Q () s') (hf : X.fn x = true ∨ X.env.scope.names.lookup x = some .local := by first | exact .inl rfl | exact .inr rfl | assumption) : wpAny M A (storeName X.env x u) Q E s := by
  obtain ⟨m, hn, hl⟩ := id I.loc
  have hcls : (X.env.scope.kind == .class || (X.env.scope.kind == .module && X.env.locals != X.env.globals)) = false := by rw [I.ok.kind]; rfl
  have hiσ : i < σ.length := by rw [I.len]; exact (List.getElem?_eq_some_iff.mp hi).1
  have cne := I.cne
  have tracked : ∀ {a : Addr} {h' : Heap}, (∃ o, s.heap.get? a = some o ∧ H a = none) → Heap.SameBut a s.heap h' → HOk X.prog X.w H h' := fun {a h'} ha hs b ob e => by
    obtain ⟨_, _, hfree⟩ := ha
    refine (I.hok b ob e).stay (fun c w' hc q => (hs.2 c ?_).trans q) (fun _ q => q) fun _ _ q => q
    rintro rfl
    rcases hc with rfl | hc
    · rw [hfree] at e; cases e
    · rw [hfree] at hc; cases hc
  rcases hx with hk | hk
  · refine wpAny_storeName_local hk hn (fun h' hn' hs => ?_) hcls
    obtain ⟨oL, _, _, hoL, _⟩ := id hn
    refine h _ ⟨I.ok, I.os, I.bare, ⟨fun b o e n hb hx => ?_, fun b o e n hb hx => ?_, I.base.free, fun b o e hx => ?_, I.base.tups, I.base.frzs, I.base.tbls⟩, ⟨_, hn', fun j y v' e1 e2 e3 => ?_⟩, fun y c e => ?_, I.free, I.freeC, fun p hp => ?_, tracked ⟨oL, hoL, I.free⟩ hs, by simpa using I.len⟩ ⟨_, hs, .inl rfl⟩
    · exact (hs.2 b (Nat.ne_of_lt (Nat.lt_of_lt_of_le (Heap.lt_size e) I.ok.above))).trans (I.base.keep b o e n hb hx)
    · obtain ⟨sl, e1⟩ := I.base.slot b o e n hb hx
      exact ⟨sl, (hs.2 b (Nat.ne_of_lt (Nat.lt_of_lt_of_le (Heap.lt_size e) I.ok.above))).trans e1⟩
    · obtain ⟨o', e1⟩ := I.base.there b o e hx
      exact ⟨o', (hs.2 b (Nat.ne_of_lt (Nat.lt_of_lt_of_le (Heap.lt_size e) I.ok.above))).trans e1⟩
    · by_cases hj : j = i
      · subst hj
        rw [hi] at e1; cases e1
        rw [List.getElem?_set_self hiσ] at e2
        cases e2
        exact ⟨u, r, .inl ⟨hk, by simp⟩⟩
      · rw [List.getElem?_set_ne (Ne.symm hj)] at e2
        obtain ⟨u', r', q⟩ := hl j y v' e1 e2 e3
        refine ⟨u', r', ?_⟩
        rcases q with ⟨k, e⟩ | ⟨k, c, e, z⟩
        · refine .inl ⟨k, ?_⟩
          have : y ≠ x := fun e => hj (nodup_ix hN e1 (e ▸ hi))
          simp [this, e]
        · exact .inr ⟨k, c, e, z.sameBut hs (cne y c e)⟩
    · obtain ⟨w', z⟩ := I.cell y c e
      exact ⟨w', z.sameBut hs (cne y c e)⟩
    · obtain ⟨e, n, ne, nf, d⟩ := I.pin p hp
      exact ⟨(hs.2 p.1 ne).trans e, n, ne, nf, d⟩
  · have hfn : X.fn x = true := by
      rcases hf with z | z
      · exact z
      · rw [z] at hk; cases hk
    obtain ⟨c, hc⟩ := I.ok.has x (.inl hk)
    obtain ⟨w', z⟩ := I.cell x c hc
    refine wpAny_storeName_cell I.ok.kind hk hc z (fun h' hc' hs => ?_)
    obtain ⟨oc, hoc, hocd⟩ := id z
    refine h { s with heap := h' } ⟨I.ok, I.os, I.bare, ⟨fun b o e n hb hx => ?_, fun b o e n hb hx => ?_, I.base.free, fun b o e hx => ?_, I.base.tups, I.base.frzs, I.base.tbls⟩, ⟨m, hn.sameBut hs (Ne.symm (cne x c hc)), fun j y v' e1 e2 e3 => ?_⟩, fun y c' e => ?_, I.free, I.freeC, fun p hp => ?_, tracked ⟨oc, hoc, I.freeC x c hc⟩ hs, by simpa using I.len⟩ ⟨c, hs, .inr hc⟩
    · exact (hs.2 b (Nat.ne_of_lt (Nat.lt_of_lt_of_le (Heap.lt_size e) (I.ok.cab x c hfn hc)))).trans (I.base.keep b o e n hb hx)
    · obtain ⟨sl, e1⟩ := I.base.slot b o e n hb hx
      exact ⟨sl, (hs.2 b (Nat.ne_of_lt (Nat.lt_of_lt_of_le (Heap.lt_size e) (I.ok.cab x c hfn hc)))).trans e1⟩
    · obtain ⟨o', e1⟩ := I.base.there b o e hx
      exact ⟨o', (hs.2 b (Nat.ne_of_lt (Nat.lt_of_lt_of_le (Heap.lt_size e) (I.ok.cab x c hfn hc)))).trans e1⟩
    · by_cases hj : j = i
      · subst hj
        rw [hi] at e1; cases e1
        rw [List.getElem?_set_self hiσ] at e2
        cases e2
        exact ⟨u, r, .inr ⟨.inl hk, c, hc, hc'⟩⟩
      · rw [List.getElem?_set_ne (Ne.symm hj)] at e2
        obtain ⟨u', r', q⟩ := hl j y v' e1 e2 e3
        refine ⟨u', r', ?_⟩
        rcases q with q | ⟨k, c', e, z'⟩
        · exact .inl q
        · refine .inr ⟨k, c', e, z'.sameBut hs ?_⟩
          rintro rfl
          exact hj (nodup_ix hN e1 (I.ok.inj _ _ _ e hc ▸ hi))
    · by_cases hcc : c' = c
      · subst hcc; exact ⟨_, hc'⟩
      · obtain ⟨w2, z2⟩ := I.cell y c' e
        exact ⟨w2, z2.sameBut hs hcc⟩
    · obtain ⟨e, n, ne, nf, d⟩ := I.pin p hp
      refine ⟨(hs.2 p.1 ?_).trans e, n, ne, nf, d⟩
      intro q
      rw [q, hoc] at e
      have q' : oc = p.2 := Option.some.inj e
      exact d w' (by rw [← q']; exact hocd)
theorem store_ok {M : Model} {A : Around} {E : Value → Shared → Prop} {i : Nat} {x : Str} {v : V} {u : Value} {Q : Unit → Shared → Prop} (I : Inv X pins σ H s) (hN : X.N.Nodup) (hi : X.N[i]? = some x) (hx : Loc X.env.scope x) (r : RelV v u)
    (h : ∀ s', Inv X pins (σ.set i (some v)) H s' → Q () s') (hf : X.fn x = true ∨ X.env.scope.names.lookup x = some .local := by first | exact .inl rfl | exact .inr rfl | assumption) : wpAny M A (storeName X.env x u) Q E s :=
  store_ok2 I hN hi hx r (fun s' I' _ => h s' I') hf
/-- behind a call or a block, the state as it is -/
theorem Inv.call' {s' : Shared} {ch : List Addr} (I : Inv X pins σ H s) (ho : s'.os = s.os) (u : Un (frs X.stack) ch H H' s.heap s'.heap) (hok : HOk X.prog X.w H' s'.heap) (hg : AllBare s'.gens)
    (hch : ∀ b ∈ ch, (b ∈ X.ex ∨ X.s₀.heap.objs.size ≤ b) ∧ b ≠ X.env.locals ∧ (∀ x c, X.env.cells.lookup x = some c → c ≠ b) ∧ ∀ p ∈ X.pn ++ pins, p.1 ≠ b) : Inv X pins σ H' s' := by
  obtain ⟨h', g', d', t', o'⟩ := s'
  have e : o' = s.os := ho
  subst e
  exact I.call (g' := g') (t' := t') (d' := d') u hok hg hch
end

/-! ### the judgements -/
/-- an exception: its class, its own dict's address (where it has one), the abstract heap behind it -/
abbrev XK := Value → Option Addr → Hp → Prop
abbrev St := List (Option V)
abbrev VK := V → Hp → Prop
/-- an expression's reading; a test's; an argument list's -/
abbrev TE := St → Hp → VK → Prop
abbrev TT := St → Hp → (Bool → Hp → Prop) → Prop
abbrev TA := St → Hp → (List V → Hp → Prop) → Prop
/-- what is wanted behind a statement -/
structure Ends where
  nx : St → Hp → Prop
  rt : VK
  bk : St → Hp → Prop := fun _ _ => False
  ct : St → Hp → Prop := fun _ _ => False
abbrev TS := Ends → St → Hp → Prop

def EP (X : Cx) (pins : List (Addr × Obj)) (σ : St) (Q : VK) (u : Value) (s' : Shared) : Prop := ∃ v H', Inv X pins σ H' s' ∧ RelV v u ∧ Q v H'
def TP (X : Cx) (pins : List (Addr × Obj)) (σ : St) (Q : Bool → Hp → Prop) (b : Bool) (s' : Shared) : Prop := ∃ H', Inv X pins σ H' s' ∧ Q b H'
def AP (X : Cx) (pins : List (Addr × Obj)) (σ : St) (Q : List V → Hp → Prop) (us : List Value) (s' : Shared) : Prop := ∃ vs H', Inv X pins σ H' s' ∧ Vals vs us ∧ Q vs H'
def SP (X : Cx) (pins : List (Addr × Obj)) (D : Ends) (f : Flow) (s' : Shared) : Prop :=
  match f with
  | .next => ∃ σ' H', Inv X pins σ' H' s' ∧ D.nx σ' H'
  | .brk => ∃ σ' H', Inv X pins σ' H' s' ∧ D.bk σ' H'
  | .cont => ∃ σ' H', Inv X pins σ' H' s' ∧ D.ct σ' H'
  | .ret u => ∃ v σ' H', Inv X pins σ' H' s' ∧ RelV v u ∧ D.rt v H'

def PE (X : Cx) (e : Expr) (t : TE) : Prop :=
  ∀ (pins : List (Addr × Obj)) (s : Shared) (σ : St) (H : Hp) (Q : VK), Inv X pins σ H s → t σ H Q → wpAny (model X.prog X.w) X.A (eval e X.env) (EP X pins σ Q) X.xe s
def PT (X : Cx) (e : Expr) (t : TT) : Prop :=
  ∀ (pins : List (Addr × Obj)) (s : Shared) (σ : St) (H : Hp) (Q : Bool → Hp → Prop), Inv X pins σ H s → t σ H Q → wpAny (model X.prog X.w) X.A (isTrue e X.env (eval e X.env)) (TP X pins σ Q) X.xe s
/-- a test whatever its 'whole' is (and, or) -/
def PW (X : Cx) (e : Expr) (t : TT) : Prop :=
  ∀ (whole : Sem Value) (pins : List (Addr × Obj)) (s : Shared) (σ : St) (H : Hp) (Q : Bool → Hp → Prop), Inv X pins σ H s → t σ H Q → wpAny (model X.prog X.w) X.A (isTrue e X.env whole) (TP X pins σ Q) X.xe s
theorem PW.pt {X : Cx} {e : Expr} {t : TT} (h : PW X e t) : PT X e t := h _
/-- an argument list (no star), from the left -/
def PA (X : Cx) (es : List Expr) (t : TA) : Prop :=
  ∀ (pos : Pos) (pins : List (Addr × Obj)) (s : Shared) (σ : St) (H : Hp) (Q : List V → Hp → Prop), Inv X pins σ H s → t σ H Q → wpAny (model X.prog X.w) X.A (spliced (backTo pos (starEach es X.env))) (AP X pins σ Q) X.xe s
def PS (X : Cx) (st : Stmt) (t : TS) : Prop :=
  ∀ (pins : List (Addr × Obj)) (s : Shared) (σ : St) (H : Hp) (D : Ends), Inv X pins σ H s → t D σ H → wpAny (model X.prog X.w) X.A (exec st X.env) (SP X pins D) X.xe s
def PSs (X : Cx) (st : List Stmt) (t : TS) : Prop :=
  ∀ (pins : List (Addr × Obj)) (s : Shared) (σ : St) (H : Hp) (D : Ends), Inv X pins σ H s → t D σ H → wpAny (model X.prog X.w) X.A (execs st X.env) (SP X pins D) X.xe s
/-- weaken the end -/
theorem thn {α : Type} {t : Sem α} {Q Q' : α → Shared → Prop} {M : Model} {A : Around} {E : Value → Shared → Prop} {s : Shared} (h : wpAny M A t Q E s) (hQ : ∀ a s, Q a s → Q' a s) : wpAny M A t Q' E s := wpAny_mono h hQ fun _ _ x => x
end L2

namespace L2
open PySem PySem.Spec PyProof.Rows
section
variable {X : Cx}

/-- two expressions in a row -/
theorem bin {a b : Expr} {ta tb : TE} (ha : PE X a ta) (hb : PE X b tb) {pins : List (Addr × Obj)} {s : Shared} {σ : St} {H : Hp} {R : V → V → Hp → Prop} (I : Inv X pins σ H s) (h : ta σ H fun x H1 => tb σ H1 fun y H2 => R x y H2)
    {α : Type} {Q : α → Shared → Prop} {f : Value → Value → Sem α}
    (hf : ∀ v u s2 x y H2, Inv X pins σ H2 s2 → RelV x v → RelV y u → R x y H2 → wpAny (model X.prog X.w) X.A (f v u) Q X.xe s2) :
    wpAny (model X.prog X.w) X.A (eval a X.env) (fun v s₁ => wpAny (model X.prog X.w) X.A (eval b X.env) (fun u s₂ => wpAny (model X.prog X.w) X.A (f v u) Q X.xe s₂) X.xe s₁) X.xe s := by
  refine thn (ha pins s σ H _ I h) fun v s1 ⟨x, H1, I1, r1, q1⟩ => ?_
  refine thn (hb pins s1 σ H1 _ I1 q1) fun u s2 ⟨y, H2, I2, r2, q2⟩ => ?_
  exact hf v u s2 x y H2 I2 r1 r2 q2

/-! ### names and constants -/
def tVar (i : Nat) : TE := fun σ H Q => ∃ v, σ[i]? = some (some v) ∧ Q v H
def tC (v : V) : TE := fun _ H Q => Q v H
theorem pe_var {i : Nat} {x : Str} {pos : Pos} (hN : X.N[i]? = some x) (hv : Vis X.env.scope x) (hd : (x == ("__debug__" : Str)) = false := by decide) (hcd : (x == ("__classdict__" : Str)) = false := by decide) : PE X (.Name x pos) (tVar i) := by
  intro pins s σ H Q I h
  obtain ⟨v, e, h⟩ := h
  obtain ⟨m, hn, hl⟩ := I.loc
  obtain ⟨u, r, l⟩ := hl i x v hN e hv
  have fin : EP X pins σ Q u s := ⟨v, H, I, r, h⟩
  rcases l with ⟨hk, hm⟩ | ⟨hk, c, hc, hcell⟩
  · exact wpAny_Name (wpAny_loadName_local I.ok.kind hk hn hm fin) hd
  · rcases hk with hk | hk
    · exact wpAny_Name (wpAny_loadName_cell I.ok.kind hk hc hcell fin) hd
    · exact wpAny_Name (wpAny_loadName_free I.ok.kind hk hc hcell fin hcd) hd
theorem pe_int {i j pos} : PE X (.Constant (.int i) j pos) (tC (.int i)) := fun _ _ _ H _ I h => wpAny_Constant_int ⟨.int i, H, I.tok _, ⟨_, rfl⟩, h⟩
theorem pe_bl {b j pos} : PE X (.Constant (.bool b) j pos) (tC (.bl b)) := fun _ _ _ H _ I h => Constant_bool ⟨.bl b, H, I, rfl, h⟩
theorem pe_non {j pos} : PE X (.Constant .none j pos) (tC .non) := fun _ _ _ H _ I h => Constant_none ⟨.non, H, I, rfl, h⟩
theorem pe_str {x j pos} : PE X (.Constant (.str x) j pos) (tC (.str x)) := fun _ _ _ H _ I h => Calls.Constant_str ⟨.str x, H, I.tok _, ⟨_, rfl⟩, h⟩

/-- a global name of the def -/
def Gl (X : Cx) (x : Str) : Prop := X.env.kindOf x = some .globalImplicit
theorem ld_glob {E : Value → Shared → Prop} {pins : List (Addr × Obj)} {s : Shared} {σ : St} {H : Hp} {x : Str} {u : Value} {pos : Pos} {Q : Value → Shared → Prop} (I : Inv X pins σ H s) (hg : Gl X x) (hm : X.mg x = some u) (h : Q u s)
    (hd : (x == ("__debug__" : Str)) = false := by decide) : wpAny (model X.prog X.w) X.A (eval (.Name x pos) X.env) Q E s :=
  Calls.Name_function_global I.ok.kind hg (Calls.loadGlobal_global (by rw [I.ok.glob]; exact I.mod.glob.keeps I.bk) hm h) hd
theorem ld_blt {E : Value → Shared → Prop} {pins : List (Addr × Obj)} {s : Shared} {σ : St} {H : Hp} {x : Str} {u : Value} {pos : Pos} {Q : Value → Shared → Prop} (I : Inv X pins σ H s) (hg : Gl X x) (hm : X.mg x = none) (hv : bootBuiltins x = some u) (h : Q u s)
    (hn : x ≠ "__name__" := by decide) (hd : (x == ("__debug__" : Str)) = false := by decide) : wpAny (model X.prog X.w) X.A (eval (.Name x pos) X.env) Q E s := by
  obtain ⟨mb, h1, h2⟩ := I.mod.blt
  exact Calls.Name_function_global I.ok.kind hg (Calls.loadGlobal_builtin (by rw [I.ok.glob]; exact I.mod.glob.keeps I.bk) hm (by rw [I.ok.blt]; exact h1.keeps I.bk) ((h2 x hn).trans hv) h) hd
/-- a module's constant, a class, a function, as a value -/
theorem pe_glob {x : Str} {v : V} {u : Value} {pos : Pos} (hg : Gl X x) (hm : X.mg x = some u) (r : RelV v u) (hd : (x == ("__debug__" : Str)) = false := by decide) : PE X (.Name x pos) (tC v) :=
  fun _ _ _ H _ I h => ld_glob I hg hm ⟨v, H, I, r, h⟩ hd
theorem pe_bltn {x : Str} {v : V} {u : Value} {pos : Pos} (hg : Gl X x) (hm : X.mg x = none) (hv : bootBuiltins x = some u) (r : RelV v u) (hn : x ≠ "__name__" := by decide) (hd : (x == ("__debug__" : Str)) = false := by decide) : PE X (.Name x pos) (tC v) :=
  fun _ _ _ H _ I h => ld_blt I hg hm hv ⟨v, H, I, r, h⟩ hn hd

/-! ### arithmetic -/
variable {a b : Expr} {ta tb : TE} {pos : Pos}

/-! ### comparisons -/
def PC (X : Cx) (op : CmpOp) (a b : Expr) (t : TE) : Prop :=
  ∀ (pins : List (Addr × Obj)) (s : Shared) (σ : St) (H : Hp) (Q : VK), Inv X pins σ H s → t σ H Q →
    wpAny (model X.prog X.w) X.A (eval a X.env) (fun v s₁ => wpAny (model X.prog X.w) X.A (eval b X.env) (fun u s₂ => wpAny (model X.prog X.w) X.A (compareOp op v u) (EP X pins σ Q) X.xe s₂) X.xe s₁) X.xe s
/-- a comparison as a value, as a test -/
def tB (t : TE) : TT := fun σ H Q => t σ H fun x H1 => ∃ c, x = .bl c ∧ Q c H1
theorem pt_cmp {op : CmpOp} {t : TE} (h : PC X op a b t) (h1 : behindInMarks op b = false := by first | exact nobehind _ (by decide) (by decide) | rfl) : PT X (.Compare a [op] [b] pos) (tB t) := by
  intro pins s σ H Q I hw
  refine wpAny_isTrue_Compare1 (thn (h pins s σ H _ I hw) fun v s1 h1 => thn h1 fun u s2 h2 => thn h2 fun c s3 ⟨x, H1, I1, r1, q1⟩ => ?_) h1
  obtain ⟨d, rfl, q⟩ := q1
  cases r1
  exact wpAny_truthy_bool ⟨H1, I1, q⟩
/-- an expression whose value is a bool, as a test -/
theorem pt_val {e : Expr} {t : TE} (h : PE X e t) (he : ∀ whole, isTrue e X.env whole = (do let v ← whole; standAt e.pos; holding [v] (truthy v)) := by intro _; rfl) : PT X e (tB t) := by
  intro pins s σ H Q I hw
  refine isTrue_plain (thn (h pins s σ H _ I hw) fun v s1 ⟨x, H1, I1, r1, q1⟩ => ?_) (he _)
  obtain ⟨d, rfl, q⟩ := q1
  cases r1
  exact wpAny_truthy_bool ⟨H1, I1, q⟩

/-! ### and, or, not -/
variable {tA tB' : TT} {rest : List Expr}
def tAnd (t u : TT) : TT := fun σ H Q => t σ H fun c H1 => if c = true then u σ H1 Q else Q false H1
def tOr (t u : TT) : TT := fun σ H Q => t σ H fun c H1 => if c = true then Q true H1 else u σ H1 Q
def tNot (t : TT) : TT := fun σ H Q => t σ H fun c H1 => Q (!c) H1
theorem pw_and1 (ha : PT X a tA) : PW X (.BoolOp .And [a] pos) tA := by
  intro wh pins s σ H Q I h
  refine isTrue_and (thn (ha pins s σ H Q I h) fun c s1 e => ?_)
  cases c with
  | true => exact isTrue_and_nil e
  | false => exact e
theorem pw_or1 (ha : PT X a tA) : PW X (.BoolOp .Or [a] pos) tA := by
  intro wh pins s σ H Q I h
  refine isTrue_or (thn (ha pins s σ H Q I h) fun c s1 e => ?_)
  cases c with
  | false => exact isTrue_or_nil e
  | true => exact e
theorem pw_and (ha : PT X a tA) (hb : PW X (.BoolOp .And (b :: rest) pos) tB') : PW X (.BoolOp .And (a :: b :: rest) pos) (tAnd tA tB') := by
  intro wh pins s σ H Q I h
  refine isTrue_and (thn (ha pins s σ H _ I h) fun c s1 ⟨H1, I1, q1⟩ => ?_)
  cases c with
  | true => exact hb wh pins s1 σ H1 Q I1 q1
  | false => exact ⟨H1, I1, q1⟩
theorem pw_or (ha : PT X a tA) (hb : PW X (.BoolOp .Or (b :: rest) pos) tB') : PW X (.BoolOp .Or (a :: b :: rest) pos) (tOr tA tB') := by
  intro wh pins s σ H Q I h
  refine isTrue_or (thn (ha pins s σ H _ I h) fun c s1 ⟨H1, I1, q1⟩ => ?_)
  cases c with
  | true => exact ⟨H1, I1, q1⟩
  | false => exact hb wh pins s1 σ H1 Q I1 q1
theorem pt_not (ha : PT X a tA) : PT X (.UnaryOp .Not a pos) (tNot tA) := by
  intro pins s σ H Q I h
  exact isTrue_not (ha pins s σ H (fun c H1 => Q (!c) H1) I h)
/-- .. as values (bools) -/
def tAndV (ta tb : TE) : TE := fun σ H Q => ta σ H fun x H1 => ∃ c, x = .bl c ∧ if c = true then tb σ H1 Q else Q (.bl false) H1
def tNotV (ta : TE) : TE := fun σ H Q => ta σ H fun x H1 => ∃ c, x = .bl c ∧ Q (.bl (!c)) H1
theorem pe_one {op} {t : TE} (h : PE X a t) : PE X (.BoolOp op [a] pos) t := fun pins s σ H Q I hw => BoolOp_one (h pins s σ H Q I hw)
theorem pe_and (ha : PE X a ta) (hb : PE X (.BoolOp .And (b :: rest) pos) tb) : PE X (.BoolOp .And (a :: b :: rest) pos) (tAndV ta tb) := by
  intro pins s σ H Q I h
  refine BoolOp_and (thn (ha pins s σ H _ I h) fun v s1 ⟨x, H1, I1, r1, q1⟩ => ?_)
  obtain ⟨c, rfl, q1⟩ := q1
  cases r1
  refine wpAny_truthy_bool ?_
  cases c with
  | true => exact hb pins s1 σ H1 Q I1 q1
  | false => exact ⟨.bl false, H1, I1, rfl, q1⟩
theorem pe_not (ha : PE X a ta) : PE X (.UnaryOp .Not a pos) (tNotV ta) := by
  intro pins s σ H Q I h
  refine UnaryOp_ (thn (ha pins s σ H _ I h) fun v s1 ⟨x, H1, I1, r1, q1⟩ => ?_)
  obtain ⟨c, rfl, q1⟩ := q1
  cases r1
  exact not_of (wpAny_truthy_bool ⟨.bl (!c), H1, I1, rfl, q1⟩)
/-- a if t else b -/
def tIf (t : TT) (ta tb : TE) : TE := fun σ H Q => t σ H fun c H1 => if c = true then ta σ H1 Q else tb σ H1 Q
theorem pe_ifExp {c : Expr} (hc : PT X c tA) (ha : PE X a ta) (hb : PE X b tb) : PE X (.IfExp c a b pos) (tIf tA ta tb) := by
  intro pins s σ H Q I h
  refine wpAny_IfExp (thn (hc pins s σ H _ I h) fun d s1 ⟨H1, I1, q1⟩ => ?_)
  cases d with
  | true => exact ha pins s1 σ H1 Q I1 q1
  | false => exact hb pins s1 σ H1 Q I1 q1
end
end L2

namespace L2
open PySem PySem.Spec PyProof.Rows

/-! ### a list, a tuple that is read: tracked, frozen, or an object of the module -/
def SqL (K : PySem.W.Frag) (H : Hp) (a : Addr) (xs : List V) : Prop :=
  Rd H a (.lst xs) ∨
    ∃ (o : Obj) (its : Array Value) (n : Nat), K.lookup a = some o ∧ o.cls = .type "list" ∧ o.dict = none ∧ o.data = .seq its n ∧ its.size ≤ sizeLine ∧ Vals xs its.toList
def SqT (K : PySem.W.Frag) (H : Hp) (a : Addr) (xs : List V) : Prop :=
  Rd H a (.tup xs) ∨
    ∃ (o : Obj) (its : Array Value) (n : Nat), K.lookup a = some o ∧ o.cls = .type "tuple" ∧ o.data = .seq its n ∧ its.size ≤ sizeLine ∧ Vals xs its.toList
def absV : Value → Option V
  | .none => some .non
  | .bool b => some (.bl b)
  | .int i _ => some (.int i)
  | .str x _ => some (.str x)
  | .bytes b _ => some (.byt b)
  | .float b _ => some (.flt b)
  | .ref a => some (.ref a)
  | .type n => some (.ty n)
  | _ => none
theorem RelV.abs {x : V} {u : Value} (r : RelV x u) : absV u = some x := by
  cases x with
  | non => cases r; rfl
  | bl _ => cases r; rfl
  | int _ => obtain ⟨t, rfl⟩ := r; rfl
  | str _ => obtain ⟨t, rfl⟩ := r; rfl
  | byt _ => obtain ⟨t, rfl⟩ := r; rfl
  | flt _ => obtain ⟨t, rfl⟩ := r; rfl
  | ref _ => cases r; rfl
  | ty _ => cases r; rfl
theorem RelV.inj {x y : V} {u : Value} (r : RelV x u) (q : RelV y u) : x = y := Option.some.inj (r.abs.symm.trans q.abs)
theorem Vals.inj : ∀ {xs ys : List V} {us : List Value}, Vals xs us → Vals ys us → xs = ys
  | _, _, _, .nil, .nil => rfl
  | _, _, _, .cons r t, .cons r' t' => by rw [r.inj r', Vals.inj t t']
section
variable {X : Cx} {pins : List (Addr × Obj)} {σ : St} {H : Hp} {s : Shared} {a : Addr} {xs ys : List V}
theorem SqL.of {K : PySem.W.Frag} (h : H a = some (.lst xs)) : SqL K H a xs := .inl (.inl h)
theorem SqT.of {K : PySem.W.Frag} (h : H a = some (.tup xs)) : SqT K H a xs := .inl (.inl h)
theorem Inv.list (I : Inv X pins σ H s) (h : SqL X.K H a xs) : ∃ its : List Value, Vals xs its ∧ PlainL s.heap a its.toArray ∧ xs.length ≤ sizeLine := by
  rcases h with h | ⟨o, its, n, hk, hc, hd, hs, hz, r⟩
  · obtain ⟨z, its, n, r, e⟩ := h.ok I.hok
    exact ⟨its, r, ⟨_, n, e, rfl, rfl, rfl⟩, z⟩
  · refine ⟨its.toList, r, ⟨o, n, I.kIn a o hk, hc, hd, by simpa using hs⟩, ?_⟩
    have e := r.length
    simp only [Array.length_toList] at e
    omega
theorem Inv.tuple (I : Inv X pins σ H s) (h : SqT X.K H a xs) : ∃ its : List Value, Vals xs its ∧ IsTup s.heap a its.toArray ∧ xs.length ≤ sizeLine := by
  rcases h with h | ⟨o, its, n, hk, hc, hs, hz, r⟩
  · obtain ⟨z, its, r, p⟩ := h.ok I.hok
    exact ⟨its, r, p, z⟩
  · refine ⟨its.toList, r, ⟨o, I.kIn a o hk, hc, n, by simpa using hs⟩, ?_⟩
    have e := r.length
    simp only [Array.length_toList] at e
    omega
theorem Inv.list_inj (I : Inv X pins σ H s) (h : SqL X.K H a xs) (h' : SqL X.K H a ys) : xs = ys := by
  obtain ⟨its, r, ⟨o, n, e, _, _, d⟩, _⟩ := I.list h
  obtain ⟨its', r', ⟨o', n', e', _, _, d'⟩, _⟩ := I.list h'
  rw [e] at e'; cases e'
  rw [d] at d'
  injection d' with d1 _
  have : its = its' := by simpa using congrArg Array.toList d1
  subst this
  exact r.inj r'
theorem Inv.tuple_inj (I : Inv X pins σ H s) (h : SqT X.K H a xs) (h' : SqT X.K H a ys) : xs = ys := by
  obtain ⟨its, r, ⟨o, e, _, n, d⟩, _⟩ := I.tuple h
  obtain ⟨its', r', ⟨o', e', _, n', d'⟩, _⟩ := I.tuple h'
  rw [e] at e'; cases e'
  rw [d] at d'
  injection d' with d1 _
  have : its = its' := by simpa using congrArg Array.toList d1
  subst this
  exact r.inj r'
end

/-! ### another wish about exceptions -/
abbrev Cx.wish (X : Cx) (E : Value → Shared → Prop) : Cx := { X with xe := E }
/-- no exception leaves -/
abbrev Cx.nox (X : Cx) : Cx := X.wish fun _ _ => False
theorem Cx.Ok.wish {X : Cx} (ok : X.Ok) (E : Value → Shared → Prop) : (X.wish E).Ok :=
  ⟨ok.mod, ok.kind, ok.glob, ok.blt, ok.above, ok.inj, ok.has, ok.cab, ok.hd, ok.frames, ok.stk, ok.exf, ok.bs, ok.bsz, ok.noex, ok.exfs, ok.funs, ok.frf⟩
theorem Cx.Ok.unwish {X : Cx} {E : Value → Shared → Prop} (ok : (X.wish E).Ok) : X.Ok :=
  ⟨ok.mod, ok.kind, ok.glob, ok.blt, ok.above, ok.inj, ok.has, ok.cab, ok.hd, ok.frames, ok.stk, ok.exf, ok.bs, ok.bsz, ok.noex, ok.exfs, ok.funs, ok.frf⟩
section
variable {X : Cx} {pins : List (Addr × Obj)} {σ : St} {H : Hp} {s : Shared} {E : Value → Shared → Prop}
theorem Inv.wish (I : Inv X pins σ H s) (E : Value → Shared → Prop) : Inv (X.wish E) pins σ H s := ⟨I.ok.wish E, I.os, I.bare, I.base, I.loc, I.cell, I.free, I.freeC, I.pin, I.hok, I.len⟩
theorem Inv.unwish (I : Inv (X.wish E) pins σ H s) : Inv X pins σ H s := ⟨I.ok.unwish, I.os, I.bare, I.base, I.loc, I.cell, I.free, I.freeC, I.pin, I.hok, I.len⟩
theorem SP.unwish {D : Ends} {f : Flow} {s' : Shared} (h : SP (X.wish E) pins D f s') : SP X pins D f s' := by
  cases f with
  | next => obtain ⟨σ', H', I, q⟩ := h; exact ⟨σ', H', I.unwish, q⟩
  | brk => obtain ⟨σ', H', I, q⟩ := h; exact ⟨σ', H', I.unwish, q⟩
  | cont => obtain ⟨σ', H', I, q⟩ := h; exact ⟨σ', H', I.unwish, q⟩
  | ret u => obtain ⟨v, σ', H', I, r, q⟩ := h; exact ⟨v, σ', H', I.unwish, r, q⟩
theorem PSs.nox {st : List Stmt} {t : TS} (h : PSs X.nox st t) : PSs X st t := fun pins s σ H D I hw =>
  wpAny_mono (h pins s σ H D (I.wish _) hw) (fun _ _ q => q.unwish) fun _ _ z => False.elim z
end

/-! ### blocks and small statements -/
section
variable {X : Cx} {st : Stmt} {rest : List Stmt} {t u : TS} {e : Expr} {te : TE} {pos : Pos}
def tNext : TS := fun D σ H => D.nx σ H
def tSeq (t u : TS) : TS := fun D σ H => t { D with nx := u D } σ H
theorem pss_nil : PSs X [] tNext := fun _ _ σ H _ I h => wpAny_execs_nil ⟨σ, H, I, h⟩
theorem pss_cons (h1 : PS X st t) (h2 : PSs X rest u) : PSs X (st :: rest) (tSeq t u) := by
  intro pins s σ H D I h
  refine wpAny_execs_cons (thn (h1 pins s σ H { D with nx := u D } I h) fun f s1 q => ?_)
  cases f with
  | next =>
    obtain ⟨σ', H', I', q⟩ := q
    exact h2 pins s1 σ' H' D I' q
  | ret v => exact q
  | brk => exact q
  | cont => exact q
theorem pss_one (h1 : PS X st t) : PSs X [st] t := by
  intro pins s σ H D I h
  refine wpAny_execs_cons (thn (h1 pins s σ H D I h) fun f s1 q => ?_)
  cases f with
  | next => exact wpAny_execs_nil q
  | ret v => exact q
  | brk => exact q
  | cont => exact q
/-- in a def's body nothing is shown -/
theorem Inv.quiet {pins : List (Addr × Obj)} {σ : St} {H : Hp} {s : Shared} (I : Inv X pins σ H s) : interactive X.env = false := by simp [interactive, I.ok.kind]
/-- an expression whose value is dropped -/
def tDrop (te : TE) : TS := fun D σ H => te σ H fun _ H1 => D.nx σ H1
theorem ps_expr (he : PE X e te) (hs : swapsWith e none pos.line X.env = pure false := by rfl) : PS X (.Expr e pos) (tDrop te) := by
  intro pins s σ H D I h
  exact wpAny_Expr_any (thn (he pins s σ H _ I h) fun v s1 ⟨x, H1, I1, r1, q1⟩ => ⟨σ, H1, I1, q1⟩) I.quiet hs
def tRet (te : TE) : TS := fun D σ H => te σ H D.rt
theorem ps_ret (he : PE X e te) : PS X (.Return (some e) pos) (tRet te) := by
  intro pins s σ H D I h
  exact wpAny_Return_some (thn (he pins s σ H _ I h) fun v s1 ⟨x, H1, I1, r1, q1⟩ => ⟨x, σ, H1, I1, r1, q1⟩)
def tIfS (c : TT) (t u : TS) : TS := fun D σ H => c σ H fun b H1 => if b = true then t D σ H1 else u D σ H1
theorem ps_if {c : Expr} {a b : List Stmt} {tc : TT} (hc : PT X c tc) (ha : PSs X a t) (hb : PSs X b u) : PS X (.If c a b pos) (tIfS tc t u) := by
  intro pins s σ H D I h
  refine wpAny_If (thn (hc pins s σ H _ I h) fun d s1 ⟨H1, I1, q1⟩ => ?_)
  cases d with
  | true => exact ha pins s1 σ H1 D I1 q1
  | false => exact hb pins s1 σ H1 D I1 q1
/-- code that the proof never comes to -/
def tNever : TS := fun _ _ _ => False
theorem ps_never : PS X st tNever := fun _ _ _ _ _ _ h => h.elim
theorem pss_never {sts : List Stmt} : PSs X sts tNever := fun _ _ _ _ _ _ h => h.elim
end

/-! ### targets -/
abbrev TG := V → St → Hp → (St → Hp → Prop) → Prop
abbrev TGs := List V → St → Hp → (St → Hp → Prop) → Prop
def PG (X : Cx) (target : Expr) (t : TG) : Prop :=
  ∀ (pins : List (Addr × Obj)) (s : Shared) (σ : St) (H : Hp) (v : V) (u : Value) (Q : St → Hp → Prop), Inv X pins σ H s → RelV v u → t v σ H Q →
    wpAny (model X.prog X.w) X.A (assign target X.env u) (fun _ s' => ∃ σ' H', Inv X pins σ' H' s' ∧ Q σ' H') X.xe s
/-- several targets, one after another -/
def PGs (X : Cx) (ts : List Expr) (t : TGs) : Prop :=
  ∀ (pins : List (Addr × Obj)) (s : Shared) (σ : St) (H : Hp) (vs : List V) (us : List Value) (Q : St → Hp → Prop), Inv X pins σ H s → Vals vs us → t vs σ H Q →
    wpAny (model X.prog X.w) X.A (assignInOrder ((assignEach ts X.env).map (·.2)) us) (fun _ s' => ∃ σ' H', Inv X pins σ' H' s' ∧ Q σ' H') X.xe s
/-- o[i] = v, by values -/
abbrev TSet := V → V → V → Hp → (Hp → Prop) → Prop
def PSet (X : Cx) (t : TSet) : Prop :=
  ∀ (pins : List (Addr × Obj)) (s : Shared) (σ : St) (H : Hp) (o i v : V) (ov iv u : Value) (Q : Hp → Prop), Inv X pins σ H s → RelV o ov → RelV i iv → RelV v u → t o i v H Q →
    wpAny (model X.prog X.w) X.A (setItem ov iv u) (fun _ s' => ∃ H', Inv X pins σ H' s' ∧ Q H') X.xe s
/-- a op= b, by values -/
abbrev TIp := V → V → Hp → VK → Prop
def PIp (X : Cx) (op : Operator) (t : TIp) : Prop :=
  ∀ (pins : List (Addr × Obj)) (s : Shared) (σ : St) (H : Hp) (x y : V) (v u : Value) (Q : VK), Inv X pins σ H s → RelV x v → RelV y u → t x y H Q →
    wpAny (model X.prog X.w) X.A (inplaceOp op v u) (EP X pins σ Q) X.xe s
section
variable {X : Cx} {pos : Pos}
def gName (i : Nat) : TG := fun v σ H Q => Q (σ.set i (some v)) H
theorem pg_name {i : Nat} {x : Str} (hN : X.N.Nodup) (hi : X.N[i]? = some x) (hx : Loc X.env.scope x) (hf : X.fn x = true ∨ X.env.scope.names.lookup x = some .local := by first | exact .inl rfl | exact .inr rfl | assumption) : PG X (.Name x pos) (gName i) := by
  intro pins s σ H v u Q I r h
  exact wpAny_assign_Name (store_ok I hN hi hx r (fun s' I' => ⟨_, H, I', h⟩) hf)
def gNil : TGs := fun vs σ H Q => vs = [] ∧ Q σ H
def gCons (t : TG) (u : TGs) : TGs := fun vs σ H Q => ∃ v r, vs = v :: r ∧ t v σ H fun σ' H' => u r σ' H' Q
theorem pgs_nil : PGs X [] gNil := by
  intro pins s σ H vs us Q I r h
  obtain ⟨e, h⟩ := h
  subst e
  cases r
  exact assignInOrder_nil ⟨σ, H, I, h⟩
theorem pgs_cons {e : Expr} {es : List Expr} {t : TG} {u : TGs} (h1 : PG X e t) (h2 : PGs X es u)
    (hs : (assignEach (e :: es) X.env).map (·.2) = assign e X.env :: (assignEach es X.env).map (·.2) := by rfl) : PGs X (e :: es) (gCons t u) := by
  intro pins s σ H vs us Q I r h
  obtain ⟨v, vr, e1, h⟩ := h
  subst e1
  cases r with
  | cons r rr =>
    rw [hs]
    refine assignInOrder_cons (thn (h1 pins s σ H _ _ _ I r h) fun _ s1 ⟨σ1, H1, I1, q1⟩ => ?_)
    exact h2 pins s1 σ1 H1 _ _ Q I1 rr q1
/-- (a, b, ..) = a tuple of that length -/
def gTup (K : PySem.W.Frag) (n : Nat) (t : TGs) : TG := fun v σ H Q => ∃ a xs, v = .ref a ∧ SqT K H a xs ∧ xs.length = n ∧ t xs σ H Q
theorem pg_tup {es : List Expr} {k : Nat} {t : TGs} {n : Nat} (hc : X.calm = true) (h : PGs X es t)
    (hn : (assignEach es X.env).length = n := by rfl) (hst : (assignEach es X.env).findIdx? (·.1) = none := by rfl) : PG X (.Tuple es k pos) (gTup X.K n t) := by
  intro pins s σ H v u Q I r hw
  obtain ⟨a, xs, e1, hq, hl, hw⟩ := hw
  subst e1
  cases r
  obtain ⟨its, rv, ht, hz⟩ := I.tuple hq
  refine assign_Tuple_tuple (I.ok.hd hc) ht (by simp [hn, ← hl, rv.length]) hst fun h' hx => ?_
  have I1 : Inv X pins σ H { s with heap := h' } := I.kept (t' := s.toks) fun b o e => hx b o (Nat.ne_of_lt (Heap.lt_size e)) e
  exact h pins _ σ H xs _ Q I1 (by simpa using rv) hw
/-- o[i] = .. -/
def gSub (to ti : TE) (t : TSet) : TG := fun v σ H Q => to σ H fun o H1 => ti σ H1 fun i H2 => t o i v H2 fun H3 => Q σ H3
theorem pg_sub {o i : Expr} {to ti : TE} {t : TSet} (ho : PE X o to) (hi : PE X i ti) (hs : PSet X t)
    (ha : ∀ v, assign (.Subscript o i pos) X.env v = (do
      let ov ← holding [v] (eval o X.env)
      let iv ← holding [v, ov] (eval i X.env)
      standAt pos
      holding [v, ov, iv] (setItem ov iv v)
      release [v, ov, iv] []) := by intro _; rfl) : PG X (.Subscript o i pos) (gSub to ti t) := by
  intro pins s σ H v u Q I r h
  rw [ha]
  refine wpAny_bind (wpAny_holding (thn (ho pins s σ H _ I h) fun ov s1 ⟨x, H1, I1, r1, q1⟩ => ?_))
  refine wpAny_bind (wpAny_holding (thn (hi pins s1 σ H1 _ I1 q1) fun iv s2 ⟨y, H2, I2, r2, q2⟩ => ?_))
  refine wpAny_bind (wpAny_standAt (wpAny_bind (wpAny_holding (thn (hs pins s2 σ H2 x y v ov iv u _ I2 r1 r2 r q2) fun _ s3 ⟨H3, I3, q3⟩ => ?_))))
  exact wpAny_release ⟨σ, H3, I3, q3⟩
/-- target = value -/
def tAsg (te : TE) (g : TG) : TS := fun D σ H => te σ H fun x H1 => g x σ H1 D.nx
theorem ps_asg {tg e : Expr} {te : TE} {g : TG} (he : PE X e te) (hg : PG X tg g) (hs : swapsWithSole [tg] e pos.line X.env = pure false := by rfl) (hw : swappedStores [tg] e X.env = pure none := by rfl)
    (h1 : (assignEach [tg] X.env).map (·.2) = [assign tg X.env] := by rfl) : PS X (.Assign [tg] e pos) (tAsg te g) := by
  intro pins s σ H D I h
  refine wpAny_Assign_stores (thn (he pins s σ H _ I h) fun v s1 ⟨x, H1, I1, r1, q1⟩ => ?_) hs hw
  rw [h1]
  exact thn (hg pins s1 σ H1 x v _ I1 r1 q1) fun _ s2 q => q
/-- name = value -/
theorem ps_set {i : Nat} {x : Str} {e : Expr} {te : TE} {pos' : Pos} (hN : X.N.Nodup) (hi : X.N[i]? = some x) (hx : Loc X.env.scope x) (he : PE X e te) (hs : swapsWith e (some (.Name x pos')) pos.line X.env = pure false := by rfl) (hf : X.fn x = true ∨ X.env.scope.names.lookup x = some .local := by first | exact .inl rfl | exact .inr rfl | assumption) :
    PS X (.Assign [.Name x pos'] e pos) (tAsg te (gName i)) := by
  intro pins s σ H D I h
  refine wpAny_Assign_Name (thn (he pins s σ H _ I h) fun v s1 ⟨y, H1, I1, r1, q1⟩ => ?_) hs
  exact store_ok I1 hN hi hx r1 (fun s2 I2 => ⟨_, H1, I2, q1⟩) hf
/-- a, b = x, y with plain local names: stored from the right; the pair itself is not tracked (the opening rows as in PyProof/Rows/TupAssign.lean:23) -/
def tPar (i j : Nat) (ta : TA) : TS := fun D σ H => ta σ H fun vs H1 => ∃ v w, vs = [v, w] ∧ D.nx ((σ.set i (some v)).set j (some w)) H1
theorem ps_par {i j : Nat} {x y : Str} {a b : Expr} {ta : TA} {px py pt : Pos} {kt k2 pt2} (hc : X.calm = true) (hN : X.N.Nodup) (hi : X.N[i]? = some x) (hj : X.N[j]? = some y) (hij : i ≠ j)
    (hx : X.env.scope.names.lookup x = some .local) (hy : X.env.scope.names.lookup y = some .local) (ha : PA X [a, b] ta)
    (hw : swappedStores [.Tuple [.Name x px, .Name y py] kt pt] (.Tuple [a, b] k2 pt2) X.env = pure (some [x, y]))
    (hs : swapsWithSole [.Tuple [.Name x px, .Name y py] kt pt] (.Tuple [a, b] k2 pt2) pos.line X.env = pure false := by rfl) :
    PS X (.Assign [.Tuple [.Name x px, .Name y py] kt pt] (.Tuple [a, b] k2 pt2) pos) (tPar i j ta) := by
  intro pins s σ H D I h
  rw [exec_Assign_arm]
  refine wpAny_bind (wpAny_standAt ?_)
  rw [hs]
  refine wpAny_bind (wpAny_pure ?_)
  rw [if_neg (by decide)]
  refine wpAny_bind (Tuple_ (thn (ha _ pins s σ H _ I h) fun us s1 ⟨vs, H1, I1, r1, q1⟩ => ?_))
  obtain ⟨v, w, e1, q1⟩ := q1
  subst e1
  obtain ⟨u1, u2, rfl, rv, rw'⟩ : ∃ u1 u2, us = [u1, u2] ∧ RelV v u1 ∧ RelV w u2 := by
    cases r1 with
    | cons p q =>
      cases q with
      | cons p' q' =>
        cases q'
        exact ⟨_, _, rfl, p, p'⟩
  refine wpAny_newObj_type ?_ (by show 2 ≤ sizeLine; decide)
  have I2 : Inv X pins σ H1 { s1 with heap := s1.heap.push { cls := .type "tuple", data := .seq [u1, u2].toArray } } := I1.kept (t' := s1.toks) fun b o e => Heap.get?_push_of_some _ e
  rw [hw]
  refine wpAny_bind (wpAny_pure ?_)
  show wpAny (model X.prog X.w) X.A (do rule "assign.swapped-stores"; let items ← unpackItems (.ref s1.heap.objs.size) 2 none; assignInOrder [fun v => bindName X.env y v, fun v => bindName X.env x v] items.reverse; pure Flow.next) _ _ _
  refine wpAny_bind (wpAny_rule (wpAny_bind (unpackItems_tuple (items := #[u1, u2]) (I.ok.hd hc) (IsTup.new s1.heap _) fun h' hx' => ?_)))
  have I3 := I2.kept (h' := h') (t' := s1.toks) fun b o e => hx' b o (Nat.ne_of_lt (Heap.lt_size e)) e
  show wpAny _ _ (assignInOrder [fun v => bindName X.env y v, fun v => bindName X.env x v] [u2, u1] >>= fun _ => pure Flow.next) _ _ _
  refine wpAny_bind (assignInOrder_cons (wpAny_bindName (store_ok I3 hN hj (.inl hy) rw' (fun s2 I4 => ?_) (.inr hy))))
  refine assignInOrder_cons (wpAny_bindName (store_ok I4 hN hi (.inl hx) rv (fun s3 I5 => assignInOrder_nil (wpAny_pure ?_)) (.inr hx)))
  rw [List.set_comm _ _ (Ne.symm hij)] at I5
  exact ⟨_, H1, I5, q1⟩
/-- o[i] op= e -/
def tAugS (to ti te : TE) (tget : V → V → Hp → VK → Prop) (tip : TIp) (tset : TSet) : TS := fun D σ H => to σ H fun o H1 => ti σ H1 fun i H2 => tget o i H2 fun x H3 => te σ H3 fun y H4 => tip x y H4 fun z H5 => tset o i z H5 fun H6 => D.nx σ H6
/-- o[i], by values -/
def PGet (X : Cx) (t : V → V → Hp → VK → Prop) : Prop :=
  ∀ (pins : List (Addr × Obj)) (s : Shared) (σ : St) (H : Hp) (o i : V) (ov iv : Value) (Q : VK), Inv X pins σ H s → RelV o ov → RelV i iv → t o i H Q →
    wpAny (model X.prog X.w) X.A (getItem ov iv) (EP X pins σ Q) X.xe s
theorem ps_augS {o i e : Expr} {to ti te : TE} {tget : V → V → Hp → VK → Prop} {tip : TIp} {tset : TSet} {op : Operator} {tpos : Pos} (ho : PE X o to) (hi : PE X i ti) (hg : PGet X tget) (he : PE X e te) (hp : PIp X op tip) (hs : PSet X tset)
    (ha : ∀ ov iv new, augStore i ov iv new = (do holding [new, ov, iv] (setItem ov iv new); release [new, ov, iv] []; pure .next) := by intros; rfl) : PS X (.AugAssign (.Subscript o i tpos) op e pos) (tAugS to ti te tget tip tset) := by
  intro pins s σ H D I h
  refine wpAny_AugAssign_SubscriptAny (thn (ho pins s σ H _ I h) fun ov s1 ⟨x1, H1, I1, r1, q1⟩ => ?_) ha
  refine thn (hi pins s1 σ H1 _ I1 q1) fun iv s2 ⟨x2, H2, I2, r2, q2⟩ => ?_
  refine thn (hg pins s2 σ H2 x1 x2 ov iv _ I2 r1 r2 q2) fun old s3 ⟨x3, H3, I3, r3, q3⟩ => ?_
  refine thn (he pins s3 σ H3 _ I3 q3) fun v s4 ⟨x4, H4, I4, r4, q4⟩ => ?_
  refine thn (hp pins s4 σ H4 x3 x4 old v _ I4 r3 r4 q4) fun new s5 ⟨x5, H5, I5, r5, q5⟩ => ?_
  exact thn (hs pins s5 σ H5 x1 x2 x5 ov iv new _ I5 r1 r2 r5 q5) fun _ s6 ⟨H6, I6, q6⟩ => ⟨σ, H6, I6, q6⟩
/-- ints -/
def ipI (f : Int → Int → Int) : TIp := fun x y H Q => ∃ i j, x = .int i ∧ y = .int j ∧ Q (.int (f i j)) H
theorem ip_add : PIp X .Add (ipI fun i j => i + j) := by
  intro pins s σ H x y v u Q I r1 r2 h
  obtain ⟨i, j, e1, e2, q⟩ := h
  subst e1; subst e2
  obtain ⟨t, rfl⟩ := r1
  obtain ⟨t', rfl⟩ := r2
  exact iadd_int ⟨.int _, H, I.tok _, ⟨_, rfl⟩, q⟩
end

/-! ### while -/
section
variable {X : Cx} {pos : Pos}
end

/-! ### what a loop or a comprehension walks -/
/-- at turn i: it yields x (the heap may grow), or it stops -/
structure It where
  go : Nat → Hp → Prop
  yld : Nat → Hp → V → Hp → Prop
  stop : Nat → Hp → Prop
/-- the iterator's own objects may turn: they are not the frame's, not pinned, younger than the entry (or a comprehension's own) -/
def FpOk (X : Cx) (pins : List (Addr × Obj)) (H : Hp) (b : Addr) : Prop :=
  H b = none ∧ b ≠ X.env.locals ∧ b ∉ X.fs ∧ (b ∈ X.ex ∨ X.s₀.heap.objs.size ≤ b) ∧ (∀ x c, X.env.cells.lookup x = some c → c ≠ b) ∧ ∀ p ∈ X.pn ++ pins, p.1 ≠ b
theorem Inv.fpOk {X : Cx} {pins : List (Addr × Obj)} {σ : St} {H H' : Hp} {s : Shared} {b : Addr} (I : Inv X pins σ H s) (hb : s.heap.objs.size ≤ b) (hn : H' b = none) : FpOk X pins H' b := by
  refine ⟨hn, Nat.ne_of_gt (Nat.lt_of_lt_of_le I.lt hb), I.nofs hb, .inr (Nat.le_trans I.sz hb), fun x c e z => ?_, fun p hp z => ?_⟩
  · obtain ⟨v, q⟩ := I.cell x c e
    exact absurd (Nat.lt_of_lt_of_le q.lt (by rw [z]; exact hb)) (Nat.lt_irrefl _)
  · exact absurd (Nat.lt_of_lt_of_le (Heap.lt_size (I.pin p hp).1) (by rw [z]; exact hb)) (Nat.lt_irrefl _)
structure Turn (P : Program) (w : World) (K : PySem.W.Frag) (tg : Expr) (J : It) (fp : List Addr) (it : Addr) (tn : Nat → Heap → Prop) : Prop where
  mem : it ∈ fp
  obj : ∀ i h, tn i h → ∀ b ∈ fp, ∃ o, h.get? b = some o ∧ ∀ v, o.data ≠ .cell v
  keep : ∀ i h h', tn i h → (∀ b ∈ fp, ∀ o, h.get? b = some o → h'.get? b = some o) → tn i h'
  item : ∀ (X : Cx), X.prog = P → X.w = w → X.K = K → X.calm = true → ∀ (i : Nat) (pins : List (Addr × Obj)) (s : Shared) (σ : St) (H : Hp) (E : Value → Shared → Prop), Inv X pins σ H s → (∀ b ∈ fp, FpOk X pins H b) → tn i s.heap → J.go i H →
    wpAny (model P w) X.A (pyNext (.ref it)) (fun r s1 => ∃ u, r = some u ∧
      wpAny (model P w) X.A (letOwnedTupleGo tg (.ref it) u) (fun _ s2 => ∃ x H', Inv X pins σ H' s2 ∧ RelV x u ∧ J.yld i H x H' ∧ tn (i + 1) s2.heap ∧ ∀ b ∈ fp, H' b = none) E s1) E s
  done : ∀ (X : Cx), X.prog = P → X.w = w → X.K = K → X.calm = true → ∀ (i : Nat) (pins : List (Addr × Obj)) (s : Shared) (σ : St) (H : Hp) (E : Value → Shared → Prop), Inv X pins σ H s → (∀ b ∈ fp, FpOk X pins H b) → tn i s.heap → J.stop i H →
    wpAny (model P w) X.A (pyNext (.ref it)) (fun r s1 => r = none ∧ Inv X pins σ H s1) E s
  self : ∀ (A : Around) (i : Nat) (s : Shared) (Q : Value → Shared → Prop) (E : Value → Shared → Prop), tn i s.heap → Q (.ref it) s → wpAny (model P w) A (pyIter (.ref it)) Q E s
abbrev TI := St → Hp → (It → Hp → Prop) → Prop
/-- an iterator has come -/
def PIE (X : Cx) (pins : List (Addr × Obj)) (σ : St) (tg : Expr) (R : It → Hp → Prop) (itv : Value) (s2 : Shared) : Prop :=
  ∃ (it : Addr) (fp : List Addr) (tn : Nat → Heap → Prop) (J : It) (H' : Hp), itv = .ref it ∧ Inv X pins σ H' s2 ∧ Turn X.prog X.w X.K tg J fp it tn ∧ tn 0 s2.heap ∧ (∀ b ∈ fp, FpOk X pins H' b) ∧ R J H'
def PI (X : Cx) (tg iter : Expr) (wi : TI) : Prop :=
  ∀ (pins : List (Addr × Obj)) (s : Shared) (σ : St) (H : Hp) (R : It → Hp → Prop), Inv X pins σ H s → wi σ H R →
    wpAny (model X.prog X.w) X.A (eval iter X.env) (fun v s1 => wpAny (model X.prog X.w) X.A (pyIter v) (PIE X pins σ tg R) X.xe s1) X.xe s

/-- the step ahead of the store is nothing for an iterator that keeps no tuple -/
theorem go_of {M : Model} {A : Around} {E : Value → Shared → Prop} {s : Shared} {tg : Expr} {it : Addr} {u : Value} {o : Obj} {n : String} {vs : Array Value} {Q : Unit → Shared → Prop} (ho : s.heap.get? it = some o) (hc : o.cls = .type n) (hd : o.data = .fields vs)
    (hn : ["enumerate", "zip", "dict_itemiterator", "dict_reverseitemiterator", "odict_iterator", "itertools.zip_longest", "itertools.pairwise"].contains n = false) (hQ : Q () s) : wpAny M A (letOwnedTupleGo tg (.ref it) u) Q E s := by
  unfold letOwnedTupleGo
  cases tg <;> first
    | exact wpAny_pure hQ
    | (cases u <;> first
        | exact wpAny_pure hQ
        | (refine wpAny_bind (wpAny_load ho ?_)
           rw [hc, hd]
           show wpAny M A (if (["enumerate", "zip", "dict_itemiterator", "dict_reverseitemiterator", "odict_iterator", "itertools.zip_longest", "itertools.pairwise"].contains n && vs[0]? == some (rawInt _)) = true then _ else _) Q E s
           rw [if_neg (by intro h; rw [hn, Bool.false_and] at h; cases h)]
           exact wpAny_pure hQ))

/-- the list at a, as it stands at each turn (a loop may append to it) -/
def Itl (K : PySem.W.Frag) (a : Addr) : It :=
  ⟨fun i H => ∃ xs x, SqL K H a xs ∧ xs[i]? = some x, fun i H x H' => H' = H ∧ ∀ xs, SqL K H a xs → xs[i]? = some x, fun i H => ∃ xs, SqL K H a xs ∧ xs.length ≤ i⟩
def Itt (K : PySem.W.Frag) (a : Addr) : It :=
  ⟨fun i H => ∃ xs x, SqT K H a xs ∧ xs[i]? = some x, fun i H x H' => H' = H ∧ ∀ xs, SqT K H a xs → xs[i]? = some x, fun i H => ∃ xs, SqT K H a xs ∧ xs.length ≤ i⟩
/-- lo, lo + 1, .. (n of them) -/
def Itr (lo : Int) (n : Nat) : It := ⟨fun i _ => i < n, fun i H x H' => H' = H ∧ x = .int (lo + i), fun i _ => n ≤ i⟩
theorem turn_list {P : Program} {w : World} {K : PySem.W.Frag} {tg : Expr} (a it : Addr) : Turn P w K tg (Itl K a) [it] it (fun i h => h.IsListIter it a i) where
  mem := by simp
  obj := fun i h st b hb => by
    have e : b = it := by simpa using hb
    subst e
    obtain ⟨o, e, c, d⟩ := st
    exact ⟨o, e, fun v z => by rw [d] at z; cases z⟩
  keep := fun i h h' st k => st.at fun o e => k it (by simp) o e
  item := by
    intro X hP hw hK hc i pins s σ H E I hf st hg
    subst hP hw hK
    obtain ⟨xs, x, hq, hx⟩ := hg
    obtain ⟨its, rv, p, hz⟩ := I.list hq
    obtain ⟨u, hu, ru⟩ := rv.get hx
    obtain ⟨f0, f1, f2, f3, f4, f5⟩ := hf it (by simp)
    refine wpAny_pyNext_list_item st p.isList (x := u) (by simpa using hu) fun h' st' sb => ?_
    have I1 : Inv X pins σ H { s with heap := h' } := I.turned (t' := s.toks) (fun b o hb e => (sb.2 b hb).trans e) f0 f1 f3 f4 f5
    obtain ⟨o, e, c, d⟩ := id st'
    exact ⟨u, rfl, go_of (s := { s with heap := h' }) e c d (by decide) ⟨x, H, I1, ru, ⟨rfl, fun ys hy => by rw [I.list_inj hy hq]; exact hx⟩, st', fun b hb => (hf b hb).1⟩⟩
  done := by
    intro X hP hw hK hc i pins s σ H E I hf st hg
    subst hP hw hK
    obtain ⟨xs, hq, hx⟩ := hg
    obtain ⟨its, rv, p, hz⟩ := I.list hq
    obtain ⟨f0, f1, f2, f3, f4, f5⟩ := hf it (by simp)
    have hl := rv.length
    exact wpAny_pyNext_list_end (I.ok.hd hc) st p.isList (by simp; omega) fun h' eb => ⟨rfl, I.turned (t' := s.toks) (fun b o hb e => eb b o hb e) f0 f1 f3 f4 f5⟩
  self := fun _ _ _ _ _ st h => wpAny_pyIter_listiter st h
theorem turn_tuple {P : Program} {w : World} {K : PySem.W.Frag} {tg : Expr} (a it : Addr) : Turn P w K tg (Itt K a) [it] it (fun i h => h.IsTupleIter it a i) where
  mem := by simp
  obj := fun i h st b hb => by
    have e : b = it := by simpa using hb
    subst e
    obtain ⟨o, e, c, d⟩ := st
    exact ⟨o, e, fun v z => by rw [d] at z; cases z⟩
  keep := fun i h h' st k => st.at fun o e => k it (by simp) o e
  item := by
    intro X hP hw hK hc i pins s σ H E I hf st hg
    subst hP hw hK
    obtain ⟨xs, x, hq, hx⟩ := hg
    obtain ⟨its, rv, p, hz⟩ := I.tuple hq
    obtain ⟨u, hu, ru⟩ := rv.get hx
    obtain ⟨f0, f1, f2, f3, f4, f5⟩ := hf it (by simp)
    refine wpAny_pyNext_tuple_item st (show s.heap.IsTuple a its.toArray from p) (x := u) (by simpa using hu) fun h' st' sb => ?_
    have I1 : Inv X pins σ H { s with heap := h' } := I.turned (t' := s.toks) (fun b o hb e => (sb.2 b hb).trans e) f0 f1 f3 f4 f5
    obtain ⟨o, e, c, d⟩ := id st'
    exact ⟨u, rfl, go_of (s := { s with heap := h' }) e c d (by decide) ⟨x, H, I1, ru, ⟨rfl, fun ys hy => by rw [I.tuple_inj hy hq]; exact hx⟩, st', fun b hb => (hf b hb).1⟩⟩
  done := by
    intro X hP hw hK hc i pins s σ H E I hf st hg
    subst hP hw hK
    obtain ⟨xs, hq, hx⟩ := hg
    obtain ⟨its, rv, p, hz⟩ := I.tuple hq
    obtain ⟨f0, f1, f2, f3, f4, f5⟩ := hf it (by simp)
    have hl := rv.length
    exact wpAny_pyNext_tuple_end (I.ok.hd hc) st (show s.heap.IsTuple a its.toArray from p) (by simp; omega) fun h' eb => ⟨rfl, I.turned (t' := s.toks) (fun b o hb e => eb b o hb e) f0 f1 f3 f4 f5⟩
  self := fun _ _ _ _ _ st h => wpAny_pyIter_tupleiter st h
theorem turn_range {P : Program} {w : World} {K : PySem.W.Frag} {tg : Expr} (it : Addr) (lo : Int) (n : Nat) : Turn P w K tg (Itr lo n) [it] it (fun i h => IsRangeIter h it (lo + (i : Nat) * 1) ((n : Int) - (i : Nat)) 1) where
  mem := by simp
  obj := fun i h st b hb => by
    have e : b = it := by simpa using hb
    subst e
    exact ⟨_, st, fun v z => by
      have z' : Data.fields _ = Data.cell v := z
      cases z'⟩
  keep := fun i h h' st k => k it (by simp) _ st
  item := by
    intro X hP hw hK hc i pins s σ H E I hf st hg
    subst hP hw hK
    obtain ⟨f0, f1, f2, f3, f4, f5⟩ := hf it (by simp)
    have W := Walks.range (prog := X.prog) (w := X.w) (I.ok.hd hc) it lo 1 n
    refine W.item i s _ _ hg st fun v h' tk hv st' kk => ?_
    obtain ⟨t, rfl⟩ := hv
    have I1 : Inv X pins σ H { s with heap := h', toks := tk } := I.turned (fun b o hb e => kk b o (by simpa using hb) e) f0 f1 f3 f4 f5
    refine ⟨_, rfl, go_of (s := { s with heap := h', toks := tk }) (n := "range_iterator") st' rfl rfl (by decide) ⟨.int (lo + i), H, I1, ⟨t, ?_⟩, ⟨rfl, rfl⟩, st', fun b hb => (hf b hb).1⟩⟩
    rw [Int.mul_one]
  done := by
    intro X hP hw hK hc i pins s σ H E I hf st hg
    subst hP hw hK
    obtain ⟨f0, f1, f2, f3, f4, f5⟩ := hf it (by simp)
    exact wpAny_pyNext_range_end (I.ok.hd hc) st (by have : n ≤ i := hg; omega) fun h' eb => ⟨rfl, I.turned (t' := s.toks) (fun b o hb e => eb b o hb e) f0 f1 f3 f4 f5⟩
  self := fun _ _ _ _ _ st h => wpAny_pyIter_rangeiter st h
end L2

namespace L2
open PySem PySem.Spec PyProof.Rows
section
variable {X : Cx} {tg : Expr}
def iList (K : PySem.W.Frag) (tl : TE) : TI := fun σ H R => tl σ H fun x H1 => ∃ a, x = .ref a ∧ (∃ xs, SqL K H1 a xs) ∧ R (Itl K a) H1
def iTup (K : PySem.W.Frag) (tl : TE) : TI := fun σ H R => tl σ H fun x H1 => ∃ a, x = .ref a ∧ (∃ xs, SqT K H1 a xs) ∧ R (Itt K a) H1
theorem pi_list {l : Expr} {tl : TE} (hl : PE X l tl) : PI X tg l (iList X.K tl) := by
  intro pins s σ H R I h
  refine thn (hl pins s σ H _ I h) fun v s1 ⟨x, H1, I1, r1, q1⟩ => ?_
  obtain ⟨a, e, ⟨xs, hq⟩, q⟩ := q1
  subst e
  cases r1
  obtain ⟨its, rv, p, hz⟩ := I1.list hq
  refine wpAny_pyIter_list p.isList ?_
  refine ⟨s1.heap.objs.size, [s1.heap.objs.size], _, _, H1, rfl, I1.kept (t' := s1.toks) fun b o e => Heap.get?_push_of_some _ e, turn_list a _, ⟨_, Heap.get?_push_size _ rfl, rfl, rfl⟩, fun b hb => ?_, q⟩
  have e : b = s1.heap.objs.size := by simpa using hb
  subst e
  exact I1.fpOk (Nat.le_refl _) (I1.hok.fresh (Nat.le_refl _))
theorem pi_tup {l : Expr} {tl : TE} (hl : PE X l tl) : PI X tg l (iTup X.K tl) := by
  intro pins s σ H R I h
  refine thn (hl pins s σ H _ I h) fun v s1 ⟨x, H1, I1, r1, q1⟩ => ?_
  obtain ⟨a, e, ⟨xs, hq⟩, q⟩ := q1
  subst e
  cases r1
  obtain ⟨its, rv, p, hz⟩ := I1.tuple hq
  refine wpAny_pyIter_tuple (show s1.heap.IsTuple a its.toArray from p) ?_
  refine ⟨s1.heap.objs.size, [s1.heap.objs.size], _, _, H1, rfl, I1.kept (t' := s1.toks) fun b o e => Heap.get?_push_of_some _ e, turn_tuple a _, ⟨_, Heap.get?_push_size _ rfl, rfl, rfl⟩, fun b hb => ?_, q⟩
  have e : b = s1.heap.objs.size := by simpa using hb
  subst e
  exact I1.fpOk (Nat.le_refl _) (I1.hok.fresh (Nat.le_refl _))
/-- a range object just made, walked -/
theorem range_it {pins : List (Addr × Obj)} {σ : St} {H : Hp} {s : Shared} {R : It → Hp → Prop} {E : Value → Shared → Prop} {lo hi : Int} {t u v : Tok} {tk : Nat} (I : Inv X pins σ H s) (h1 : -(2 ^ 62) ≤ lo) (h2 : lo < 2 ^ 62) (h3 : -(2 ^ 62) ≤ hi) (h4 : hi < 2 ^ 62)
    (q : R (Itr lo (hi - lo).toNat) H) : wpAny (model X.prog X.w) X.A (pyIter (.ref s.heap.objs.size)) (PIE X pins σ tg R) E { s with heap := s.heap.push { cls := .type "range", data := .fields #[.int lo t, .int hi u, .int 1 v] }, toks := tk } := by
  refine wpAny_pyIter_range (IsRange.new ..) (small_one h1 h2 h3 h4) ?_
  have I1 : Inv X pins σ H { s with heap := s.heap.push { cls := .type "range", data := .fields #[.int lo t, .int hi u, .int 1 v] }, toks := tk } := I.kept fun b o e => Heap.get?_push_of_some _ e
  refine ⟨(s.heap.push { cls := .type "range", data := .fields #[.int lo t, .int hi u, .int 1 v] }).objs.size, [(s.heap.push { cls := .type "range", data := .fields #[.int lo t, .int hi u, .int 1 v] }).objs.size], _, _, H, rfl,
    I1.kept (t' := tk) fun b o e => Heap.get?_push_of_some _ e, turn_range _ lo (hi - lo).toNat, ?_, fun b hb => ?_, q⟩
  · have e1 : lo + ((0 : Nat) : Int) * 1 = lo := by simp
    have e2 : (((hi - lo).toNat : Nat) : Int) - ((0 : Nat) : Int) = Builtin.Range.rangeSize lo hi 1 := by rw [rangeSize_one]; split <;> omega
    show IsRangeIter _ _ (lo + ((0 : Nat) : Int) * 1) ((((hi - lo).toNat : Nat) : Int) - ((0 : Nat) : Int)) 1
    rw [e1, e2]
    exact Heap.get?_push_size _ rfl
  · have e : b = (s.heap.push { cls := .type "range", data := .fields #[.int lo t, .int hi u, .int 1 v] }).objs.size := by simpa using hb
    subst e
    exact I1.fpOk (Nat.le_refl _) (I1.hok.fresh (Nat.le_refl _))
def iRng1 (ta : TA) : TI := fun σ H R => ta σ H fun vs H1 => ∃ j : Int, vs = [.int j] ∧ -(2 ^ 62) ≤ j ∧ j < 2 ^ 62 ∧ R (Itr 0 j.toNat) H1
theorem pi_range1 {a : Expr} {ta : TA} {p pos : Pos} (hg : Gl X "range") (hm : X.mg "range" = none) (ha : PA X [a] ta) (hs : starEach [a] X.env = [(false, eval a X.env)] := by rfl) : PI X tg (.Call (.Name "range" p) [a] [] pos) (iRng1 ta) := by
  intro pins s σ H R I h
  refine Call_ (ld_blt I hg hm boot_range (PyProof.Rows.callWith_type1 (thn (ha pos pins s σ H _ I h) fun us s1 ⟨vs, H1, I1, r1, q1⟩ => ?_) hs rfl))
  obtain ⟨j, e, q1, q2, q⟩ := q1
  subst e
  cases r1 with
  | cons r rr =>
    cases rr
    obtain ⟨t, rfl⟩ := r
    exact call_range_1 (range_it I1 (by omega) (by omega) q1 q2 (by simpa using q))

/-! ### for -/
/-- W: the invariant by the turn and a measure; N: what the body is to reach -/
def tFor (wi : TI) (g : TG) (tb : TS) : TS := fun D σ H => wi σ H fun J H1 => ∃ W : Nat → Nat → St → Hp → Prop, (∃ m, W 0 m σ H1) ∧ ∀ i m σ H, W i m σ H →
  (J.stop i H ∧ D.nx σ H) ∨ (J.go i H ∧ ∃ N : St → Hp → Prop, (∀ σ' H', N σ' H' → ∃ m', m' < m ∧ W (i + 1) m' σ' H') ∧ ∀ x H', J.yld i H x H' → g x σ H' fun σ2 H2 => tb { D with nx := N, ct := N, bk := D.nx } σ2 H2)
/-- the records at fp as they stand -/
def pinsAt (fp : List Addr) (h : Heap) : List (Addr × Obj) := fp.filterMap fun b => (h.get? b).map fun o => (b, o)
theorem mem_pinsAt {fp : List Addr} {h : Heap} {b : Addr} {o : Obj} (hb : b ∈ fp) (e : h.get? b = some o) : (b, o) ∈ pinsAt fp h := List.mem_filterMap.mpr ⟨b, hb, by rw [e]; rfl⟩
theorem of_pinsAt {fp : List Addr} {h : Heap} {p : Addr × Obj} (hp : p ∈ pinsAt fp h) : p.1 ∈ fp ∧ h.get? p.1 = some p.2 := by
  obtain ⟨b, hb, e⟩ := List.mem_filterMap.mp hp
  cases q : h.get? b with
  | none => rw [q] at e; cases e
  | some o =>
    rw [q] at e
    have e' : (b, o) = p := Option.some.inj e
    subst e'
    exact ⟨hb, q⟩
theorem Inv.pinned {pins : List (Addr × Obj)} {σ : St} {H : Hp} {s : Shared} {fp : List Addr} (I : Inv X pins σ H s) (hf : ∀ b ∈ fp, FpOk X pins H b) (ho : ∀ b ∈ fp, ∃ o, s.heap.get? b = some o ∧ ∀ v, o.data ≠ .cell v) : Inv X (pins ++ pinsAt fp s.heap) σ H s :=
  I.pins_of fun p hp => (List.mem_append.mp hp).elim (fun z => I.pin p (List.mem_append_right _ z)) fun z => by
    obtain ⟨hb, e⟩ := of_pinsAt z
    obtain ⟨f0, f1, f2, _⟩ := hf p.1 hb
    obtain ⟨o, e', d⟩ := ho p.1 hb
    rw [e] at e'; cases e'
    exact ⟨e, f0, f1, f2, d⟩
theorem Inv.unpinned {pins pl : List (Addr × Obj)} {σ : St} {H : Hp} {s : Shared} (I : Inv X (pins ++ pl) σ H s) : Inv X pins σ H s := I.pins_of fun p hp => I.pin p (List.mem_append_right _ (List.mem_append_left _ hp))
theorem ps_for {iter : Expr} {body : List Stmt} {wi : TI} {g : TG} {tb : TS} {pos : Pos} (hp : PassesOwn (model X.prog X.w) X.A X.env X.xe) (hc : X.calm = true) (hi : PI X tg iter wi) (hg : PG X tg g) (hb : PSs X body tb)
    (hs : ∀ x, foldedSetIterable iter X.env x = pure x := by intro _; rfl) : PS X (.For tg iter body [] pos) (tFor wi g tb) := by
  intro pins s σ H D I h
  refine wpAny_For (thn (hi pins s σ H _ I h) fun v s1 h1 => thn h1 fun itv s2 h2 => ?_) hs
  obtain ⟨it, fp, tn, J, H2, e, I2, T, st2, f2, W, ⟨m0, w0⟩, turn⟩ := h2
  subst e
  -- what stays true of the iterator's objects through the loop
  have stat : ∀ {H' : Hp}, (∀ b ∈ fp, H' b = none) → ∀ b ∈ fp, FpOk X pins H' b := fun hn b hb => ⟨hn b hb, (f2 b hb).2⟩
  refine codeAny_forLoop_any (fun n s' => ∃ i σ' H', Inv X pins σ' H' s' ∧ tn i s'.heap ∧ (∀ b ∈ fp, H' b = none) ∧ W i n σ' H') ?_ m0 ⟨0, σ, H2, I2, st2, fun b hb => (f2 b hb).1, w0⟩
  rintro n s3 ⟨i, σ3, H3, I3, st3, fr3, w3⟩
  rcases turn i n σ3 H3 w3 with ⟨stop, qn⟩ | ⟨go, N, hN, step⟩
  · refine wpAny_passesOwn hp (thn (T.done X rfl rfl rfl hc i pins s3 σ3 H3 X.xe I3 (stat fr3) st3 stop) fun r s4 ⟨hr, I4⟩ => ?_)
    subst hr
    exact wpAny_execs_nil ⟨σ3, H3, I4, qn⟩
  · refine wpAny_passesOwn hp (thn (T.item X rfl rfl rfl hc i pins s3 σ3 H3 X.xe I3 (stat fr3) st3 go) fun r s4 ⟨u, hr, h4⟩ => ?_)
    subst hr
    refine wpAny_passesOwn hp (thn h4 fun _ s5 ⟨x, H5, I5, r5, y5, st5, fr5⟩ => ?_)
    have I5' := I5.pinned (stat fr5) (T.obj _ _ st5)
    refine wpAny_passesOwn hp (thn (hg _ s5 σ3 H5 x u _ I5' r5 (step x H5 y5)) fun _ s6 ⟨σ6, H6, I6, q6⟩ => ?_)
    refine wpAny_passesOwn hp (thn (hb _ s6 σ6 H6 _ I6 q6) fun f s7 q7 => ?_)
    have again : ∀ {σ7 : St} {H7 : Hp}, Inv X (pins ++ pinsAt fp s5.heap) σ7 H7 s7 → N σ7 H7 → ∃ m, m < n ∧ ∃ i σ' H', Inv X pins σ' H' s7 ∧ tn i s7.heap ∧ (∀ b ∈ fp, H' b = none) ∧ W i m σ' H' := fun {σ7 H7} I7 n7 => by
      obtain ⟨m', hm, w7⟩ := hN σ7 H7 n7
      refine ⟨m', hm, i + 1, σ7, H7, I7.unpinned, T.keep _ _ _ st5 fun b hb o e => (I7.pin (b, o) (List.mem_append_right _ (List.mem_append_right _ (mem_pinsAt hb e)))).1, fun b hb => ?_, w7⟩
      obtain ⟨o, e, d⟩ := T.obj _ _ st5 b hb
      exact (I7.pin (b, o) (List.mem_append_right _ (List.mem_append_right _ (mem_pinsAt hb e)))).2.1
    cases f with
    | next => obtain ⟨σ7, H7, I7, n7⟩ := q7; exact again I7 n7
    | cont => obtain ⟨σ7, H7, I7, n7⟩ := q7; exact again I7 n7
    | brk => obtain ⟨σ7, H7, I7, q7⟩ := q7; exact ⟨σ7, H7, I7.unpinned, q7⟩
    | ret v => obtain ⟨x7, σ7, H7, I7, r7, q7⟩ := q7; exact ⟨x7, σ7, H7, I7.unpinned, r7, q7⟩
end

/-! ### the forms one uses -/
/-- over a list that the body leaves as it is -/
theorem for_list {K : PySem.W.Frag} {a : Addr} {xs : List V} {g : TG} {tb : TS} {D : Ends} {σ : St} {H : Hp} (Pv : Nat → St → Hp → Prop) (h0 : Pv 0 σ H) (hl : ∀ i σ H, i ≤ xs.length → Pv i σ H → SqL K H a xs)
    (hs : ∀ i x σ H, xs[i]? = some x → Pv i σ H → g x σ H fun σ2 H2 => tb { D with nx := Pv (i + 1), ct := Pv (i + 1), bk := D.nx } σ2 H2) (hd : ∀ σ H, Pv xs.length σ H → D.nx σ H) :
    ∃ W : Nat → Nat → St → Hp → Prop, (∃ m, W 0 m σ H) ∧ ∀ i m σ H, W i m σ H →
      ((Itl K a).stop i H ∧ D.nx σ H) ∨ ((Itl K a).go i H ∧ ∃ N : St → Hp → Prop, (∀ σ' H', N σ' H' → ∃ m', m' < m ∧ W (i + 1) m' σ' H') ∧ ∀ x H', (Itl K a).yld i H x H' → g x σ H' fun σ2 H2 => tb { D with nx := N, ct := N, bk := D.nx } σ2 H2) := by
  refine ⟨fun i m σ H => m = xs.length - i ∧ i ≤ xs.length ∧ Pv i σ H, ⟨xs.length, by simp, Nat.zero_le _, h0⟩, ?_⟩
  rintro i m σ H ⟨rfl, hi, p⟩
  have q := hl i σ H hi p
  by_cases hlt : i < xs.length
  · refine .inr ⟨⟨xs, xs[i], q, by simp [hlt]⟩, Pv (i + 1), fun σ' H' p' => ⟨xs.length - (i + 1), by omega, rfl, hlt, p'⟩, fun x H' y => ?_⟩
    obtain ⟨e, y⟩ := y
    subst e
    exact hs i x σ _ (y xs q) p
  · have e : i = xs.length := by omega
    subst e
    exact .inl ⟨⟨xs, q, Nat.le_refl _⟩, hd σ H p⟩
theorem for_range {lo : Int} {n : Nat} {g : TG} {tb : TS} {D : Ends} {σ : St} {H : Hp} (Pv : Nat → St → Hp → Prop) (h0 : Pv 0 σ H)
    (hs : ∀ i σ H, i < n → Pv i σ H → g (.int (lo + i)) σ H fun σ2 H2 => tb { D with nx := Pv (i + 1), ct := Pv (i + 1), bk := D.nx } σ2 H2) (hd : ∀ σ H, Pv n σ H → D.nx σ H) :
    ∃ W : Nat → Nat → St → Hp → Prop, (∃ m, W 0 m σ H) ∧ ∀ i m σ H, W i m σ H →
      ((Itr lo n).stop i H ∧ D.nx σ H) ∨ ((Itr lo n).go i H ∧ ∃ N : St → Hp → Prop, (∀ σ' H', N σ' H' → ∃ m', m' < m ∧ W (i + 1) m' σ' H') ∧ ∀ x H', (Itr lo n).yld i H x H' → g x σ H' fun σ2 H2 => tb { D with nx := N, ct := N, bk := D.nx } σ2 H2) := by
  refine ⟨fun i m σ H => m = n - i ∧ i ≤ n ∧ Pv i σ H, ⟨n, by simp, Nat.zero_le _, h0⟩, ?_⟩
  rintro i m σ H ⟨rfl, hi, p⟩
  by_cases hlt : i < n
  · refine .inr ⟨hlt, Pv (i + 1), fun σ' H' p' => ⟨n - (i + 1), by omega, rfl, hlt, p'⟩, fun x H' y => ?_⟩
    obtain ⟨e, y⟩ := y
    subst e y
    exact hs i σ _ hlt p
  · have e : i = n := by omega
    subst e
    exact .inl ⟨Nat.le_refl _, hd σ H p⟩
end L2

namespace L2
open PySem PySem.Spec PyProof.Rows

abbrev R2 := V → V → Hp → VK → Prop
/-- a two-place operation on values: f is binaryOp op, inplaceOp op or compareOp op -/
def OpR (X : Cx) (f : Value → Value → Sem Value) (r : R2) : Prop :=
  ∀ (pins : List (Addr × Obj)) (s : Shared) (σ : St) (H : Hp) (x y : V) (v u : Value) (Q : VK), Inv X pins σ H s → RelV x v → RelV y u → r x y H Q →
    wpAny (model X.prog X.w) X.A (f v u) (EP X pins σ Q) X.xe s
/-- a one-place operation -/
def UnR (X : Cx) (f : Value → Sem Value) (r : V → Hp → VK → Prop) : Prop :=
  ∀ (pins : List (Addr × Obj)) (s : Shared) (σ : St) (H : Hp) (x : V) (v : Value) (Q : VK), Inv X pins σ H s → RelV x v → r x H Q →
    wpAny (model X.prog X.w) X.A (f v) (EP X pins σ Q) X.xe s
/-- a call of a value that is known (a builtin, a type) with values -/
def CallR (X : Cx) (f : Value) (r : List V → Hp → VK → Prop) : Prop :=
  ∀ (pins : List (Addr × Obj)) (s : Shared) (σ : St) (H : Hp) (xs : List V) (us : List Value) (Q : VK), Inv X pins σ H s → Vals xs us → r xs H Q →
    wpAny (model X.prog X.w) X.A (call f us) (EP X pins σ Q) X.xe s

def tOp (r : R2) (ta tb : TE) : TE := fun σ H Q => ta σ H fun x H1 => tb σ H1 fun y H2 => r x y H2 Q
def tUn (r : V → Hp → VK → Prop) (ta : TE) : TE := fun σ H Q => ta σ H fun x H1 => r x H1 Q
/-- ints in, under C, and a value out -/
def rI (C : Int → Int → Prop) (g : Int → Int → V) : R2 := fun x y H Q => ∃ i j, x = .int i ∧ y = .int j ∧ C i j ∧ Q (g i j) H
def rI0 (g : Int → Int → V) : R2 := fun x y H Q => ∃ i j, x = .int i ∧ y = .int j ∧ Q (g i j) H
def rU (g : Int → V) : V → Hp → VK → Prop := fun x H Q => ∃ i, x = .int i ∧ Q (g i) H

section
variable {X : Cx} {a b c : Expr} {ta tb tc : TE} {pos : Pos}

theorem binT (ha : PE X a ta) (hb : PE X b tb) {pins : List (Addr × Obj)} {s : Shared} {σ : St} {H : Hp} {R : V → V → Hp → Prop} (I : Inv X pins σ H s)
    (h : ta σ H fun x H1 => tb σ H1 fun y H2 => R x y H2) {Q : Value → Shared → Prop} {f : Value → Value → Sem Value}
    (hf : ∀ v u s2 x y H2, Inv X pins σ H2 s2 → RelV x v → RelV y u → R x y H2 → wpAny (model X.prog X.w) X.A (f v u) Q X.xe s2) :
    wpAny (model X.prog X.w) X.A (eval a X.env) (fun v s₁ => wpAny (model X.prog X.w) X.A (eval b X.env) (fun u s₂ => wpAny (model X.prog X.w) X.A (f v u) Q X.xe s₂) X.xe s₁) X.xe s := by
  refine thn (ha pins s σ H _ I h) fun v s1 ⟨x, H1, I1, r1, q1⟩ => ?_
  refine thn (hb pins s1 σ H1 _ I1 q1) fun u s2 ⟨y, H2, I2, r2, q2⟩ => ?_
  exact hf v u s2 x y H2 I2 r1 r2 q2

theorem pe_op {op : Operator} {r : R2} (ho : OpR X (binaryOp op) r) (ha : PE X a ta) (hb : PE X b tb) : PE X (.BinOp a op b pos) (tOp r ta tb) := by
  intro pins s σ H Q I h
  exact wpAny_BinOp (binT ha hb I h fun v u s2 x y H2 I2 rx ry q => ho pins s2 σ H2 x y v u Q I2 rx ry q)
theorem pe_un {op : UnaryOp} {r : V → Hp → VK → Prop} (ho : UnR X (unaryOp op) r) (ha : PE X a ta) : PE X (.UnaryOp op a pos) (tUn r ta) := by
  intro pins s σ H Q I h
  exact UnaryOp_ (thn (ha pins s σ H _ I h) fun v s1 ⟨x, H1, I1, r1, q1⟩ => ho pins s1 σ H1 x v Q I1 r1 q1)

/-! ### ints -/
theorem opI {f : Value → Value → Sem Value} {C : Int → Int → Prop} {g : Int → Int → Int}
    (rule : ∀ (i j : Int) (t u : Tok) (s : Shared) (Q : Value → Shared → Prop) (E : Value → Shared → Prop), C i j → Q (.int (g i j) s.toks) { s with toks := s.toks + 1 } → wpAny (model X.prog X.w) X.A (f (.int i t) (.int j u)) Q E s) :
    OpR X f (rI C fun i j => .int (g i j)) := by
  intro pins s σ H x y v u Q I rx ry h
  obtain ⟨i, j, rfl, rfl, hc, q⟩ := h
  obtain ⟨t, rfl⟩ := rx
  obtain ⟨t', rfl⟩ := ry
  exact rule i j t t' s _ _ hc ⟨.int (g i j), H, I.tok _, ⟨_, rfl⟩, q⟩
theorem opI0 {f : Value → Value → Sem Value} {g : Int → Int → Int}
    (rule : ∀ (i j : Int) (t u : Tok) (s : Shared) (Q : Value → Shared → Prop) (E : Value → Shared → Prop), Q (.int (g i j) s.toks) { s with toks := s.toks + 1 } → wpAny (model X.prog X.w) X.A (f (.int i t) (.int j u)) Q E s) :
    OpR X f (rI0 fun i j => .int (g i j)) := by
  intro pins s σ H x y v u Q I rx ry h
  obtain ⟨i, j, rfl, rfl, q⟩ := h
  obtain ⟨t, rfl⟩ := rx
  obtain ⟨t', rfl⟩ := ry
  exact rule i j t t' s _ _ ⟨.int (g i j), H, I.tok _, ⟨_, rfl⟩, q⟩
theorem opB0 {f : Value → Value → Sem Value} {g : Int → Int → Bool}
    (rule : ∀ (i j : Int) (t u : Tok) (s : Shared) (Q : Value → Shared → Prop) (E : Value → Shared → Prop), Q (.bool (g i j)) s → wpAny (model X.prog X.w) X.A (f (.int i t) (.int j u)) Q E s) :
    OpR X f (rI0 fun i j => .bl (g i j)) := by
  intro pins s σ H x y v u Q I rx ry h
  obtain ⟨i, j, rfl, rfl, q⟩ := h
  obtain ⟨t, rfl⟩ := rx
  obtain ⟨t', rfl⟩ := ry
  exact rule i j t t' s _ _ ⟨.bl (g i j), H, I, rfl, q⟩

def CDiv (i j : Int) : Prop := 0 < j ∧ j < 1073741824
def CPow (i j : Int) : Prop := 0 ≤ j ∧ j ≤ 1000000 ∧ i.natAbs < 2 ^ 64
def CMul (i j : Int) : Prop := (-(2 ^ 64) < i ∧ i < 2 ^ 64) ∨ (-(2 ^ 64) < j ∧ j < 2 ^ 64)
theorem CMul.ok {i j : Int} (h : CMul i j) : IntMulOk i j := by
  rcases h with ⟨h1, h2⟩ | ⟨h1, h2⟩
  · exact .of_left (intBits_le_64 h1 h2)
  · exact .of_right (intBits_le_64 h1 h2)

theorem op_add : OpR X (binaryOp .Add) (rI0 fun i j => .int (i + j)) := opI0 fun _ _ _ _ _ _ _ q => add_int q
theorem op_sub : OpR X (binaryOp .Sub) (rI0 fun i j => .int (i - j)) := opI0 fun _ _ _ _ _ _ _ q => sub_int q
theorem op_mul : OpR X (binaryOp .Mult) (rI CMul fun i j => .int (i * j)) := opI fun _ _ _ _ _ _ _ hc q => mul_int q hc.ok
/-- // by a positive divisor -/
theorem op_fdiv : OpR X (binaryOp .FloorDiv) (rI CDiv fun i j => .int (i / j)) := opI fun i j _ _ _ _ _ hc q => by
  have h1 : (0 : Int) < j := hc.1
  have h2 : j < 1073741824 := hc.2
  exact floordiv_int (by omega) (by rw [Int.fdiv_eq_ediv_of_nonneg i (by omega)]; exact q) (.inl (PyProof.noPylong_small (by omega)))
/-- % by a positive divisor of any size -/
theorem op_mod : OpR X (binaryOp .Mod) (rI (fun _ j => 0 < j) fun i j => .int (i % j)) := opI fun i j _ _ _ _ _ hc q => by
  have h1 : (0 : Int) < j := hc
  exact mod_int' (by omega) (by rw [Int.fmod_eq_emod_of_nonneg i (by omega)]; exact q)
theorem op_pow : OpR X (binaryOp .Pow) (rI CPow fun i j => .int (i ^ j.toNat)) := opI fun _ _ _ _ _ _ _ hc q => pow_int_small hc.1 hc.2.1 hc.2.2 q


theorem unI {f : Value → Sem Value} {g : Int → Int}
    (rule : ∀ (i : Int) (t : Tok) (s : Shared) (Q : Value → Shared → Prop) (E : Value → Shared → Prop), Q (.int (g i) s.toks) { s with toks := s.toks + 1 } → wpAny (model X.prog X.w) X.A (f (.int i t)) Q E s) :
    UnR X f (rU fun i => .int (g i)) := by
  intro pins s σ H x v Q I rx h
  obtain ⟨i, rfl, q⟩ := h
  obtain ⟨t, rfl⟩ := rx
  exact rule i t s _ _ ⟨.int (g i), H, I.tok _, ⟨_, rfl⟩, q⟩
theorem un_neg : UnR X (unaryOp .USub) (rU fun i => .int (-i)) := unI fun _ _ _ _ _ q => neg_int q

/-! ### bools among ints: n += (a < b) -/
end

/-! ### comparisons -/
/-- the scalars that == tells apart as data does -/
def scal : V → V → Bool
  | .non, .non => true | .non, .int _ => true | .int _, .non => true | .non, .bl _ => true | .bl _, .non => true | .non, .str _ => true | .str _, .non => true
  | .int _, .int _ => true | .bl _, .bl _ => true | .str _, .str _ => true | .byt _, .byt _ => true
  | .int _, .str _ => true | .str _, .int _ => true | .bl _, .str _ => true | .str _, .bl _ => true
  | _, _ => false
def rEq : R2 := fun x y H Q => scal x y = true ∧ Q (.bl (decide (x = y))) H
def rNe : R2 := fun x y H Q => scal x y = true ∧ Q (.bl (!decide (x = y))) H

theorem dec_int {i j : Int} : decide (V.int i = V.int j) = (i == j) := by
  rw [Bool.eq_iff_iff]
  simp
theorem dec_bl {i j : Bool} : decide (V.bl i = V.bl j) = (i == j) := by
  rw [Bool.eq_iff_iff]
  simp
theorem dec_str {i j : Str} : decide (V.str i = V.str j) = (i == j) := by
  rw [Bool.eq_iff_iff]
  simp
theorem dec_byt {i j : Array UInt8} : decide (V.byt i = V.byt j) = (i.toList == j.toList) := by
  rw [Bool.eq_iff_iff]
  cases i
  cases j
  simp

section
variable {X : Cx} {a b c : Expr} {ta tb tc : TE} {pos : Pos}
theorem fin_bl {pins : List (Addr × Obj)} {σ : St} {H : Hp} {s : Shared} {Q : VK} {k k' : Bool} (I : Inv X pins σ H s) (q : Q (.bl k) H) (e : k = k') : EP X pins σ Q (.bool k') s := by
  subst e
  exact ⟨.bl k, H, I, rfl, q⟩
theorem op_eq : OpR X (compareOp .Eq) rEq := by
  intro pins s σ H x y v u Q I rx ry h
  obtain ⟨hs, q⟩ := h
  cases x with
  | non =>
    cases rx
    cases y with
    | non => cases ry; exact PySem.EqNone.eq_none_none (fin_bl I q (by simp))
    | bl j => cases ry; exact PySem.EqNone.eq_none_bool (fin_bl I q (by simp))
    | int j => obtain ⟨t', rfl⟩ := ry; exact PySem.EqNone.eq_none_int (fin_bl I q (by simp))
    | str j => obtain ⟨t', rfl⟩ := ry; exact PySem.EqNone.eq_none_str (fin_bl I q (by simp))
    | _ => exact absurd (show false = true from hs) Bool.false_ne_true
  | bl i =>
    cases rx
    cases y with
    | non => cases ry; exact PySem.EqNone.eq_bool_none (fin_bl I q (by simp))
    | bl j => cases ry; exact eq_bool (fin_bl I q dec_bl)
    | str j => obtain ⟨t', rfl⟩ := ry; exact PySem.EqMixed.eq_bool_str (fin_bl I q (by simp))
    | _ => exact absurd (show false = true from hs) Bool.false_ne_true
  | int i =>
    obtain ⟨t, rfl⟩ := rx
    cases y with
    | non => cases ry; exact PySem.EqNone.eq_int_none (fin_bl I q (by simp))
    | int j => obtain ⟨t', rfl⟩ := ry; exact eq_int (fin_bl I q dec_int)
    | str j => obtain ⟨t', rfl⟩ := ry; exact PySem.EqMixed.eq_int_str (fin_bl I q (by simp))
    | _ => exact absurd (show false = true from hs) Bool.false_ne_true
  | str i =>
    obtain ⟨t, rfl⟩ := rx
    cases y with
    | non => cases ry; exact PySem.EqNone.eq_str_none (fin_bl I q (by simp))
    | bl j => cases ry; exact PySem.EqMixed.eq_str_bool (fin_bl I q (by simp))
    | int j => obtain ⟨t', rfl⟩ := ry; exact PySem.EqMixed.eq_str_int (fin_bl I q (by simp))
    | str j => obtain ⟨t', rfl⟩ := ry; exact eq_str (fin_bl I q dec_str)
    | _ => exact absurd (show false = true from hs) Bool.false_ne_true
  | byt i =>
    obtain ⟨t, rfl⟩ := rx
    cases y with
    | byt j => obtain ⟨t', rfl⟩ := ry; exact PySem.W.eq_bytes (fin_bl I q dec_byt)
    | _ => exact absurd (show false = true from hs) Bool.false_ne_true
  | _ => cases y <;> exact absurd (show false = true from hs) Bool.false_ne_true
theorem op_ne : OpR X (compareOp .NotEq) rNe := by
  intro pins s σ H x y v u Q I rx ry h
  obtain ⟨hs, q⟩ := h
  cases x with
  | non =>
    cases rx
    cases y with
    | non => cases ry; exact PySem.EqNone.ne_none_none (fin_bl I q (by simp))
    | bl j => cases ry; exact PySem.EqNone.ne_none_bool (fin_bl I q (by simp))
    | int j => obtain ⟨t', rfl⟩ := ry; exact PySem.EqNone.ne_none_int (fin_bl I q (by simp))
    | str j => obtain ⟨t', rfl⟩ := ry; exact PySem.EqNone.ne_none_str (fin_bl I q (by simp))
    | _ => exact absurd (show false = true from hs) Bool.false_ne_true
  | bl i =>
    cases rx
    cases y with
    | non => cases ry; exact PySem.EqNone.ne_bool_none (fin_bl I q (by simp))
    | bl j => cases ry; exact ne_bool (fin_bl I q (congrArg not dec_bl))
    | str j => obtain ⟨t', rfl⟩ := ry; exact PySem.EqMixed.ne_bool_str (fin_bl I q (by simp))
    | _ => exact absurd (show false = true from hs) Bool.false_ne_true
  | int i =>
    obtain ⟨t, rfl⟩ := rx
    cases y with
    | non => cases ry; exact PySem.EqNone.ne_int_none (fin_bl I q (by simp))
    | int j => obtain ⟨t', rfl⟩ := ry; exact ne_int (fin_bl I q (congrArg not dec_int))
    | str j => obtain ⟨t', rfl⟩ := ry; exact PySem.EqMixed.ne_int_str (fin_bl I q (by simp))
    | _ => exact absurd (show false = true from hs) Bool.false_ne_true
  | str i =>
    obtain ⟨t, rfl⟩ := rx
    cases y with
    | non => cases ry; exact PySem.EqNone.ne_str_none (fin_bl I q (by simp))
    | bl j => cases ry; exact PySem.EqMixed.ne_str_bool (fin_bl I q (by simp))
    | int j => obtain ⟨t', rfl⟩ := ry; exact PySem.EqMixed.ne_str_int (fin_bl I q (by simp))
    | str j => obtain ⟨t', rfl⟩ := ry; exact ne_str (fin_bl I q (congrArg not dec_str))
    | _ => exact absurd (show false = true from hs) Bool.false_ne_true
  | byt i =>
    obtain ⟨t, rfl⟩ := rx
    cases y with
    | byt j => obtain ⟨t', rfl⟩ := ry; exact PySem.W.ne_bytes (fin_bl I q (congrArg not dec_byt))
    | _ => exact absurd (show false = true from hs) Bool.false_ne_true
  | _ => cases y <;> exact absurd (show false = true from hs) Bool.false_ne_true

theorem op_lt : OpR X (compareOp .Lt) (rI0 fun i j => .bl (decide (i < j))) := opB0 fun _ _ _ _ _ _ _ q => lt_int q
theorem op_le : OpR X (compareOp .LtE) (rI0 fun i j => .bl (decide (i ≤ j))) := opB0 fun _ _ _ _ _ _ _ q => le_int q
theorem op_gt : OpR X (compareOp .Gt) (rI0 fun i j => .bl (decide (j < i))) := opB0 fun _ _ _ _ _ _ _ q => gt_int q




theorem nomark (b : Expr) {op : CmpOp} (h : op ≠ .In := by decide) (h2 : op ≠ .NotIn := by decide) : behindInMarks op b = false := by
  have e1 : (op == CmpOp.In) = false := by cases op <;> first | rfl | exact absurd rfl h
  have e2 : (op == CmpOp.NotIn) = false := by cases op <;> first | rfl | exact absurd rfl h2
  cases b <;> simp [behindInMarks, e1, e2]
/-- a comparison as a value; hm: nomark b, or (for in, not in) by with_unfolding_all rfl -/
theorem pe_cmpR {op : CmpOp} {r : R2} (ho : OpR X (compareOp op) r) (ha : PE X a ta) (hb : PE X b tb) (hm : behindInMarks op b = false) : PE X (.Compare a [op] [b] pos) (tOp r ta tb) := by
  intro pins s σ H Q I h
  exact wpAny_Compare1 (binT ha hb I h fun v u s2 x y H2 I2 rx ry q => ho pins s2 σ H2 x y v u Q I2 rx ry q) hm
/-- a reading of a value as a test -/
def tTest (t : TE) : TT := fun σ H Q => t σ H fun x H' => ∃ k, x = .bl k ∧ Q k H'
theorem pt_cmpR {op : CmpOp} {r : R2} (ho : OpR X (compareOp op) r) (ha : PE X a ta) (hb : PE X b tb) (hm : behindInMarks op b = false) : PT X (.Compare a [op] [b] pos) (tTest (tOp r ta tb)) := by
  intro pins s σ H Q I h
  refine wpAny_isTrue_Compare1 (thn (ha pins s σ H _ I h) fun v s1 ⟨x, H1, I1, r1, q1⟩ => thn (hb pins s1 σ H1 _ I1 q1) fun u s2 ⟨y, H2, I2, r2, q2⟩ =>
    thn (ho pins s2 σ H2 x y v u _ I2 r1 r2 q2) fun c s3 ⟨z, H3, I3, r3, k, e, q3⟩ => ?_) hm
  subst e
  cases r3
  exact wpAny_truthy_bool ⟨H3, I3, q3⟩
/-- a op1 b op2 c -/
def tChain (r r' : R2) (ta tb tc : TE) : TE := fun σ H Q => ta σ H fun x H1 => tb σ H1 fun y H2 => r x y H2 fun z H3 => ∃ k, z = .bl k ∧
  (if k = true then tc σ H3 fun w' H4 => r' y w' H4 Q else Q (.bl false) H3)
theorem pe_chain {op op' : CmpOp} {r r' : R2} (ho : OpR X (compareOp op) r) (ho' : OpR X (compareOp op') r') (ha : PE X a ta) (hb : PE X b tb) (hc : PE X c tc)
    (hm : lastMarks [op, op'] [b, c] = false := by with_unfolding_all rfl) : PE X (.Compare a [op, op'] [b, c] pos) (tChain r r' ta tb tc) := by
  intro pins s σ H Q I h
  refine Compare_chain (thn (ha pins s σ H _ I h) fun v s1 ⟨x, H1, I1, r1, q1⟩ => chain_link (thn (hb pins s1 σ H1 _ I1 q1) fun u s2 ⟨y, H2, I2, r2, q2⟩ =>
    thn (ho pins s2 σ H2 x y v u _ I2 r1 r2 q2) fun d s3 ⟨z, H3, I3, r3, k, e, q3⟩ => ?_)) hm
  subst e
  cases r3
  refine wpAny_truthy_bool ?_
  cases k with
  | false => exact ite_ff ⟨.bl false, H3, I3, rfl, q3⟩
  | true => exact ite_tt (chain_last (thn (hc pins s3 σ H3 _ I3 q3) fun w' s4 ⟨z', H4, I4, r4, q4⟩ => ho' pins s4 σ H4 y z' u w' Q I4 r2 r4 q4))
theorem pt_chain {op op' : CmpOp} {r r' : R2} (ho : OpR X (compareOp op) r) (ho' : OpR X (compareOp op') r') (ha : PE X a ta) (hb : PE X b tb) (hc : PE X c tc)
    (hm : lastMarks [op, op'] [b, c] = false := by with_unfolding_all rfl) : PT X (.Compare a [op, op'] [b, c] pos) (tTest (tChain r r' ta tb tc)) := by
  intro pins s σ H Q I h
  refine isTrue_chain (thn (ha pins s σ H _ I h) fun v s1 ⟨x, H1, I1, r1, q1⟩ => test_link (thn (hb pins s1 σ H1 _ I1 q1) fun u s2 ⟨y, H2, I2, r2, q2⟩ =>
    thn (ho pins s2 σ H2 x y v u _ I2 r1 r2 q2) fun d s3 ⟨z, H3, I3, r3, k, e, q3⟩ => ?_)) hm
  subst e
  cases r3
  refine wpAny_truthy_bool ?_
  cases k with
  | false =>
    obtain ⟨k', e', q'⟩ := q3
    cases e'
    exact ite_ff ⟨H3, I3, q'⟩
  | true =>
    refine ite_tt (test_last (thn (hc pins s3 σ H3 _ I3 q3) fun w' s4 ⟨z', H4, I4, r4, q4⟩ => thn (ho' pins s4 σ H4 y z' u w' _ I4 r2 r4 q4) fun d' s5 ⟨z2, H5, I5, r5, k2, e2, q5⟩ => ?_))
    subst e2
    cases r5
    exact wpAny_truthy_bool ⟨H5, I5, q5⟩

/-! ### truth -/
theorem line63 : (sizeLine : Nat) < 2 ^ 63 := by rw [sizeLine_eq]; decide

/-! ### strs and bytes -/


/-! ### scalar builtins, by CallR -/
theorem vals1 {x : V} {us : List Value} (r : Vals [x] us) : ∃ u, us = [u] ∧ RelV x u := by
  cases r with
  | cons r1 r2 => cases r2; exact ⟨_, rfl, r1⟩
theorem vals2 {x y : V} {us : List Value} (r : Vals [x, y] us) : ∃ u w', us = [u, w'] ∧ RelV x u ∧ RelV y w' := by
  cases r with
  | cons r1 r2 =>
    cases r2 with
    | cons r3 r4 => cases r4; exact ⟨_, _, rfl, r1, r3⟩
theorem call_max2 (hc : X.calm = true) : CallR X (.builtin "max") (fun xs H Q => ∃ i j, xs = [.int i, .int j] ∧ Q (.int (if j > i then j else i)) H) := by
  intro pins s σ H xs us Q I r h
  obtain ⟨i, j, rfl, q⟩ := h
  obtain ⟨u, w', rfl, ⟨t, rfl⟩, ⟨t', rfl⟩⟩ := vals2 r
  refine max_two_ints (I.ok.hd hc) fun h' tk k => ⟨_, H, I.kept k, ?_, q⟩
  by_cases hj : j > i
  · rw [if_pos hj, if_pos hj]; exact ⟨_, rfl⟩
  · rw [if_neg hj, if_neg hj]; exact ⟨_, rfl⟩
theorem call_min2 (hc : X.calm = true) : CallR X (.builtin "min") (fun xs H Q => ∃ i j, xs = [.int i, .int j] ∧ Q (.int (if j < i then j else i)) H) := by
  intro pins s σ H xs us Q I r h
  obtain ⟨i, j, rfl, q⟩ := h
  obtain ⟨u, w', rfl, ⟨t, rfl⟩, ⟨t', rfl⟩⟩ := vals2 r
  refine min_two_ints (I.ok.hd hc) fun h' tk k => ⟨_, H, I.kept k, ?_, q⟩
  by_cases hj : j < i
  · rw [if_pos hj, if_pos hj]; exact ⟨_, rfl⟩
  · rw [if_neg hj, if_neg hj]; exact ⟨_, rfl⟩
theorem call_str_int : CallR X (.type "str") (fun xs H Q => ∃ i, xs = [.int i] ∧ i.natAbs.log2 < 1920 ∧ Q (.str (toString i)) H) := by
  intro pins s σ H xs us Q I r h
  obtain ⟨i, rfl, hz, q⟩ := h
  obtain ⟨u, rfl, t, rfl⟩ := vals1 r
  exact PySem.P.str_of_int hz ⟨.str _, H, I.tok _, ⟨_, rfl⟩, q⟩
end
end L2

namespace L2
open PySem PySem.Spec PyProof.Rows

/-! ### an instance, its attributes a map -/
structure ObjM (h : Heap) (x dx C : Addr) (mA : Str → Option Value) : Prop where
  obj : h.get? x = some (PySem.W.instObj C dx)
  ns : h.Ns1 dx mA
  ne : dx ≠ x

theorem lookIn_ns {h : Heap} {dx : Addr} {mA : Str → Option Value} (n : h.Ns1 dx mA) : ∃ od, h.get? dx = some od ∧ ∀ name, PySem.W.lookIn name od = some (mA name) := by
  obtain ⟨o, es, ep, ho, hd, hk, _, hm⟩ := n
  refine ⟨o, ho, fun name => ?_⟩
  have e := hm name
  unfold nsFind findBy at e
  rw [← Array.find?_toList] at e
  unfold PySem.W.lookIn
  rw [hd]
  dsimp only
  split
  · rename_i y q
    rw [q] at e
    exact congrArg some e
  · rename_i q
    rw [q] at e
    have a : es.toList.any (·.refKey) = false := by
      rw [List.any_eq_false]
      intro y hy
      obtain ⟨z, t, hkey⟩ := hk y (Array.mem_toList_iff.mp hy)
      simp [DictEntry.refKey, hkey]
    have a' : ¬ es.toList.any (·.refKey) = true := by rw [a]; exact Bool.false_ne_true
    rw [if_neg a']
    exact congrArg some e

theorem ObjM.look {h : Heap} {x dx C : Addr} {mA : Str → Option Value} (I : ObjM h x dx C mA) : ∃ od, PySem.W.InstAt h x (PySem.W.instObj C dx) C (some od) ∧ ∀ name, PySem.W.lookIn name od = some (mA name) :=
  let ⟨od, ho, hl⟩ := lookIn_ns I.ns
  ⟨od, ⟨I.obj, rfl, rfl, ho⟩, hl⟩

section
variable {prog : Program} {w : World} {A : Around} {E : Value → Shared → Prop} {s : Shared} {K : PySem.W.Frag} {x dx C f : Addr} {mA : Str → Option Value} {name : Str} {v : Value}





end

/-! ### the attributes as a list of pairs -/


section
variable {P : Program} {w : World} {H H' : Hp} {h h' : Heap} {a C dx : Addr} {fs fs' : List (Str × V)}
theorem ins_get (hok : HOk P w H h) (e : H a = some (.ins C dx fs)) : ∃ mA, ObjM h a dx C mA ∧ (∀ f, RelO (fs.lookup f) (mA f)) ∧ PySem.Within mA (fs.map (·.1)) ∧ fs.length ≤ 1000 ∧ H dx = some (.own a) := by
  obtain ⟨d, z, ne, ob, mA, n, r, q⟩ := (show ObjOk P w H h a (.ins C dx fs) from hok a _ e)
  exact ⟨mA, ⟨ob, n, ne⟩, r, q, z, d⟩
end

/-! ### what of the text a class must have -/
structure Cls (K : PySem.W.Frag) (C : Addr) : Prop where
  pg : PySem.W.plainGet K C Str.empty = true
  hd : PySem.W.hasDictIn K C = true
  po : PySem.W.plainOver K C = true
  sa : PySem.W.findIn K (.ref C) "__setattr__" = some (some (.builtin "object.__setattr__"))
theorem Cls.get {K : PySem.W.Frag} {C : Addr} (c : Cls K C) (f : Str) : PySem.W.plainGet K C f = true := c.pg

section
variable {X : Cx} {pins : List (Addr × Obj)} {σ : St} {H : Hp} {s : Shared} {a C dx : Addr} {fs : List (Str × V)} {f : Str} {v : V} {A : Around} {E : Value → Shared → Prop}






end

/-! ### readings and rules -/

section
variable {X : Cx} {o e value : Expr} {f : Str} {pos pos' tpos : Pos} {ta tv : TE}

end

/-! ### isinstance -/
section
variable {X : Cx} {pins : List (Addr × Obj)} {σ : St} {H : Hp} {s : Shared} {A : Around} {E : Value → Shared → Prop} {Q : Value → Shared → Prop} {c : Value} {b : Bool}
/-- the type of a value, as the fragment's deciders take it; for an instance its class -/
inductive TyOf (K : PySem.W.Frag) (H : Hp) : V → Value → Prop where
  | non : TyOf K H .non (.type "NoneType")
  | bl (x : Bool) : TyOf K H (.bl x) (.type "bool")
  | int (i : Int) : TyOf K H (.int i) (.type "int")
  | str (x : Str) : TyOf K H (.str x) (.type "str")
  | flt (x : UInt64) : TyOf K H (.flt x) (.type "float")
  | lst {a : Addr} {xs : List V} (e : H a = some (.lst xs)) : TyOf K H (.ref a) (.type "list")
  | frz {a : Addr} {o : Obj} {xs : List V} (e : H a = some (.frz o (.lst xs))) : TyOf K H (.ref a) (.type "list")
  | tup {a : Addr} {xs : List V} (e : H a = some (.tup xs)) : TyOf K H (.ref a) (.type "tuple")
  | dK {a : Addr} {kvs : List (Key × V)} (e : H a = some (.dK kvs)) : TyOf K H (.ref a) (.type "dict")
  | dT {a : Addr} {kvs : List (List Key × V)} (e : H a = some (.dT kvs)) : TyOf K H (.ref a) (.type "dict")
  | ins {a C dx : Addr} {fs : List (Str × V)} (e : H a = some (.ins C dx fs)) (cl : Cls K C) (ha : PySem.W.findIn K (.ref C) "__class__" = some (some (.builtin "object.__class__")))
      (hn : PySem.W.specialIn K (.builtin "object.__class__") "__get__" = some (some (.builtin "getset_descriptor.__get__"))) (htk : PySem.W.takesIn K (.builtin "object.__class__") = some true)
      (hm : PySem.W.mroIn K C (.type "object") = some true) : TyOf K H (.ref a) (.ref C)
/-- isinstance(x, c) for one class c, a built-in or an own one: kitOne's answer -/
theorem isinst_ok {x : V} {u t : Value} (I : Inv X pins σ H s) (rx : RelV x u) (ty : TyOf X.K H x t) (e : PySem.W.kitOne X.K t c = some b) (h : ∀ tk, Q (.bool b) { s with toks := tk }) :
    wpAny (model X.prog X.w) A (call (.builtin "isinstance") [u, c]) Q E s := by
  cases ty with
  | non => cases (show u = Value.none from rx); exact PySem.W.kia_one PySem.W.kitx_none I.kIn True.intro e (fun z => nomatch z) h
  | bl y => cases (show u = Value.bool y from rx); exact PySem.W.kia_one PySem.W.kitx_bool I.kIn True.intro e (fun z => nomatch z) h
  | int i => obtain ⟨t, q⟩ := (show ∃ t, u = Value.int i t from rx); cases q; exact PySem.W.kia_one PySem.W.kitx_int I.kIn True.intro e (fun z => nomatch z) h
  | str y => obtain ⟨t, q⟩ := (show ∃ t, u = Value.str y t from rx); cases q; exact PySem.W.kia_one PySem.W.kitx_str I.kIn True.intro e (fun z => nomatch z) h
  | flt y => obtain ⟨t, q⟩ := (show ∃ t, u = Value.float y t from rx); cases q; exact PySem.W.kia_one PySem.W.kitx_float I.kIn True.intro e (fun z => nomatch z) h
  | @lst a xs ea =>
    cases (show u = Value.ref a from rx)
    obtain ⟨_, _, n, _, h1⟩ := (show ObjOk X.prog X.w H s.heap a (.lst xs) from I.hok a _ ea)
    exact PySem.W.kia_one PySem.W.kitx_list I.kIn ⟨_, h1, rfl⟩ e (fun z => nomatch z) h
  | @frz a ob xs ea =>
    cases (show u = Value.ref a from rx)
    obtain ⟨_, _, _, n, _, h1⟩ := (show ObjOk X.prog X.w H s.heap a (.frz ob (.lst xs)) from I.hok a _ ea)
    exact PySem.W.kia_one PySem.W.kitx_list I.kIn ⟨_, h1, rfl⟩ e (fun z => nomatch z) h
  | @tup a xs ea =>
    cases (show u = Value.ref a from rx)
    obtain ⟨_, _, _, p⟩ := (show ObjOk X.prog X.w H s.heap a (.tup xs) from I.hok a _ ea)
    obtain ⟨o, h1, h2, _⟩ := p
    exact PySem.W.kia_one PySem.W.kitx_tuple I.kIn ⟨o, h1, h2⟩ e (fun z => nomatch z) h
  | @dK a kvs ea =>
    cases (show u = Value.ref a from rx)
    obtain ⟨_, _, vs, _, p⟩ := (show ObjOk X.prog X.w H s.heap a (.dK kvs) from I.hok a _ ea)
    obtain ⟨o, es, ep, h1, h2, _⟩ := p
    exact PySem.W.kia_one PySem.W.kitx_dict I.kIn ⟨o, h1, h2.1⟩ e (fun z => nomatch z) h
  | @dT a kvs ea =>
    cases (show u = Value.ref a from rx)
    obtain ⟨_, _, xs, _, o, es, ep, h1, h2, _⟩ := (show ObjOk X.prog X.w H s.heap a (.dT kvs) from I.hok a _ ea)
    exact PySem.W.kia_one PySem.W.kitx_dict I.kIn ⟨o, h1, h2.1⟩ e (fun z => nomatch z) h
  | @ins a C dx fs ea cl ha hn htk hm =>
    cases (show u = Value.ref a from rx)
    obtain ⟨mA, O, _⟩ := ins_get I.hok ea
    obtain ⟨od, J, _⟩ := O.look
    exact PySem.W.kia_one (PySem.W.kitx_own (cl.get _) cl.hd ha hn htk hm) I.kIn J e (fun z => nomatch z) h
end
end L2

namespace L2
open PySem PySem.Spec PyProof.Rows

/-! ### room -/
structure Room (k : Nat) (A : Around) : Prop where
  hd : A.handled = none
  dp : A.depth + 3 * k + 5 < recursionLimit
  un : A.units + 16 * k + 200 < cLine
  gd : A.guards = some []
theorem Room.mono {j k : Nat} {A : Around} (r : Room k A) (h : j ≤ k) : Room j A := ⟨r.hd, by have := r.dp; omega, by have := r.un; omega, r.gd⟩
theorem Room.deeper {k : Nat} {A : Around} (r : Room (k + 1) A) (env : Env) : Room k (A.deeper env) :=
  ⟨r.hd, by have := r.dp; show A.depth + 1 + 3 * k + 5 < _; omega, by have := r.un; show A.units + 3 + 16 * k + 200 < _; omega, r.gd⟩
theorem Room.depth {k : Nat} {A : Around} (r : Room k A) : A.depth < recursionLimit := by have := r.dp; omega

/-! ### argument lists and displays -/
def tNil : TA := fun _ H Q => Q [] H
def tCons (ta : TE) (tr : TA) : TA := fun σ H Q => ta σ H fun x H1 => tr σ H1 fun xs H2 => Q (x :: xs) H2
section
variable {X : Cx} {e : Expr} {es : List Expr} {te : TE} {t : TA} {pos : Pos}
theorem pa_nil : PA X [] tNil := fun _ _ _ _ H Q I h => Calls.spliced_nil ⟨[], H, I, .nil, h⟩
theorem pa_cons (ha : PE X e te) (hr : PA X es t) (hs : starEach (e :: es) X.env = (false, eval e X.env) :: starEach es X.env := by rfl) : PA X (e :: es) (tCons te t) := by
  intro pos pins s σ H Q I h
  rw [hs]
  show wpAny _ _ (spliced ((false, eval e X.env) :: backTo pos (starEach es X.env))) _ _ s
  refine Calls.spliced_cons (thn (ha pins s σ H _ I h) fun u s1 ⟨x, H1, I1, r1, q1⟩ => ?_)
  exact thn (hr pos pins s1 σ H1 _ I1 q1) fun us s2 ⟨xs, H2, I2, r2, q2⟩ => ⟨x :: xs, H2, I2, .cons r1 r2, q2⟩

/-- a tuple, a list of written items -/
def tTup (t : TA) : TE := fun σ H Q => t σ H fun xs H1 => xs.length ≤ sizeLine ∧ ∀ p, H1 p = none → Q (.ref p) (upd H1 p (.tup xs))
def tLst (t : TA) : TE := fun σ H Q => t σ H fun xs H1 => xs.length ≤ sizeLine ∧ ∀ p, H1 p = none → Q (.ref p) (upd H1 p (.lst xs))
theorem pe_tup {x1} (h : PA X es t) : PE X (.Tuple es x1 pos) (tTup t) := by
  intro pins s σ H Q I hq
  refine wpAny_Tuple_spliced (thn (h pos pins s σ H _ I hq) fun us s1 ⟨xs, H1, I1, r, z, q⟩ => ⟨by rw [← r.length]; exact z, ?_⟩)
  have hf : H1 s1.heap.objs.size = none := I1.hok.fresh (Nat.le_refl _)
  refine ⟨.ref s1.heap.objs.size, upd H1 s1.heap.objs.size (.tup xs), I1.laid (t' := s1.toks) (fun b u e => Heap.get?_push_of_some _ e) (Nat.le_refl _) ?_, rfl, q _ hf⟩
  exact ⟨z, us, r, ⟨_, Heap.get?_push_size _ rfl, rfl, _, rfl⟩⟩
theorem pe_lst (h : PA X es t) : PE X (.List es pos) (tLst t) := by
  intro pins s σ H Q I hq
  refine wpAny_List_spliced (thn (h pos pins s σ H _ I hq) fun us s1 ⟨xs, H1, I1, r, z, q⟩ => ⟨by rw [← r.length]; exact z, ?_⟩)
  have hf : H1 s1.heap.objs.size = none := I1.hok.fresh (Nat.le_refl _)
  refine ⟨.ref s1.heap.objs.size, upd H1 s1.heap.objs.size (.lst xs), I1.laid (t' := s1.toks) (fun b u e => Heap.get?_push_of_some _ e) (Nat.le_refl _) ?_, rfl, q _ hf⟩
  exact ⟨z, us, 0, r, Heap.get?_push_size _ rfl⟩
end

/-! ### what a def promises -/
/-- a def's promise: the bound arguments in the parameters' order, the heap, the wanted end, the wanted exception -/
abbrev Sp := List V → Hp → VK → XK → Prop
/-- how an exception lies behind a call (file 08 gives it): the callers' frames, abstract heap and state ahead of the call, the wish, the exception, the state -/
abbrev CXT := List Env → Hp → Shared → XK → Value → Shared → Prop

/-- the state at a call -/
structure Env0 (P : Program) (w : World) (K : PySem.W.Frag) (mg : Str → Option Value) (base : Heap) (A : Around) (outer : List Env) (s : Shared) (H : Hp) : Prop where
  frames : A.frames = some outer
  mod : Mod K mg base
  bs : ∀ b o, base.get? b = some o → s.heap.get? b = some o ∧ H b = none
  bsz : base.objs.size ≤ s.heap.objs.size
  funs : s.heap.FunFrames base outer
  frf : ∀ b ∈ frs outer, H b = none
  hok : HOk P w H s.heap
  bare : AllBare s.gens
/-- a call's end -/
def CE (outer : List Env) (P : Program) (w : World) (H : Hp) (s : Shared) (Q : VK) (u : Value) (s' : Shared) : Prop :=
  ∃ v H', s'.os = s.os ∧ AllBare s'.gens ∧ Un (frs outer) [] H H' s.heap s'.heap ∧ HOk P w H' s'.heap ∧ RelV v u ∧ Q v H'
def CR (CX : CXT) (outer : List Env) (P : Program) (w : World) (H : Hp) (s : Shared) (Q : VK) (E : XK) (r : Result) (s' : Shared) : Prop :=
  match r with
  | .ok (.ret u) => CE outer P w H s Q u s'
  | .ok _ => False
  | .error e => CX outer H s E e s'
structure FnOk (P : Program) (w : World) (K : PySem.W.Frag) (mg : Str → Option Value) (base : Heap) (CX : CXT) (k : Nat) (f : Addr) (fd : FuncData) (ps : List Str) (sp : Sp) : Prop where
  len : ∀ vs H Q E, sp vs H Q E → vs.length = ps.length
  run : ∀ (A : Around) (outer : List Env) (s : Shared) (H : Hp) (args : Args) (us : List Value) (vs : List V) (Q : VK) (E : XK), Room k A → Env0 P w K mg base A outer s H → BindsTo s fd args (ps.zip us) → Vals vs us → sp vs H Q E →
    codeAny (model P w) A (.call (.ref f) args) (CR CX outer P w H s Q E) s


section
variable {X : Cx} {pins : List (Addr × Obj)} {σ : St} {H : Hp} {s s' : Shared}
/-- from a body: what a callee wants -/
theorem Inv.env0 (I : Inv X pins σ H s) : Env0 X.prog X.w X.K X.mg X.base X.A X.stack s H :=
  ⟨I.ok.frames, I.ok.mod, I.bs, Nat.le_trans I.ok.bsz I.sz, I.stack, I.stkFree, I.hok, I.bare⟩
/-- behind a call -/
theorem Inv.after {Q : VK} {u : Value} (I : Inv X pins σ H s) (h : CE X.stack X.prog X.w H s Q u s') : EP X pins σ Q u s' := by
  obtain ⟨v, H', os, bare, un, hok, r, q⟩ := h
  obtain ⟨hh, g, d, t, os'⟩ := s'
  obtain rfl : os' = s.os := os
  exact ⟨v, H', I.call (h' := hh) (g' := g) (d' := d) (t' := t) (ch := []) un hok bare (fun b z => absurd z (by simp)), r, q⟩
end

/-! ### calls -/
/-- f(..): the written arguments, then the defaults dvs; E: what is wanted of an exception -/
def tCall (sp : Sp) (dvs : List V) (E : XK) (t : TA) : TE := fun σ H Q => t σ H fun vs H1 => sp (vs ++ dvs) H1 Q E

/-- how the parameters are bound: us the positional arguments, kw the keywords' values by name, ds the defaults that fill up -/
def Binds (K : PySem.W.Frag) (fd : FuncData) (ps : List Str) (ds : List Value) : Prop :=
  ∀ (s : Shared) (us : List Value), K.In s.heap → (us ++ ds).length = ps.length → BindsTo s fd ⟨us, []⟩ (ps.zip (us ++ ds))
/-- every parameter is given -/
theorem Binds.all {K : PySem.W.Frag} {fd : FuncData} {ps : List Str} (h : ∀ us : List Value, us.length = ps.length → bindArgs fd ⟨us, []⟩ = pure (ps.zip us)) : Binds K fd ps [] := fun s us _ hl => by
  rw [List.append_nil] at hl ⊢
  exact .of_eq (h us hl)

/-- an exception of a callee reaches what this body wants of exceptions -/
def Passes (CX : CXT) (X : Cx) (E : XK) : Prop := ∀ (pins : List (Addr × Obj)) (σ : St) (H : Hp) (s : Shared) (e : Value) (s' : Shared), Inv X pins σ H s → CX X.stack H s E e s' → X.xe e s'

section
variable {X : Cx} {CX : CXT} {k : Nat} {f C : Addr} {fd : FuncData} {ps : List Str} {sp : Sp} {dvs : List V} {ds : List Value} {E : XK} {x m : Str} {p pos apos : Pos} {e o : Expr} {es : List Expr} {ta : TE} {t : TA}

/-- the callee runs -/
theorem run_fn {pins : List (Addr × Obj)} {σ : St} {H : Hp} {s : Shared} {Q : VK} {us : List Value} {vs : List V} (F : FnOk X.prog X.w X.K X.mg X.base CX k f fd ps sp) (hr : Room k X.A) (hb : Binds X.K fd ps ds) (hd : Vals dvs ds) (hx : Passes CX X E)
    (I : Inv X pins σ H s) (r : Vals vs us) (h : sp (vs ++ dvs) H Q E) : wpAny (model X.prog X.w) X.A (call (.ref f) us) (EP X pins σ Q) X.xe s := by
  have r2 : Vals (vs ++ dvs) (us ++ ds) := r.append hd
  have hl : (us ++ ds).length = ps.length := by rw [← r2.length]; exact F.len _ _ _ _ h
  refine wpAny_call (codeAny_mono (F.run X.A X.stack s H ⟨us, []⟩ (us ++ ds) (vs ++ dvs) Q E hr I.env0 (hb s us I.kIn hl) r2 h) fun r s' hq => ?_)
  cases r with
  | error e => exact hx pins σ H s e s' I hq
  | ok fl =>
    cases fl with
    | ret u => exact I.after hq
    | next => exact False.elim hq
    | brk => exact False.elim hq
    | cont => exact False.elim hq

theorem pe_call (F : FnOk X.prog X.w X.K X.mg X.base CX k f fd ps sp) (hr : Room k X.A) (hg : Gl X x) (hm : X.mg x = some (.ref f)) (hk : PySem.W.keepIn X.K (.ref f) = true) (hb : Binds X.K fd ps ds) (hd : Vals dvs ds) (hx : Passes CX X E)
    (ha : PA X (e :: es) t) (hdb : (x == ("__debug__" : Str)) = false := by decide) (he : starEach (e :: es) X.env = (false, eval e X.env) :: starEach es X.env := by rfl) (hpl : (backTo pos (starEach es X.env)).any (·.1) = false := by rfl) :
    PE X (.Call (.Name x p) (e :: es) [] pos) (tCall sp dvs E t) := by
  intro pins s σ H Q I h
  refine wpAny_Call_Name_kw (ld_glob I hg hm ?_ hdb)
  refine PySem.W.callWith_K (h₀ := X.base) I.ok.mod.kin hk (thn (ha pos pins s σ H _ I h) fun us s1 ⟨vs, H1, I1, r, q⟩ => ⟨I1.kIn, ?_⟩) he hpl
  exact run_fn F hr hb hd hx I1 r q



end

/-! ### keywords -/
section
variable {X : Cx} {CX : CXT} {k : Nat} {f C : Addr} {fd : FuncData} {ps ks : List Str} {sp : Sp} {E : XK} {x m : Str} {p pos apos kpos : Pos} {e o : Expr} {es : List Expr} {kws : List Keyword} {te ta : TE} {t tk : TA} {nm : Option Str}

variable {g : List Value → List Value → List Value} {gV : List V → List V → List V}
end

/-! ### a def's body keeps its promise -/
/-- names: the parameters first -/
structure FnScope (N P : List Str) (sc : Scope) : Prop where
  kind : sc.kind = .function
  co : sc.isCoroutine = false
  gen : sc.isGenerator = false
  nd : N.Nodup
  pre : N.take P.length = P
  par : ∀ x ∈ P, sc.names.lookup x = some .local ∨ sc.names.lookup x = some .cell
  nofree : ∀ y ∈ sc.names, y.2 ≠ .free

theorem bindL_out {kindOf : Str → Option NameKind} {x : Str} : ∀ {binds : List (Str × Value)} {m : Str → Option Value}, (∀ v, (x, v) ∉ binds) → bindL kindOf binds m x = m x
  | [], _, _ => rfl
  | (n, v) :: r, m, h => by
    unfold bindL
    rw [bindL_out fun w hw => h w (List.mem_cons_of_mem _ hw)]
    split
    · have : x ≠ n := by rintro rfl; exact h v List.mem_cons_self
      simp [this]
    · rfl
theorem bindC_out {kindOf : Str → Option NameKind} {x : Str} : ∀ {binds : List (Str × Value)} {m : Str → Option Value}, (∀ v, (x, v) ∉ binds) → bindC kindOf binds m x = m x
  | [], _, _ => rfl
  | (n, v) :: r, m, h => by
    unfold bindC
    rw [bindC_out fun w hw => h w (List.mem_cons_of_mem _ hw)]
    split
    · rfl
    · have : x ≠ n := by rintro rfl; exact h v List.mem_cons_self
      simp [this]
theorem bindL_get {kindOf : Str → Option NameKind} {x : Str} {v : Value} : ∀ {P : List Str} {vs : List Value} {i : Nat} {m : Str → Option Value}, P.Nodup → P[i]? = some x → vs[i]? = some v → kindOf x = some .local →
    bindL kindOf (P.zip vs) m x = some v
  | [], _, _, _, _, h, _, _ => by simp at h
  | _ :: _, [], _, _, _, _, h, _ => by simp at h
  | p :: P, w :: vs, 0, m, nd, h1, h2, hk => by
    simp at h1 h2; subst h1; subst h2
    show bindL kindOf ((p, w) :: P.zip vs) m p = _
    unfold bindL
    rw [bindL_out fun v hv => (List.nodup_cons.mp nd).1 (List.of_mem_zip hv).1, if_pos hk]
    simp
  | p :: P, w :: vs, i + 1, m, nd, h1, h2, hk => by
    show bindL kindOf ((p, w) :: P.zip vs) m x = _
    unfold bindL
    exact bindL_get (i := i) (List.nodup_cons.mp nd).2 (by simpa using h1) (by simpa using h2) hk
theorem bindC_get {kindOf : Str → Option NameKind} {x : Str} {v : Value} : ∀ {P : List Str} {vs : List Value} {i : Nat} {m : Str → Option Value}, P.Nodup → P[i]? = some x → vs[i]? = some v → kindOf x ≠ some .local →
    bindC kindOf (P.zip vs) m x = some v
  | [], _, _, _, _, h, _, _ => by simp at h
  | _ :: _, [], _, _, _, _, h, _ => by simp at h
  | p :: P, w :: vs, 0, m, nd, h1, h2, hk => by
    simp at h1 h2; subst h1; subst h2
    show bindC kindOf ((p, w) :: P.zip vs) m p = _
    unfold bindC
    rw [bindC_out fun v hv => (List.nodup_cons.mp nd).1 (List.of_mem_zip hv).1, if_neg hk]
    simp
  | p :: P, w :: vs, i + 1, m, nd, h1, h2, hk => by
    show bindC kindOf ((p, w) :: P.zip vs) m x = _
    unfold bindC
    exact bindC_get (i := i) (List.nodup_cons.mp nd).2 (by simpa using h1) (by simpa using h2) hk

/-- the names' values at the entry -/
def start (N : List Str) (vs : List V) : St := vs.map some ++ List.replicate (N.length - vs.length) none

/-- the context of a def's body, at its entry; an exception leaves the frame, then lies as CX says -/
def cxOf (CX : CXT) (P : Program) (w : World) (K : PySem.W.Frag) (mg : Str → Option Value) (base : Heap) (N : List Str) (qual : Str) (scope : Scope) (f : Addr) (cd : Value) (A : Around) (outer : List Env) (s : Shared) (H : Hp) (E : XK) : Cx where
  prog := P
  w := w
  K := K
  mg := mg
  base := base
  A := A.deeper (envOfC qual scope s.heap.objs.size f cd)
  N := N
  s₀ := s
  H₀ := H
  env := envOfC qual scope s.heap.objs.size f cd
  outer := outer
  stack := envOfC qual scope s.heap.objs.size f cd :: outer
  ex := []
  calm := true
  fn := fun _ => true
  pn := []
  xe := fun e s' => wpAny (model P w) (A.deeper (envOfC qual scope s.heap.objs.size f cd)) (leaving (envOfC qual scope s.heap.objs.size f cd) e) (fun _ s'' => CX outer H s E e s'') (fun e' s'' => CX outer H s E e' s'') s'

theorem cell_has {sc : Scope} {n : Nat} {x : Str} (h : sc.names.lookup x = some .cell) : ∃ c, (cellsFrom n sc.names []).lookup x = some c := by
  have q := PySem.W.cellsFrom_some sc.names n [] (.inl h)
  exact Option.isSome_iff_exists.mp q

theorem inv_start {CX : CXT} {P : Program} {w : World} {K : PySem.W.Frag} {mg : Str → Option Value} {base : Heap} {N ps : List Str} {qual : Str} {scope : Scope} {f : Addr} {cd : Value} {A : Around} {outer : List Env} {s s1 : Shared} {H : Hp} {E : XK} {us : List Value} {vs : List V}
    (S : FnScope N ps scope) (hd : A.handled = none) (e0 : Env0 P w K mg base A outer s H) (hl : vs.length = ps.length) (r : Vals vs us)
    (x : InCallC s s.heap.objs.size (bindL (envOfC qual scope s.heap.objs.size f cd).kindOf (ps.zip us) fun _ => none) (cellsFrom (s.heap.objs.size + 1) scope.names []) (bindC (envOfC qual scope s.heap.objs.size f cd).kindOf (ps.zip us) fun _ => none) s1) :
    Inv (cxOf CX P w K mg base N qual scope f cd A outer s H E) [] (start N vs) H s1 := by
  have hpl : ps.length ≤ N.length := by have := congrArg List.length S.pre; rw [List.length_take] at this; omega
  obtain ⟨h1, tk, rfl, hk⟩ := x.done
  have noA : ∀ b : Addr, b ∉ (cxOf CX P w K mg base N qual scope f cd A outer s H E).ex := fun b z => absurd (show b ∈ ([] : List Addr) from z) (by simp)
  refine ⟨⟨e0.mod, S.kind, rfl, rfl, Nat.le_refl _, fun y z c h1 h2 => ?_, fun y hy => ?_, fun y c _ h => ?_, fun _ => hd, Around.frames_deeper e0.frames, .inr ⟨rfl, rfl⟩, fun b z => absurd z (noA b), e0.bs, e0.bsz, fun b _ _ => noA b, fun b z => absurd z (noA b), e0.funs, e0.frf⟩,
    rfl, e0.bare, Un.kept hk, ⟨_, x.toInCall.ns, fun i y v h1 h2 h3 => ?_⟩, fun y c h => ⟨_, x.cell y c h⟩, e0.hok.fresh (Nat.le_refl _), fun y c h => ?_, fun p hp => absurd (show p ∈ ([] : List (Addr × Obj)) from hp) (by simp), e0.hok.kept hk, ?_⟩
  · exact name_of_addr x.apart (PySem.mem_of_lookup h1) (PySem.mem_of_lookup h2)
  · have hy : scope.names.lookup y = some .cell ∨ scope.names.lookup y = some .free := hy
    rcases hy with hy | hy
    · exact cell_has hy
    · exact absurd rfl (S.nofree _ (PySem.mem_of_lookup hy))
  · exact Nat.le_of_lt (x.above y c (PySem.mem_of_lookup h))
  · have hi : i < vs.length := by
      unfold start at h2
      by_cases hi : i < vs.length
      · exact hi
      · rw [List.getElem?_append_right (by simpa using hi)] at h2
        rw [List.getElem?_replicate] at h2
        split at h2 <;> cases h2
    have ha : vs[i]? = some v := by
      unfold start at h2
      rw [List.getElem?_append_left (by simpa using hi), List.getElem?_map] at h2
      cases e : vs[i]? with
      | none => rw [e] at h2; cases h2
      | some a => rw [e] at h2; cases h2; rfl
    obtain ⟨u, hu, rv⟩ := r.get ha
    have hp : ps[i]? = some y := by
      rw [← S.pre, List.getElem?_take_of_lt (by omega)]; exact h1
    have ndP : ps.Nodup := by rw [← S.pre]; exact S.nd.sublist (List.take_sublist _ _)
    refine ⟨u, rv, ?_⟩
    rcases S.par y (List.mem_of_getElem? hp) with k | k
    · exact .inl ⟨k, bindL_get ndP hp hu k⟩
    · obtain ⟨c, e⟩ := cell_has (n := s.heap.objs.size + 1) k
      refine .inr ⟨.inl k, c, e, ?_⟩
      have q := x.cell y c e
      rw [bindC_get ndP hp hu (by show scope.names.lookup y ≠ _; rw [k]; decide)] at q
      exact q
  · exact e0.hok.fresh (Nat.le_of_lt (x.above y c (PySem.mem_of_lookup h)))
  · unfold start
    show _ = N.length
    rw [List.length_append, List.length_map, List.length_replicate]
    omega

/-- THE RULE: a def (or a method) of the text, by its body. The body's reading t is chosen for each entry; it is run at the parameters' values -/
theorem fn_of {CX : CXT} {P : Program} {w : World} {K : PySem.W.Frag} {mg : Str → Option Value} {base : Heap} {k : Nat} {f : Addr} {name qual : Str} {params : Arguments} {body : List Stmt} {scope : Scope} {dV kV doc pm cdv ct oc : Value} {an od : Option Addr}
    {osl : Array (Option Value)} {N ps : List Str} {sp : Sp} (lk : K.lookup f = some ⟨oc, od, .func (PySem.W.fnOf name qual params body scope dV kV doc pm an cdv ct), osl⟩) (hcd : PySem.W.codeIn K cdv qual = true) (S : FnScope N ps scope)
    (len : ∀ vs H Q E, sp vs H Q E → vs.length = ps.length)
    (hbody : ∀ (A : Around) (outer : List Env) (s : Shared) (H : Hp) (vs : List V) (Q : VK) (E : XK), Room k (A.deeper (envOfC qual scope s.heap.objs.size f cdv)) → sp vs H Q E →
      ∃ t, PSs (cxOf CX P w K mg base N qual scope f cdv A outer s H E) body t ∧ t { nx := fun _ H' => Q .non H', rt := Q } (start N vs) H) :
    FnOk P w K mg base CX (k + 1) f (PySem.W.fnOf name qual params body scope dV kV doc pm an cdv ct) ps sp := by
  refine ⟨len, fun A outer s H args us vs Q E hr e0 hb r hsp => ?_⟩
  have hl := len _ _ _ _ hsp
  have KX : K.In s.heap := e0.mod.kin.keeps fun b o e => (e0.bs b o e).1
  have lim : s.heap.NoLimit := e0.mod.nolimit.keeps fun b o e => (e0.bs b o e).1
  have hkind : ∀ y ∈ ps.zip us, scope.names.lookup y.1 = some .local ∨ (scope.names.lookup y.1 = some .cell ∧ ((cellsFrom (s.heap.objs.size + 1) scope.names []).lookup y.1).isSome = true) := fun ⟨n, v⟩ hy => by
    rcases S.par n (List.of_mem_zip hy).1 with q | q
    · exact .inl q
    · exact .inr ⟨q, PySem.W.cellsFrom_some _ _ _ (.inl q)⟩
  refine codeAny_call_function hr.depth (KX _ _ lk) rfl S.co S.gen rfl (PySem.W.codeRec_of KX hcd) (hb _ _ _ _ ?_)
  refine wpAny_newFunctionEnv_cells S.kind hkind fun env he s1 x => ?_
  subst he
  refine ⟨lim.keeps x.toInCall.keep, codeAny_func ?_⟩
  obtain ⟨t, ht, hq⟩ := hbody A outer s H vs Q E (hr.deeper _) hsp
  have I : Inv (cxOf CX P w K mg base N qual scope f cdv A outer s H E) [] (start N vs) H s1 := inv_start S hr.hd e0 hl r x
  refine wpAny_mono (ht [] s1 (start N vs) H _ I hq) (fun fl s' hs => ?_) fun e s' hs => hs
  have fin : ∀ {σ' : St} {H' : Hp} {v : V} {u : Value}, Inv (cxOf CX P w K mg base N qual scope f cdv A outer s H E) [] σ' H' s' → RelV v u → Q v H' → CE outer P w H s Q u s' :=
    fun {σ' H' v u} J rv q => ⟨v, H', J.os, J.bare, J.base, J.hok, rv, q⟩
  cases fl with
  | ret u =>
    obtain ⟨v, σ', H', J, rv, q⟩ := hs
    exact fin J rv q
  | next =>
    obtain ⟨σ', H', J, q⟩ := hs
    exact fin (v := V.non) (u := Value.none) J rfl q
  | brk =>
    obtain ⟨_, _, _, q⟩ := hs
    exact False.elim q
  | cont =>
    obtain ⟨_, _, _, q⟩ := hs
    exact False.elim q
end L2

namespace L2
open PySem PySem.Spec PyProof.Rows
section
variable {X : Cx} {x : Str} {p pos : Pos} {e : Expr} {es : List Expr} {t : TA} {id T : String} {r : List V → Hp → VK → Prop}

def tCB (r : List V → Hp → VK → Prop) (t : TA) : TE := fun σ H Q => t σ H fun vs H1 => r vs H1 Q
/-- f(e, ..), f a built-in function -/
theorem pe_callB (hc : CallR X (.builtin id) r) (hg : Gl X x) (hm : X.mg x = none) (hv : bootBuiltins x = some (.builtin id)) (ha : PA X (e :: es) t) (hn : x ≠ "__name__" := by decide) (hdb : (x == ("__debug__" : Str)) = false := by decide)
    (he : starEach (e :: es) X.env = (false, eval e X.env) :: starEach es X.env := by rfl) (hpl : (backTo pos (starEach es X.env)).any (·.1) = false := by rfl) : PE X (.Call (.Name x p) (e :: es) [] pos) (tCB r t) := by
  intro pins s σ H Q I h
  refine wpAny_Call_Name_kw (ld_blt I hg hm hv ?_ hn hdb)
  exact PyProof.Rows.callWith_builtin1 (thn (ha pos pins s σ H _ I h) fun us s1 ⟨vs, H1, I1, r1, q1⟩ => hc pins s1 σ H1 vs us Q I1 r1 q1) he hpl
/-- T(e, ..), T a built-in type -/
theorem pe_callTy (hc : CallR X (.type T) r) (hg : Gl X x) (hm : X.mg x = none) (hv : bootBuiltins x = some (.type T)) (ha : PA X (e :: es) t) (hn : x ≠ "__name__" := by decide) (hdb : (x == ("__debug__" : Str)) = false := by decide)
    (he : starEach (e :: es) X.env = (false, eval e X.env) :: starEach es X.env := by rfl) (hpl : (backTo pos (starEach es X.env)).any (·.1) = false := by rfl) : PE X (.Call (.Name x p) (e :: es) [] pos) (tCB r t) := by
  intro pins s σ H Q I h
  refine wpAny_Call_Name_kw (ld_blt I hg hm hv ?_ hn hdb)
  exact PyProof.Rows.callWith_type1 (thn (ha pos pins s σ H _ I h) fun us s1 ⟨vs, H1, I1, r1, q1⟩ => hc pins s1 σ H1 vs us Q I1 r1 q1) he hpl
end
end L2

namespace HT
open PySem PyProof.Rows

/-- t < u of tuples of ints -/
def lexLt : List Int → List Int → Bool
  | [], [] => false
  | [], _ :: _ => true
  | _ :: _, [] => false
  | x :: xs, y :: ys => if x = y then lexLt xs ys else decide (x < y)
theorem lexLt_cons (x y : Int) (xs ys : List Int) : lexLt (x :: xs) (y :: ys) = if x = y then lexLt xs ys else decide (x < y) := rfl


section
open PySem.SeqAt
open PySem.AutoSeq1 (wpAny_loadPart')
open PySem.MeetsSeq PySem.MeetsSeq2 PySem.MeetsSeq3

end

section
variable {prog : Program} {w : World} {A : Around} {E : Value → Shared → Prop} {s : Shared}


/-- t + u, t not empty -/
theorem cat_tup {t b : Addr} {vs ws : List Value} {Q : Value → Shared → Prop} (ht : IsTup s.heap t vs.toArray) (hb : IsTup s.heap b ws.toArray) (hv : vs ≠ [])
    (h1 : ws = [] → Q (.ref t) s) (h2 : ws ≠ [] → Q (.ref s.heap.objs.size) { s with heap := s.heap.push { cls := .type "tuple", data := .seq (vs ++ ws).toArray } })
    (hsz : vs.length + ws.length ≤ sizeLine) : wpAny (model prog w) A (binaryOp .Add (.ref t) (.ref b)) Q E s := by
  obtain ⟨⟨cls, dd, data, sl⟩, ho, hc, n, hd⟩ := id ht
  obtain ⟨⟨cls2, dd2, data2, sl2⟩, ho2, hc2, n2, hd2⟩ := id hb
  simp only at hc hd hc2 hd2
  subst hc hd hc2 hd2
  have e : vs.toArray ++ ws.toArray = (vs ++ ws).toArray := by simp
  by_cases hw : ws = []
  · exact concat_meets ⟨_, ho, rfl⟩ ⟨_, ho2, rfl⟩ noFill_tuple_add seq_tuple_add PySem.F.slot_tuple_add PySem.F.entry_tuple_add (PySem.F.args_tuple_add_2 _ _)
      (tuple_addW1 t b vs.toArray ws.toArray n n2 dd dd2 sl sl2 (by simpa using hv) (by simp [hw])) ⟨ho, ho2, h1 hw⟩
  · refine concat_meets ⟨_, ho, rfl⟩ ⟨_, ho2, rfl⟩ noFill_tuple_add seq_tuple_add PySem.F.slot_tuple_add PySem.F.entry_tuple_add (PySem.F.args_tuple_add_2 _ _)
      (tuple_addW2 t b vs.toArray ws.toArray n n2 dd dd2 sl sl2 (by simpa using hv) (by simpa using hw) (by rw [List.size_toArray, List.size_toArray]; exact hsz)) ⟨ho, ho2, ?_⟩
    rw [e]
    exact h2 hw

/-! ### t[a:b], not the whole -/
/-- a slice's bound as a place among n (d where it is left out) -/
def sIx (n d : Nat) : Option Int → Nat
  | none => d
  | some v => if v < 0 then (v + (n : Int)).toNat else min v.toNat n
theorem sIx_none (n d : Nat) : sIx n d none = d := rfl
theorem sIx_nat (n d k : Nat) : sIx n d (some (k : Int)) = min k n := by
  show (if (k : Int) < 0 then ((k : Int) + (n : Int)).toNat else min (k : Int).toNat n) = min k n
  rw [if_neg (by omega), Int.toNat_natCast]
theorem sIx_le (n d : Nat) (hd : d ≤ n) (o : Option Int) : sIx n d o ≤ n := by
  cases o with
  | none => exact hd
  | some v =>
    show (if v < 0 then (v + (n : Int)).toNat else min v.toNat n) ≤ n
    by_cases hv : v < 0
    · rw [if_pos hv]; omega
    · rw [if_neg hv]; exact Nat.min_le_right _ _
theorem clip_eq (v : Int) (n d : Nat) : (if v < 0 then max (v + (n : Int)) 0 else min v (n : Int)) = ((sIx n d (some v) : Nat) : Int) := by
  show (if v < 0 then max (v + (n : Int)) 0 else min v (n : Int)) = (((if v < 0 then (v + (n : Int)).toNat else min v.toNat n) : Nat) : Int)
  by_cases hv : v < 0
  · simp only [if_pos hv]; omega
  · simp only [if_neg hv]; omega
theorem adjust_gen (lo hi : Option Int) (n : Nat) : Builtin.Slice.sliceAdjust lo hi 1 (n : Int) = (((sIx n 0 lo : Nat) : Int), ((sIx n n hi : Nat) : Int)) := by
  have h1 : ¬ ((1 : Int) < 0) := by omega
  unfold Builtin.Slice.sliceAdjust
  simp only [h1, if_false]
  refine Prod.ext ?_ ?_
  · cases lo with
    | none => rfl
    | some v => exact clip_eq v n 0
  · cases hi with
    | none => rfl
    | some v => exact clip_eq v n n
theorem places_gen (i j : Nat) : Builtin.Slice.slicePlaces (i : Int) (j : Int) 1 = j - i := by
  unfold Builtin.Slice.slicePlaces
  have h1 : (1 : Int) > 0 := by omega
  simp only [h1, if_true, Int.ediv_one]
  split <;> omega
theorem slicePart_ {v : Value} {o : Option Int} {Q : Option Int → Shared → Prop} (p : IsPart v o) (h : Q o s) : wpAny (model prog w) A (Builtin.Slice.slicePartIndex v) Q E s := by
  cases p with
  | none => exact slicePart_none h
  | int i t => exact slicePart_int h
theorem sliceApplied_gen {sl : Addr} {vl vu : Value} {lo hi : Option Int} {n : Nat} {Q : Int × Int × Nat → Shared → Prop} (hs : s.heap.IsSliceOf sl vl vu .none) (pl : IsPart vl lo) (pu : IsPart vu hi)
    (h : Q (((sIx n 0 lo : Nat) : Int), 1, sIx n n hi - sIx n 0 lo) s) : wpAny (model prog w) A (Builtin.Slice.sliceApplied (.ref sl) (pure (n : Int))) Q E s := by
  obtain ⟨os, hos, hcs, hds⟩ := id hs
  unfold Builtin.Slice.sliceApplied Builtin.Slice.sliceFields
  refine wpAny_bind (wpAny_bind (wpAny_field hos hds (x := vl) rfl (wpAny_bind (wpAny_field hos hds (x := vu) rfl (wpAny_bind (wpAny_field hos hds (x := .none) rfl (wpAny_pure ?_)))))))
  refine wpAny_bind (slicePart_none ?_)
  show wpAny _ _ (if ((1 : Int) == 0) = true then _ else _) _ _ s
  rw [if_neg (by decide)]
  refine wpAny_bind (slicePart_ pl (wpAny_bind (slicePart_ pu (wpAny_bind (wpAny_pure ?_)))))
  show wpAny _ _ (match Builtin.Slice.sliceAdjust lo hi 1 (n : Int) with | (lo, hi) => pure (lo, (1 : Int), Builtin.Slice.slicePlaces lo hi 1)) _ _ s
  rw [adjust_gen lo hi n]
  show wpAny _ _ (pure (((sIx n 0 lo : Nat) : Int), (1 : Int), Builtin.Slice.slicePlaces ((sIx n 0 lo : Nat) : Int) ((sIx n n hi : Nat) : Int) 1)) _ _ s
  rw [places_gen]
  exact wpAny_pure h
theorem pick_gen (xs : Array Value) (i k : Nat) : ((List.range k).filterMap fun (m : Nat) => xs[((i : Int) + (m : Int) * 1).toNat]?).toArray = ((xs.toList.drop i).take k).toArray := by
  have e : (fun (m : Nat) => xs[((i : Int) + (m : Int) * 1).toNat]?) = fun m => xs[i + m]? := by
    funext m
    have : ((i : Int) + (m : Int) * 1).toNat = i + m := by omega
    rw [this]
  rw [e]
  have := pick_run xs i k
  rw [List.filterMap_map] at this
  have e2 : ((fun x => xs[x]?) ∘ fun x => i + x) = fun m => xs[i + m]? := rfl
  rw [e2] at this
  rw [this]

theorem getItem_tuple_cut {t sl : Addr} {items : Array Value} {vl vu : Value} {lo hi : Option Int} {Q : Value → Shared → Prop} (ht : IsTup s.heap t items) (hs : s.heap.IsSliceOf sl vl vu .none) (pl : IsPart vl lo) (pu : IsPart vu hi)
    (hw : ¬ (sIx items.size 0 lo = 0 ∧ sIx items.size items.size hi = items.size))
    (h : Q (.ref s.heap.objs.size) { s with heap := s.heap.push { cls := .type "tuple", data := .seq ((items.toList.drop (sIx items.size 0 lo)).take (sIx items.size items.size hi - sIx items.size 0 lo)).toArray } })
    (hsz : items.size ≤ sizeLine) : wpAny (model prog w) A (getItem (.ref t) (.ref sl)) Q E s := by
  have htake : sizeOk (.seq ((items.toList.drop (sIx items.size 0 lo)).take (sIx items.size items.size hi - sIx items.size 0 lo)).toArray) := by
    show ((items.toList.drop (sIx items.size 0 lo)).take (sIx items.size items.size hi - sIx items.size 0 lo)).toArray.size ≤ sizeLine
    rw [List.size_toArray, List.length_take, List.length_drop, Array.length_toList]
    omega
  have hj : sIx items.size items.size hi ≤ items.size := sIx_le _ _ (Nat.le_refl _) hi
  obtain ⟨os, hos, hcs, hds⟩ := id hs
  have hTs : s.TypeIs (.ref sl) "slice" := ⟨os, hos, hcs⟩
  unfold getItem
  try with_reducible refine wpAny_holding ?_
  first | refine wpAny_bind (wpAny_pure ?_) | skip
  refine wpAny_bind (wpAny_sequenceKey ht.typeIs (by decide) ?_)
  refine wpAny_bind (wpAny_callSpecial?_slot (name := Str.ofString "__getitem__") ht.typeIs PyProof.Rows.slot_tuple_getitem
    (wpAny_call_entry PyProof.Rows.slot_tuple_getitem ht.typeIs entry_tuple_getitem ?_ (args_tuple_getitem _ _)))
  show wpAny _ _ (Builtin.Tuple.tupleItemsOf (.ref t) >>= _) _ _ s
  refine wpAny_bind (tupleItemsOf_ ht ?_)
  refine wpAny_bind (wpAny_typeOf hTs ?_)
  rw [if_pos (by decide)]
  refine wpAny_bind (sliceApplied_gen hs pl pu ?_)
  have hno : ¬ ((((sIx items.size 0 lo : Nat) : Int) == 0 && (1 : Int) == 1 && (sIx items.size items.size hi - sIx items.size 0 lo) == items.size) = true) := by
    intro q
    rw [Bool.and_eq_true, Bool.and_eq_true] at q
    have q1 : ((sIx items.size 0 lo : Nat) : Int) = 0 := eq_of_beq q.1.1
    have q2 : sIx items.size items.size hi - sIx items.size 0 lo = items.size := eq_of_beq q.2
    exact hw ⟨by omega, by omega⟩
  show wpAny _ _ (if (((sIx items.size 0 lo : Nat) : Int) == 0 && (1 : Int) == 1 && (sIx items.size items.size hi - sIx items.size 0 lo) == items.size) = true then _ else _) _ _ s
  rw [if_neg hno, pick_gen]
  first
    | exact wpAny_bind (m := Builtin.Tuple.tupleExact _) (wpAny_newObj_type (wpAny_pure ⟨_, rfl, wpAny_pure h⟩) htake)
    | exact wpAny_bind (m := Builtin.Tuple.tupleExact _) (wpAny_newObj_type (wpAny_bind (wpAny_pure (wpAny_pure ⟨_, rfl, wpAny_pure h⟩))) htake)
    | exact wpAny_bind (wpAny_bind (m := Builtin.Tuple.tupleExact _) (wpAny_newObj_type (wpAny_pure (wpAny_pure ⟨_, rfl, wpAny_pure h⟩)) htake))
    | exact wpAny_bind (wpAny_bind (m := Builtin.Tuple.tupleExact _) (wpAny_newObj_type (wpAny_pure ⟨_, rfl, wpAny_pure h⟩) htake))
end
end HT

namespace L2
open PySem PySem.Spec PyProof.Rows

/-! ### the parts of a slice -/
abbrev TO := St → Hp → (Option Int → Hp → Prop) → Prop
/-- a slice's part (left out, or an int) -/
def PO (X : Cx) (e : Option Expr) (t : TO) : Prop :=
  ∀ (pins : List (Addr × Obj)) (s : Shared) (σ : St) (H : Hp) (Q : Option Int → Hp → Prop), Inv X pins σ H s → t σ H Q →
    wpAny (model X.prog X.w) X.A (evalPart e X.env) (fun u s' => ∃ o H', Inv X pins σ H' s' ∧ IsPart u o ∧ Q o H') X.xe s
def tNoPart : TO := fun _ H Q => Q none H
def tPart (t : TE) : TO := fun σ H Q => t σ H fun x H1 => ∃ i, x = .int i ∧ Q (some i) H1

theorem intsAre_of {ns : List Int} : ∀ {us : List Value}, Vals (ns.map V.int) us → IntsAre us ns := by
  induction ns with
  | nil => intro us r; rw [List.map_nil] at r; cases r; exact .nil
  | cons n ns ih =>
    intro us r
    rw [List.map_cons] at r
    cases r with
    | cons r1 r2 =>
      obtain ⟨t, e⟩ := r1
      subst e
      exact .cons n t (ih r2)

section
variable {X : Cx} {e : Expr} {te : TE} {lo hi : Option Expr} {tl th : TO} {pos p2 : Pos}

theorem po_none : PO X none tNoPart := by
  intro pins s σ H Q I h
  rw [evalPart_none]
  exact wpAny_pure ⟨none, H, I, .none, h⟩
theorem po_some (h : PE X e te) : PO X (some e) (tPart te) := by
  intro pins s σ H Q I hw
  rw [evalPart_some]
  refine thn (h pins s σ H _ I hw) fun u s1 ⟨x, H1, I1, r1, q1⟩ => ?_
  obtain ⟨i, rfl, q⟩ := q1
  obtain ⟨t, rfl⟩ := r1
  exact ⟨some i, H1, I1, .int i t, q⟩

/-- what a slice of a value is, by values: the slice object stands at sl -/
def SlR (X : Cx) (r : V → Option Int → Option Int → Hp → VK → Prop) : Prop :=
  ∀ (pins : List (Addr × Obj)) (s : Shared) (σ : St) (H : Hp) (x : V) (v vl vu : Value) (lo hi : Option Int) (sl : Addr) (Q : VK), Inv X pins σ H s → RelV x v → s.heap.IsSliceOf sl vl vu .none → IsPart vl lo → IsPart vu hi → r x lo hi H Q →
    ∃ T id, typeLookup (.type T) "__getitem__" = pure (some (.builtin id)) ∧ s.TypeIs v T ∧ wpAny (model X.prog X.w) X.A (getItem v (.ref sl)) (EP X pins σ Q) X.xe s
def tSl (r : V → Option Int → Option Int → Hp → VK → Prop) (te : TE) (tl th : TO) : TE := fun σ H Q => te σ H fun x H1 => tl σ H1 fun l H2 => th σ H2 fun u H3 => r x l u H3 Q
/-- a[lo:hi], any a -/
theorem pe_slice {r : V → Option Int → Option Int → Hp → VK → Prop} (hr : SlR X r) (he : PE X e te) (hl : PO X lo tl) (hu : PO X hi th) : PE X (.Subscript e (.Slice lo hi none p2) pos) (tSl r te tl th) := by
  intro pins s σ H Q I h
  refine Subscript_ (thn (he pins s σ H _ I h) fun v s1 ⟨x, H1, I1, r1, q1⟩ => ?_)
  refine wpAny_Slice (thn (hl pins s1 σ H1 _ I1 q1) fun vl s2 ⟨l, H2, I2, pl, q2⟩ => thn (hu pins s2 σ H2 _ I2 q2) fun vu s3 ⟨u, H3, I3, pu, q3⟩ => ?_)
  rw [evalPart_none]
  refine wpAny_pure ?_
  have I4 : Inv X pins σ H3 { s3 with heap := s3.heap.push { cls := .type "slice", data := .fields #[vl, vu, .none] } } := I3.kept (t' := s3.toks) fun b ob q => Heap.get?_push_of_some _ q
  obtain ⟨T, id, hT, ht, hg⟩ := hr pins { s3 with heap := s3.heap.push { cls := .type "slice", data := .fields #[vl, vu, .none] } } σ H3 x v vl vu l u s3.heap.objs.size Q I4 r1 (Heap.IsSliceOf.new ..) pl pu q3
  show wpAny (model X.prog X.w) X.A (subscriptTail e (.Slice lo hi none p2) v (.ref s3.heap.objs.size)) (EP X pins σ Q) X.xe { s3 with heap := s3.heap.push { cls := .type "slice", data := .fields #[vl, vu, .none] } }
  exact tail_any (ops := [.ref s3.heap.objs.size, v]) ht hT hg (by with_unfolding_all rfl)

/-- the items of xs[lo:hi] -/
def cutV (xs : List V) (lo hi : Option Int) : List V := (xs.drop (HT.sIx xs.length 0 lo)).take (HT.sIx xs.length xs.length hi - HT.sIx xs.length 0 lo)
theorem cutV_length (xs : List V) (lo hi : Option Int) : (cutV xs lo hi).length ≤ xs.length := by
  unfold cutV
  rw [List.length_take, List.length_drop]
  omega
/-- t[lo:hi], not the whole of it (the whole would be t itself) -/
def rSlT (K : PySem.W.Frag) : V → Option Int → Option Int → Hp → VK → Prop := fun x lo hi H Q => ∃ a xs, x = .ref a ∧ SqT K H a xs ∧
  ¬ (HT.sIx xs.length 0 lo = 0 ∧ HT.sIx xs.length xs.length hi = xs.length) ∧ ∀ p, H p = none → Q (.ref p) (upd H p (.tup (cutV xs lo hi)))
theorem sl_tup : SlR X (rSlT X.K) := by
  intro pins s σ H x v vl vu lo hi sl Q I rx hs pl pu h
  obtain ⟨a, xs, rfl, hx, hw, q⟩ := h
  cases rx
  obtain ⟨its, r, ht, hz⟩ := I.tuple hx
  have hlen : its.toArray.size = xs.length := by rw [List.size_toArray]; exact r.length.symm
  refine ⟨"tuple", _, PyProof.Rows.slot_tuple_getitem.lookup, ht.typeIs, ?_⟩
  refine HT.getItem_tuple_cut ht hs pl pu (by rw [hlen]; exact hw) ?_ (by rw [hlen]; exact hz)
  rw [hlen]
  refine ⟨.ref s.heap.objs.size, _, I.laid (t' := s.toks) (o := .tup (cutV xs lo hi)) (fun b ob q => Heap.get?_push_of_some _ q) (Nat.le_refl _) ?_, rfl, q _ (I.hok.fresh (Nat.le_refl _))⟩
  exact ⟨Nat.le_trans (cutV_length xs lo hi) hz, _, (r.drop (HT.sIx xs.length 0 lo)).take (HT.sIx xs.length xs.length hi - HT.sIx xs.length 0 lo), IsTup.new _ _⟩

/-! ### t < u, t + u -/
/-- t + u, t not empty: u empty gives t itself -/
def rCatT (K : PySem.W.Frag) : R2 := fun x y H Q => ∃ a b xs ys, x = .ref a ∧ y = .ref b ∧ SqT K H a xs ∧ SqT K H b ys ∧ xs ≠ [] ∧ xs.length + ys.length ≤ sizeLine ∧
  (ys = [] → Q (.ref a) H) ∧ (ys ≠ [] → ∀ p, H p = none → Q (.ref p) (upd H p (.tup (xs ++ ys))))
theorem Vals.nil_iff {xs : List V} {us : List Value} (r : Vals xs us) : us = [] ↔ xs = [] := by
  cases r with
  | nil => simp
  | cons _ _ => simp
theorem op_catT : OpR X (binaryOp .Add) (rCatT X.K) := by
  intro pins s σ H x y v u Q I rx ry h
  obtain ⟨a, b, xs, ys, rfl, rfl, ha, hb, hx, hz, q1, q2⟩ := h
  cases rx
  cases ry
  obtain ⟨its, r1, p1, _⟩ := I.tuple ha
  obtain ⟨its2, r2, p2, _⟩ := I.tuple hb
  refine HT.cat_tup p1 p2 (fun z => hx (r1.nil_iff.mp z)) (fun z => ⟨.ref a, H, I, rfl, q1 (r2.nil_iff.mp z)⟩) (fun z => ?_) (by rw [← r1.length, ← r2.length]; exact hz)
  refine ⟨.ref s.heap.objs.size, _, I.laid (t' := s.toks) (o := .tup (xs ++ ys)) (fun b ob q => Heap.get?_push_of_some _ q) (Nat.le_refl _) ?_, rfl, q2 (fun w => z (r2.nil_iff.mpr w)) _ (I.hok.fresh (Nat.le_refl _))⟩
  exact ⟨by rw [List.length_append]; exact hz, _, r1.append r2, IsTup.new _ _⟩
end
end L2

namespace L2
open PySem PySem.Spec PyProof.Rows

/-! ### places -/
/-- the place that an index of any sign means -/
def ixN (n : Nat) (i : Int) : Option Nat := if 0 ≤ i then (if i < n then some i.toNat else none) else if -(n : Int) ≤ i then some (i + n).toNat else none
def atI {α : Type} (xs : List α) (i : Int) : Option α := (ixN xs.length i).bind fun j => xs[j]?
theorem ixN_seq {n : Nat} {i : Int} {j : Nat} (h : ixN n i = some j) : seqIndex? i n = some j ∧ j < n ∧ -(n : Int) ≤ i ∧ i < n := by
  unfold ixN at h
  by_cases h0 : 0 ≤ i
  · rw [if_pos h0] at h
    by_cases h1 : i < n
    · rw [if_pos h1] at h
      have e : i.toNat = j := Option.some.inj h
      exact ⟨by rw [seqIndex_of h0 h1, e], by omega, by omega, h1⟩
    · rw [if_neg h1] at h; cases h
  · rw [if_neg h0] at h
    by_cases h1 : -(n : Int) ≤ i
    · rw [if_pos h1] at h
      have e : (i + n).toNat = j := Option.some.inj h
      exact ⟨by rw [seqIndex_neg (by omega) h1, e], by omega, h1, by omega⟩
    · rw [if_neg h1] at h; cases h
theorem atI_get {α : Type} {xs : List α} {i : Int} {v : α} (h : atI xs i = some v) : ∃ j, seqIndex? i xs.length = some j ∧ xs[j]? = some v ∧ j < xs.length ∧ -(xs.length : Int) ≤ i ∧ i < xs.length := by
  unfold atI at h
  cases e : ixN xs.length i with
  | none => rw [e] at h; cases h
  | some j =>
    rw [e] at h
    obtain ⟨h1, h2, h3, h4⟩ := ixN_seq e
    exact ⟨j, h1, h, h2, h3, h4⟩
theorem atI_nat {α : Type} {xs : List α} {j : Nat} {v : α} (h : xs[j]? = some v) : atI xs (j : Int) = some v := by
  have hj : j < xs.length := (List.getElem?_eq_some_iff.mp h).1
  have e : ixN xs.length (j : Int) = some j := by
    unfold ixN
    rw [if_pos (by omega), if_pos (by omega)]; simp
  unfold atI; rw [e]; exact h

/-! ### what may be subscripted -/
/-- what stands as an index of a plain subscript -/
def PlainIx (b : Expr) : Prop := ∀ o i, subscripted b false o i = operate [o, i] (getItem o i)
/-- a subscript by values -/
def IxR (X : Cx) (r : R2) : Prop :=
  ∀ (value slice : Expr) (pins : List (Addr × Obj)) (s : Shared) (σ : St) (H : Hp) (x y : V) (v u : Value) (Q : VK), Inv X pins σ H s → RelV x v → RelV y u → r x y H Q →
    subscripted slice false v u = operate [v, u] (getItem v u) → wpAny (model X.prog X.w) X.A (subscriptTail value slice v u) (EP X pins σ Q) X.xe s
/-- a call of a builtin's method by values: the receiver, the arguments -/
def MtR (X : Cx) (id : String) (r : V → List V → Hp → VK → Prop) : Prop :=
  ∀ (pins : List (Addr × Obj)) (s : Shared) (σ : St) (H : Hp) (x : V) (xs : List V) (v : Value) (us : List Value) (Q : VK), Inv X pins σ H s → RelV x v → Vals xs us → r x xs H Q →
    wpAny (model X.prog X.w) X.A (call (.builtin id) (v :: us)) (EP X pins σ Q) X.xe s
section
variable {X : Cx} {a b : Expr} {ta tb : TE} {pos : Pos}
/-- a[b] -/
theorem pe_ix {r : R2} (hr : IxR X r) (ha : PE X a ta) (hb : PE X b tb) (hs : PlainIx b) : PE X (.Subscript a b pos) (tOp r ta tb) := by
  intro pins s σ H Q I h
  exact Subscript_ (binT ha hb I h fun v u s2 x y H2 I2 rx ry q => hr a b pins s2 σ H2 x y v u Q I2 rx ry q (hs _ _))

def rIxL (K : PySem.W.Frag) : R2 := fun x y H Q => ∃ p xs i v, x = .ref p ∧ y = .int i ∧ SqL K H p xs ∧ atI xs i = some v ∧ Q v H
def rIxT (K : PySem.W.Frag) : R2 := fun x y H Q => ∃ p xs i v, x = .ref p ∧ y = .int i ∧ SqT K H p xs ∧ atI xs i = some v ∧ Q v H
theorem ix_list : IxR X (rIxL X.K) := by
  intro value slice pins s σ H x y v u Q I rx ry h hs
  obtain ⟨p, xs, i, z, rfl, rfl, hq, he, q⟩ := h
  cases rx
  obtain ⟨t, rfl⟩ := ry
  obtain ⟨its, r, pl, hz⟩ := I.list hq
  obtain ⟨j, h1, h2, h3, h4, h5⟩ := atI_get he
  obtain ⟨w, ew, rw'⟩ := r.get h2
  have hl := r.length
  have hn := line63
  have fin : EP X pins σ Q w s := ⟨z, H, I, rw', q⟩
  by_cases h0 : 0 ≤ i
  · have hj : i.toNat = j := by
      rw [seqIndex_of h0 h5] at h1
      exact Option.some.inj h1
    exact item_listR pl.isList h0 (by omega) (by rw [hj]; simpa using ew) fin hs
  · have hj : (i + (its.toArray.size : Int)).toNat = j := by
      rw [seqIndex_neg (by omega) h4] at h1
      rw [List.size_toArray, ← hl]
      exact Option.some.inj h1
    exact subscriptTail_builtinR (x := w) pl.isList.typeIs slot_list_getitem.lookup
      (wpAny_getItem_list_neg (Q := fun r s' => r = w ∧ EP X pins σ Q r s') pl.isList (by omega) (by rw [List.size_toArray] <;> omega) (by omega) (by rw [hj]; simpa using ew) ⟨rfl, fin⟩) hs
theorem ix_tup : IxR X (rIxT X.K) := by
  intro value slice pins s σ H x y v u Q I rx ry h hs
  obtain ⟨p, xs, i, z, rfl, rfl, hq, he, q⟩ := h
  cases rx
  obtain ⟨t, rfl⟩ := ry
  obtain ⟨its, r, pl, hz⟩ := I.tuple hq
  obtain ⟨j, h1, h2, h3, h4, h5⟩ := atI_get he
  obtain ⟨w, ew, rw'⟩ := r.get h2
  have hl := r.length
  have hn := line63
  have fin : EP X pins σ Q w s := ⟨z, H, I, rw', q⟩
  exact subscriptTail_builtinR (x := w) pl.typeIs slot_tuple_getitem.lookup
    (getItem_tuple (j := j) (Q := fun r s' => r = w ∧ EP X pins σ Q r s') pl (by omega) (by omega) (by rw [List.size_toArray, ← hl]; exact h1) (by simpa using ew) ⟨rfl, fin⟩) hs

/-! ### xs[i] = v, any sign -/
/-- the list's object behind a store -/
theorem mapSeq_set (its : List Value) (n j : Nat) (u : Value) : Obj.mapSeq (·.setIfInBounds j u) { cls := .type "list", data := .seq its.toArray n } = { cls := .type "list", data := .seq (its.set j u).toArray n } := by
  simp [Obj.mapSeq]
theorem Inv.lst {pins : List (Addr × Obj)} {σ : St} {H : Hp} {s : Shared} {p : Addr} {xs : List V} (I : Inv X pins σ H s) (h : H p = some (.lst xs)) :
    ∃ (its : List Value) (n : Nat), Vals xs its ∧ s.heap.get? p = some { cls := .type "list", data := .seq its.toArray n } ∧ xs.length ≤ sizeLine := by
  obtain ⟨z, its, n, r, e⟩ := I.hok p _ h
  exact ⟨its, n, r, e, z⟩
/-- the list at p is written by an update of its object -/
theorem Inv.lstUpd {pins : List (Addr × Obj)} {σ : St} {H : Hp} {s : Shared} {p : Addr} {xs ys : List V} {its its' : List Value} {n n' : Nat} {f : Obj → Obj} (I : Inv X pins σ H s) (h : H p = some (.lst xs))
    (ho : s.heap.get? p = some { cls := .type "list", data := .seq its.toArray n }) (hf : f { cls := .type "list", data := .seq its.toArray n } = { cls := .type "list", data := .seq its'.toArray n' }) (r : Vals ys its') (hz : ys.length ≤ sizeLine) (t : Nat) :
    Inv X pins σ (upd H p (.lst ys)) { s with heap := s.heap.update p f, toks := t } := by
  have e : (s.heap.update p f).get? p = some { cls := .type "list", data := .seq its'.toArray n' } := by
    rw [Heap.get?_update_self f ho (by rw [hf] <;> rfl), hf]
  refine I.write (x := p) (e := p) (by rw [h]; trivial) (.inl rfl) (fun b u hb q => (Heap.get?_update_other _ _ (Ne.symm hb)).trans q) ⟨_, e⟩ ?_
  exact ⟨hz, its', n', r, e⟩
def rSetL : V → V → V → Hp → (Hp → Prop) → Prop := fun o i v H Q => ∃ p xs k j, o = .ref p ∧ i = .int k ∧ H p = some (.lst xs) ∧ ixN xs.length k = some j ∧ Q (upd H p (.lst (xs.set j v)))
theorem set_list : PSet X rSetL := by
  intro pins s σ H o i v ov iv u Q I ro ri rv h
  obtain ⟨p, xs, k, j, rfl, rfl, hp, hj, q⟩ := h
  cases ro
  obtain ⟨t, rfl⟩ := ri
  obtain ⟨its, n, r, ho, hz⟩ := I.lst hp
  obtain ⟨h1, h2, h3, h4⟩ := ixN_seq hj
  have hl := r.length
  have hn := line63
  have I' : Inv X pins σ (upd H p (.lst (xs.set j v))) { s with heap := s.heap.update p (Obj.mapSeq (·.setIfInBounds j u)) } :=
    I.lstUpd hp ho (mapSeq_set its n j u) (r.set rv j) (by rw [List.length_set]; exact hz) s.toks
  by_cases h0 : 0 ≤ k
  · have hk : k.toNat = j := by
      rw [seqIndex_of h0 h4] at h1
      exact Option.some.inj h1
    exact PySem.W.ki_setAt ho h0 (by omega) (by rw [List.size_toArray, ← hl]; exact h4) (by rw [hk]; exact ⟨_, I', q⟩)
  · have hk : (k + (its.toArray.size : Int)).toNat = j := by
      rw [seqIndex_neg (by omega) h3] at h1
      rw [List.size_toArray, ← hl]
      exact Option.some.inj h1
    exact PySem.W.ki_setBack ho (by omega) (by rw [List.size_toArray, ← hl]; exact h3) (by omega) (by rw [hk]; exact ⟨_, I', q⟩)

/-! ### slices -/
theorem slice_bounds (lo hi : Option Int) (n : Nat) : (sliceBounds lo hi none n).1 = ((HT.sIx n 0 lo : Nat) : Int) ∧ (sliceBounds lo hi none n).2.1 = ((HT.sIx n n hi : Nat) : Int) ∧ (sliceBounds lo hi none n).2.2 = 1 := by
  refine ⟨?_, ?_, rfl⟩
  · cases lo with
    | none => simp [sliceBounds, HT.sIx]
    | some i =>
      simp only [sliceBounds, HT.sIx, Option.getD_none, show (1 : Int) > 0 by decide, if_true]
      by_cases h : i < 0
      · simp only [h, if_true] <;> omega
      · simp only [h, if_false] <;> omega
  · cases hi with
    | none => simp [sliceBounds, HT.sIx]
    | some i =>
      simp only [sliceBounds, HT.sIx, Option.getD_none, show (1 : Int) > 0 by decide, if_true]
      by_cases h : i < 0
      · simp only [h, if_true] <;> omega
      · simp only [h, if_false] <;> omega
theorem slicePick_cut (its : List Value) (lo hi : Option Int) : slicePick its.toArray lo hi none = ((its.drop (HT.sIx its.length 0 lo)).take (HT.sIx its.length its.length hi - HT.sIx its.length 0 lo)).toArray := by
  obtain ⟨h1, h2, h3⟩ := slice_bounds lo hi its.toArray.size
  unfold slicePick
  rw [h1, h2, h3]
  simp only [sliceRange_one, pick_run, List.size_toArray] <;> rfl
/-- xs[lo:hi] of a list: a new list -/
def rSlL (K : PySem.W.Frag) : V → Option Int → Option Int → Hp → VK → Prop := fun x lo hi H Q => ∃ a xs, x = .ref a ∧ SqL K H a xs ∧ ∀ p, H p = none → Q (.ref p) (upd H p (.lst (cutV xs lo hi)))
theorem sl_list : SlR X (rSlL X.K) := by
  intro pins s σ H x v vl vu lo hi sl Q I rx hs pl pu h
  obtain ⟨a, xs, rfl, hx, q⟩ := h
  cases rx
  obtain ⟨its, r, ht, hz⟩ := I.list hx
  have hlen := r.length
  refine ⟨"list", _, slot_list_getitem.lookup, ht.isList.typeIs, ?_⟩
  refine wpAny_getItem_list_slice ht.isList hs pl pu .none (by simp) ?_ (by rw [List.size_toArray] <;> omega)
  rw [slicePick_cut, ← hlen]
  refine ⟨.ref s.heap.objs.size, _, I.laid (t' := s.toks) (o := .lst (cutV xs lo hi)) (fun b ob q => Heap.get?_push_of_some _ q) (Nat.le_refl _) ?_, rfl, q _ (I.hok.fresh (Nat.le_refl _))⟩
  exact ⟨Nat.le_trans (cutV_length xs lo hi) hz, _, 0, (r.drop (HT.sIx xs.length 0 lo)).take (HT.sIx xs.length xs.length hi - HT.sIx xs.length 0 lo), Heap.get?_push_size _ rfl⟩

/-! ### in, not in: flat items -/

/-! ### len, list(x), tuple(x) of any list or tuple that is read -/
theorem call_len_seq : CallR X (.builtin "len") (fun xs H Q => ∃ p ys, xs = [.ref p] ∧ (SqL X.K H p ys ∨ SqT X.K H p ys) ∧ Q (.int ys.length) H) := by
  intro pins s σ H xs us Q I r h
  obtain ⟨p, ys, rfl, hq, q⟩ := h
  obtain ⟨u, rfl, rx⟩ := vals1 r
  cases rx
  have hn := line63
  rcases hq with hq | hq
  · obtain ⟨its, r', pl, hz⟩ := I.list hq
    have hlen := r'.length
    exact Calls.call_len_list pl.isList (by simp only [List.size_toArray] <;> omega) ⟨.int ys.length, H, I.tok _, ⟨s.toks + 1, by rw [List.size_toArray, hlen]⟩, q⟩
  · obtain ⟨its, r', pl, hz⟩ := I.tuple hq
    have hlen := r'.length
    exact len_tuple pl (by simp only [List.size_toArray] <;> omega) ⟨.int ys.length, H, I.tok _, ⟨s.toks + 1, by rw [List.size_toArray, hlen]⟩, q⟩
theorem call_tuple_of : CallR X (.type "tuple") (fun xs H Q => ∃ p ys, xs = [.ref p] ∧ ((SqL X.K H p ys ∧ ∀ l, H l = none → Q (.ref l) (upd H l (.tup ys))) ∨ (SqT X.K H p ys ∧ Q (.ref p) H))) := by
  intro pins s σ H xs us Q I r h
  obtain ⟨p, ys, rfl, h⟩ := h
  obtain ⟨u, rfl, rx⟩ := vals1 r
  cases rx
  rcases h with ⟨hq, q⟩ | ⟨hq, q⟩
  · obtain ⟨its, r', pl, hz⟩ := I.list hq
    have hlen := r'.length
    refine call_tuple_list pl.isList (fun h' kp => ?_) (by simp only [List.size_toArray] <;> omega)
    have I1 : Inv X pins σ H { s with heap := h' } := I.kept (t' := s.toks) kp
    have I2 : Inv X pins σ (upd H h'.objs.size (.tup ys)) { s with heap := h'.push { cls := .type "tuple", data := .seq its.toArray } } :=
      I1.laid (t' := s.toks) (fun b o e => Heap.get?_push_of_some _ e) (Nat.le_refl _) (show ObjOk X.prog X.w _ _ _ (.tup ys) from ⟨hz, its, r', IsTup.new _ _⟩)
    exact ⟨.ref h'.objs.size, _, I2, rfl, q _ (I1.hok.fresh (Nat.le_refl _))⟩
  · obtain ⟨its, r', pl, hz⟩ := I.tuple hq
    exact call_tuple_same pl ⟨.ref p, H, I, rfl, q⟩

/-! ### the call of a builtin's method: o.m(..) -/
/-- the value is of that builtin type -/
def tyV (K : PySem.W.Frag) (T : String) (x : V) (H : Hp) : Prop := match x with
  | .str _ => T = "str"
  | .int _ => T = "int"
  | .ref p => (T = "list" ∧ ∃ xs, SqL K H p xs) ∨ (T = "tuple" ∧ ∃ o, K.lookup p = some o ∧ o.cls = .type "tuple" ∧ o.dict = none) ∨
      (T = "dict" ∧ ((∃ kvs, H p = some (.dK kvs)) ∨ ∃ kvs, H p = some (.dT kvs))) ∨ (T = "set" ∧ ∃ S n, H p = some (.set S n))
  | _ => False
theorem tyV_is {pins : List (Addr × Obj)} {σ : St} {H : Hp} {s : Shared} {T : String} {x : V} {v : Value} (I : Inv X pins σ H s) (r : RelV x v) (ty : tyV X.K T x H) :
    s.TypeIs v T ∧ ∀ a, v = .ref a → ∃ ob, s.heap.get? a = some ob ∧ ob.dict = none := by
  cases x with
  | str z =>
    obtain ⟨t, rfl⟩ := r
    cases (show T = "str" from ty)
    exact ⟨typeIs_str s z t, fun _ e => nomatch e⟩
  | int i =>
    obtain ⟨t, rfl⟩ := r
    cases (show T = "int" from ty)
    exact ⟨typeIs_int s i t, fun _ e => nomatch e⟩
  | ref p =>
    cases r
    rcases ty with ⟨rfl, xs, hq⟩ | ⟨rfl, o, hk, hc, hd⟩ | ⟨rfl, hk⟩ | ⟨rfl, S, n, hk⟩
    · obtain ⟨its, _, pl, _⟩ := I.list hq
      refine ⟨pl.isList.typeIs, fun a e => ?_⟩
      cases e
      obtain ⟨o, n, e, c, hd, _⟩ := pl
      exact ⟨o, e, hd⟩
    · refine ⟨⟨o, I.kIn p o hk, hc⟩, fun a e => ?_⟩
      cases e
      exact ⟨o, I.kIn _ o hk, hd⟩
    · have z : ∃ o, s.heap.get? p = some o ∧ o.ExactDict := by
        rcases hk with ⟨kvs, hk⟩ | ⟨kvs, hk⟩
        · obtain ⟨_, _, _, _, o, _, _, e, ex, _⟩ := I.hok p _ hk
          exact ⟨o, e, ex⟩
        · obtain ⟨_, _, _, _, o, _, _, e, ex, _⟩ := I.hok p _ hk
          exact ⟨o, e, ex⟩
      obtain ⟨o, e, ex⟩ := z
      refine ⟨⟨o, e, ex.1⟩, fun a e2 => ?_⟩
      cases e2
      exact ⟨o, e, ex.2.1⟩
    · obtain ⟨o, _, _, _, e, ex, _⟩ := I.hok p _ hk
      refine ⟨⟨o, e, ex.1⟩, fun a e2 => ?_⟩
      cases e2
      exact ⟨o, e, ex.2.1⟩
  | _ => exact False.elim ty
def tBM (K : PySem.W.Frag) (T : String) (r : V → List V → Hp → VK → Prop) (to : TE) (t : TA) : TE := fun σ H Q => to σ H fun x H1 => tyV K T x H1 ∧ t σ H1 fun xs H2 => r x xs H2 Q
variable {o e : Expr} {es : List Expr} {to : TE} {t : TA} {name : Str} {apos cpos : Pos} {T id : String} {r : V → List V → Hp → VK → Prop}
theorem pe_bm (pa : PlainAttrs T) (slot : Slot T name id) (hty : typeOf (.builtin id) = pure (.type "method_descriptor")) (hm : MtR X id r) (ho : PE X o to) (ha : PA X (e :: es) t)
    (hbase : attributeBase o name X.env (eval o X.env) = eval o X.env := by rfl)
    (hfew : ((backTo cpos (starEach (e :: es) X.env)).all (fun x => !x.1) && (backToKw cpos (keywordEach [] X.env)).all (fun x => x.1.isSome)
      && decide ((e :: es).length + ([] : List Keyword).length + (if ([] : List Keyword).isEmpty then 0 else 1) < 30)) = true := by rfl)
    (hline : (apos.endLine == cpos.line) = true := by rfl) (hs : starEach (e :: es) X.env = (false, eval e X.env) :: starEach es X.env := by rfl) (hplain : (backTo cpos (starEach es X.env)).any (·.1) = false := by rfl) :
    PE X (.Call (.Attribute o name apos) (e :: es) [] cpos) (tBM X.K T r to t) := by
  intro pins s σ H Q I h
  refine wpAny_Call_method_late hbase hfew hline rfl (thn (ho pins s σ H _ I h) fun v s1 ⟨x, H1, I1, r1, ty, q1⟩ => ?_)
  obtain ⟨h1, h2⟩ := tyV_is I1 r1 ty
  refine ⟨T, id, pa, slot, hty, h1, h2, ?_⟩
  have hA := ha cpos pins s1 σ H1 _ I1 q1
  rw [hs] at hA ⊢
  refine Calls.callWith_builtin (by show (false || (backTo cpos (starEach es X.env)).any (·.1)) = false; rw [hplain] <;> rfl) (Calls.evalArgs_plain ?_)
  exact thn hA fun us s2 ⟨vs, H2, I2, r2, q2⟩ => hm pins s2 σ H2 x vs v us Q I2 r1 r2 q2
/- xs.append(e), list.index on a module's tuple .. are MtR facts of 06m -/
end
end L2

namespace L2
open PySem PySem.Spec PyProof.Rows

def MtM (X : Cx) (id : String) (r : V → List V → Hp → VK → Prop) : Prop :=
  ∀ (pins : List (Addr × Obj)) (s : Shared) (σ : St) (H : Hp) (x : V) (xs : List V) (v : Value) (us : List Value) (Q : VK), Inv X pins σ H s → RelV x v → Vals xs us → r x xs H Q →
    wpAny (model X.prog X.w) X.A (call (.builtin id) (v :: us)) (EP X pins σ Q) X.xe s

/-! ### lists of values -/
theorem Vals.one : ∀ {x : V} {us : List Value}, Vals [x] us → ∃ u, us = [u] ∧ RelV x u
  | _, _, .cons r .nil => ⟨_, rfl, r⟩
theorem Vals.zero : ∀ {us : List Value}, Vals [] us → us = []
  | _, .nil => rfl
theorem Vals.reverse {xs : List V} {us : List Value} (h : Vals xs us) : Vals xs.reverse us.reverse := by
  induction h with
  | nil => exact .nil
  | cons r t ih => rw [List.reverse_cons, List.reverse_cons]; exact Vals.append ih (.cons r .nil)
theorem Vals.rep {xs : List V} {us : List Value} (h : Vals xs us) : ∀ k : Nat, Vals (List.replicate k xs).flatten (List.replicate k us).flatten
  | 0 => .nil
  | k + 1 => by
    rw [List.replicate_succ, List.replicate_succ, List.flatten_cons, List.flatten_cons]
    exact Vals.append h (Vals.rep h k)
theorem foldl_rep (its : List Value) : ∀ (k : Nat) (acc : List Value),
    List.foldl (fun x1 x2 => x1 ++ x2) acc.toArray (List.replicate k its.toArray) = (acc ++ (List.replicate k its).flatten).toArray
  | 0, acc => by simp
  | k + 1, acc => by
    have e : acc.toArray ++ its.toArray = (acc ++ its).toArray := by simp
    have e2 : (acc ++ its) ++ (List.replicate k its).flatten = acc ++ (List.replicate (k + 1) its).flatten := by
      rw [List.replicate_succ, List.flatten_cons, List.append_assoc]
    rw [← e2, ← foldl_rep its k (acc ++ its), ← e, List.replicate_succ, List.foldl_cons]

section
variable {X : Cx} {pins : List (Addr × Obj)} {σ : St} {H : Hp} {s : Shared} {l b : Addr} {xs ys zs : List V}

/-! ### the two steps: a tracked list is rewritten, a new list is laid -/
theorem Inv.lset {its its' : List Value} {n : Nat} {f : Array Value → Array Value} {t' : Nat} (I : Inv X pins σ H s) (hH : H l = some (.lst xs))
    (e : s.heap.get? l = some { cls := .type "list", data := .seq its.toArray n }) (hf : f its.toArray = its'.toArray) (hv : Vals ys its') (hz : ys.length ≤ sizeLine) :
    Inv X pins σ (upd H l (.lst ys)) { s with heap := s.heap.update l (Obj.mapSeq f), toks := t' } := by
  have q := PySem.IsL.update e f
  rw [hf] at q
  refine I.write (x := l) (e := l) (by rw [hH]; exact trivial) (.inl rfl) (fun b' u hb hu => (Heap.get?_update_other s.heap (Obj.mapSeq f) (Ne.symm hb)).trans hu) ⟨_, q⟩ ?_
  exact ⟨hz, its', _, hv, q⟩
theorem Inv.lnew {its : List Value} {t' : Nat} (I : Inv X pins σ H s) (hv : Vals ys its) (hz : ys.length ≤ sizeLine) :
    Inv X pins σ (upd H s.heap.objs.size (.lst ys)) { s with heap := s.heap.push { cls := .type "list", data := .seq its.toArray }, toks := t' } :=
  I.laid (fun _ _ q => Heap.get?_push_of_some _ q) (Nat.le_refl _) ⟨hz, its, 0, hv, Heap.get?_push_size _ rfl⟩
theorem Inv.fresh (I : Inv X pins σ H s) : H s.heap.objs.size = none := I.hok.fresh (Nat.le_refl _)
theorem Inv.lstM (I : Inv X pins σ H s) (hH : H l = some (.lst xs)) : xs.length ≤ sizeLine ∧ ∃ (its : List Value) (n : Nat), Vals xs its ∧ xs.length = its.length ∧ s.heap.get? l = some { cls := .type "list", data := .seq its.toArray n } := by
  obtain ⟨z, its, n, r, e⟩ := I.hok l _ hH
  exact ⟨z, its, n, r, r.length, e⟩

theorem notLongL {n : Nat} (h : n ≤ sizeLine) : Builtin.List.listTooLong n = false := by
  unfold Builtin.List.listTooLong
  exact decide_eq_false (by omega)
end

section
variable {X : Cx}

/-! ### methods -/
def rAppend : V → List V → Hp → VK → Prop := fun x vs H Q => ∃ l xs y, x = .ref l ∧ vs = [y] ∧ H l = some (.lst xs) ∧ xs.length < sizeLine ∧ Q .non (upd H l (.lst (xs ++ [y])))
theorem mt_append : MtM X "list.append" rAppend := by
  intro pins s σ H x vs v us Q I rx rv h
  obtain ⟨l, xs, y, rfl, rfl, hH, hz, q⟩ := h
  cases rx
  obtain ⟨u, rfl, ru⟩ := rv.one
  obtain ⟨z, its, n, r, hl, e⟩ := I.lstM hH
  refine call_meets F.slot_list_append ⟨_, e, rfl⟩ F.entry_list_append (F.args_list_append_2 _ _) (PySem.list_append l its.toArray n u (by rw [List.size_toArray]; omega)) ⟨e, ?_⟩
  refine ⟨.non, _, I.lset (its' := its ++ [u]) hH e (by simp) (r.append (.cons ru .nil)) ?_, rfl, q⟩
  rw [List.length_append, List.length_singleton]
  omega

def rExtend : V → List V → Hp → VK → Prop := fun x vs H Q => ∃ l b xs zs, x = .ref l ∧ vs = [.ref b] ∧ H l = some (.lst xs) ∧ H b = some (.lst zs) ∧ xs.length + zs.length ≤ sizeLine ∧ Q .non (upd H l (.lst (xs ++ zs)))
theorem mt_extend : MtM X "list.extend" rExtend := by
  intro pins s σ H x vs v us Q I rx rv h
  obtain ⟨l, b, xs, zs, rfl, rfl, hH, hB, hz, q⟩ := h
  cases rx
  obtain ⟨u, rfl, ru⟩ := rv.one
  cases ru
  obtain ⟨z, its, n, r, hl, e⟩ := I.lstM hH
  obtain ⟨z2, its2, n2, r2, hl2, e2⟩ := I.lstM hB
  have hsz : its.toArray.size + its2.toArray.size ≤ sizeLine := by rw [List.size_toArray, List.size_toArray]; omega
  have hlong : ¬ (!its.toArray.isEmpty && Builtin.List.listTooLong (its.toArray.size + its2.toArray.size)) = true := by
    rw [notLongL hsz, Bool.and_false]
    exact Bool.false_ne_true
  refine call_meets F.slot_list_extend ⟨_, e, rfl⟩ F.entry_list_extend (F.args_list_extend_2 _ _)
    (AutoSeq1.list_extend_list_list_0 l its.toArray n b its2.toArray n2 hlong (by rw [List.size_toArray]; omega) (by omega)) ⟨e, e2, ?_⟩
  refine ⟨.non, _, I.lset (its' := its ++ its2) hH e (by simp) (r.append r2) ?_, rfl, q⟩
  rw [List.length_append]
  omega





/-! ### list + list, list += list, list * int -/
def rCat : R2 := fun x y H Q => ∃ l b xs zs, x = .ref l ∧ y = .ref b ∧ H l = some (.lst xs) ∧ H b = some (.lst zs) ∧ xs.length + zs.length ≤ sizeLine ∧ ∀ p, H p = none → Q (.ref p) (upd H p (.lst (xs ++ zs)))
theorem op_cat : OpR X (binaryOp .Add) rCat := by
  intro pins s σ H x y v u Q I rx ry h
  obtain ⟨l, b, xs, zs, rfl, rfl, hH, hB, hz, q⟩ := h
  cases rx
  cases ry
  obtain ⟨z, its, n, r, hl, e⟩ := I.lstM hH
  obtain ⟨z2, its2, n2, r2, hl2, e2⟩ := I.lstM hB
  refine PySem.P.add_list e e2 ?_ (by rw [List.size_toArray, List.size_toArray]; omega)
  have ea : its.toArray ++ its2.toArray = (its ++ its2).toArray := by simp
  rw [ea]
  exact ⟨.ref _, _, I.lnew (t' := s.toks) (r.append r2) (by rw [List.length_append]; omega), rfl, q _ I.fresh⟩
theorem len_rep {α : Type} (xs : List α) (k : Nat) : (List.replicate k xs).flatten.length = k * xs.length := by
  induction k with
  | zero => simp
  | succ k ih => rw [List.replicate_succ, List.flatten_cons, List.length_append, ih, Nat.succ_mul, Nat.add_comm]

/-! ### del xs[i] -/
end

/-! ### xs[a:b] = ys -/
section
variable {prog : Program} {w : World} {A : Around} {E : Value → Shared → Prop} {s : Shared}
end

section
variable {X : Cx}
end
end L2

namespace Att
open PySem PySem.W PySem.Calls PyProof.Rows

/-! ### the script -/
theorem ints_of_wellAll {P : Params} {h : Heap} : ∀ (ns : List Int) (vs : List Value), WellAll P h vs (ns.map WData.int) → IntsAre vs ns := by
  intro ns
  induction ns with
  | nil =>
    intro vs w
    rw [List.map_nil] at w
    cases w
    exact .nil
  | cons n ns ih =>
    intro vs w
    rw [List.map_cons] at w
    cases w with
    | cons a b =>
      cases a
      exact .cons _ _ (ih _ b)

theorem script_of {l : OpenLaw} {n : Nat} (hn : l.most = some n) {P : Params} {h : Heap} {args : List WData} {vals : List Value}
    (hpre : l.row.toRowW.claim.pre args = true) (hwl : WellAll P h vals args) :
    ∃ a vs ns, vals = [Value.ref a] ∧ args = [WData.list (ns.map WData.int)] ∧ h.get? a = some { cls := .type "list", data := .seq vs.toArray } ∧ IntsAre vs ns ∧ ns.length ≤ n := by
  have hsh : WShape.hasAll [] args [.list .int] = true := (pre_splitW hpre).1
  have hc : l.pre.holds [] { args := args } = true := (pre_splitW hpre).2
  obtain ⟨d, r, rfl, h1, h2⟩ := hasAllW_cons hsh
  obtain rfl := hasAllW_nil h2
  obtain ⟨xs, rfl, h3⟩ := hasW_list h1
  obtain ⟨ns, rfl⟩ := items_int h3
  have hlen : ns.length ≤ n := by
    unfold OpenLaw.pre at hc
    have h4 : (WTm.not (.lt (.lit (.int (n : Int))) (.len (.arg 0)))).holds [] { args := [.list (ns.map .int)] } = true := by
      have h4 := (holds_andW hc).1
      rw [hn] at h4
      exact h4
    have h5 := condW_of h4 (w_not (w_lt w_lit (w_len_list (w_arg rfl))))
    rw [List.length_map] at h5
    refine Nat.le_of_not_lt fun q => ?_
    have q' : (n : Int) < ((ns.length : Nat) : Int) := by omega
    first
      | (rw [decide_eq_true q'] at h5; exact absurd h5 (by decide))
      | (simp at h5; omega)
  cases hwl with
  | cons w1 w2 =>
    cases w2
    cases w1 with
    | list ho hall => exact ⟨_, _, ns, rfl, rfl, ho, ints_of_wellAll ns _ hall, hlen⟩

theorem post_true (l : OpenLaw) (args : List WData) : l.row.toRowW.claim.post args (.bool true) args = true :=
  postW_of (r := l.row.toRowW) (X := (true == true))
    (show WShape.has [] (.bool true) .bool = true by first | rfl | decide | simp [WShape.has, WShape.arms, WShape.armsAll])
    (show (WTm.eq .res (.lit (.bool true))).value [] { args := args, res := some (.bool true), after := args } = some (.bool (true == true)) from w_eq_bool (w_res rfl) w_lit) rfl

/-! ### the attachment: holds_open's last premise (the goal 'hc' behind k_head) from a wpAny of the law's body -/

/-- the same from a codeAny of the CALL (for a layer whose function contracts speak of calls) -/
theorem attach_call {l : OpenLaw} {n : Nat} {q : Program} {loose : List Str} {XP : (Str → Option Value) → Heap → Prop} {YP : World → Heap → Prop} {d : DefRec}
    (hn : l.most = some n) (hdf : d.params.defaults = [])
    (call : ∀ (w : World) (s₀ s₁ : Shared) (mg mb : Str → Option Value) (fa : Addr) (o : Obj) (pm cd doc : Value) (a : Addr) (vs : List Value) (ns : List Int),
      Ground q loose [] XP w s₀ mg mb s₁.heap → YP w s₁.heap →
      s₁.heap.get? fa = some o → o.data = .func (docDef d.name d.params d.body d.scope pm cd doc) → s₁.heap.CodeRec cd d.name → mg d.name = some (.ref fa) →
      s₁.heap.get? a = some { cls := .type "list", data := .seq vs.toArray } → IntsAre vs ns → ns.length ≤ n → s₁.gens = #[] →
      codeAny (model l.prog w) callerA (.call (.ref fa) ⟨[.ref a], []⟩) (fun r s' => r = .ok (.ret (.bool true)) ∧ OldK s₁.heap s'.heap ∧ s'.os = s₁.os ∧ AllBare s'.gens) s₁) :
    WalkO q loose XP YP l.row.toRowW d [] (fun f vs => PySem.call f vs) := by
  intro w s₀ s₁ mg mb G Y fa o pm cd doc dV kV ho hd hcd hD hmg hg args vals as hpre hlay hrd hwl hlo
  obtain rfl : dV = .none := Dflts.none hD hdf
  obtain rfl : kV = .none := Dflts.noKw hD
  obtain ⟨a, vs, ns, rfl, rfl, hobj, hints, hlen⟩ := script_of hn hpre hwl
  refine enter_call (codeAny_mono (call w s₀ s₁ mg mb fa o pm cd doc a vs ns G Y ho (fd_plain hd) hcd hmg hobj hints hlen hg) fun r s' hq => ?_)
  obtain ⟨rfl, h2, h3, h4⟩ := hq
  exact ⟨.inl ⟨.bool true, .bool true, [], rfl, fun _ => rfl, .bool true, post_true l _, fun _ => ⟨List.Pairwise.nil, fun _ hm => (nomatch hm)⟩⟩, h2, h3, h4⟩


/-! ### rules over ANY heap (no ledger) from facts about the written part K: the library's own take a ledger (News) for what they write -/
section
variable {prog : Program} {w : World} {A : Around} {E : Value → Shared → Prop} {s : Shared} {K : Frag}





/-! the whole heap as the ledger: makes every rule that writes through a ledger a rule over any heap -/

end
end Att

namespace L2
open PySem PySem.Spec PyProof.Rows

theorem vals_ints : ∀ {vs : List Value} {ns : List Int}, IntsAre vs ns → Vals (ns.map V.int) vs
  | _, _, .nil => .nil
  | _, _, .cons n t h => .cons ⟨t, rfl⟩ (vals_ints h)


end L2

namespace L2
open PySem PySem.Spec PyProof.Rows


end L2

/- THE LAST THEOREM (shape; LID, My.* are yours):
   My.Adr: a structure of the addresses that your layer names (classes, functions); My.Txt K t: a structure (Prop) of the equations over K;
   My.txt_mk : {K} {implicit addresses ..} (e1 : nsIn K mainGlobals "law" = some (some (.ref f))) (e2 : K.lookup f = some ⟨oc, od, .func (fnOf "law" "law" params body scope dV kV doc pm an cdv ct), sl⟩) (e3 : codeIn K cdv "law" = true) .. : ∃ t, My.Txt K t

set_option maxRecDepth 100000 in
set_option maxHeartbeats 0 in
theorem PySem.Challenge.cw_LID_holds : PySem.Challenge.rw_LID.Holds := by
  w_on; o_law; k_head; (case hw => w_witness2)
  k_fill
  refine L2.walk_of (l := PySem.Challenge.rw_LID) (n := 63) (k := 40) (x := "script") (CX := fun w => ..) (sp := fun _ => My.sp_law) rfl (by decide) rfl ⟨rfl, by decide, by decide⟩ (fun w h Y => PySem.W.kIn_of Y) ?F ?S ?C
  case F =>
    intro w mg fa h KX G hmg
    have T : ∃ t, My.Txt (L2.KOf KX) t := by
      dsimp only [L2.KOf]                          -- K must stand as «<heap const> w.params» for k_is
      refine' My.txt_mk ?e1 ?e2 ?e3 ..
      (case e1 => PySem.W.k_is)                    -- in the order: a name -> its address -> its object -> its parts
      (case e2 => PySem.W.k_is)
      ..
    obtain ⟨t, T⟩ := T
    have e0 := hmg.symm.trans (PySem.W.mg_of KX G T.law)
    cases e0                                       -- fa is the law's own address
    exact ⟨_, fun s u => .of_eq rfl, fun base kb nb => My.law_fn T kb nb⟩     -- if «.of_eq rfl» comes too early: refine' ⟨_, ?b, fun base kb nb => My.law_fn T kb nb⟩; exact fun s u => .of_eq rfl
  case S => exact fun w H a ns hl hO hS => ..
  case C => exact ..
(the tactic k_is has no namespace: write k_is) -/

/-! SHORT WORDS over the layer: a def of the text, its body, what a loop and a test want. -/
namespace L2
open PySem PySem.Spec PyProof.Rows

/-! ### the text by places -/
def defArgs (s : Stmt) : Arguments := match s with
  | .FunctionDef _ a _ _ _ _ _ _ _ _ => a
  | _ => { posonlyargs := [], args := [], vararg := none, kwonlyargs := [], kw_defaults := [], kwarg := none, defaults := [] }
def defBody (s : Stmt) : List Stmt := match s with
  | .FunctionDef _ _ b _ _ _ _ _ _ _ => b
  | _ => []
def defScope (s : Stmt) : Scope := match s with
  | .FunctionDef _ _ _ _ _ _ sc _ _ _ => sc
  | _ => { kind := .function, names := [], isGenerator := false, isCoroutine := false }

/-! ### no exception leaves a def -/
abbrev CX0 : CXT := fun _ _ _ _ _ _ => False
abbrev E0 : XK := fun _ _ _ => False
theorem pass0 {X : Cx} : Passes CX0 X E0 := fun _ _ _ _ _ _ _ h => h.elim

/-! ### a def (or method) of the text as it stands behind the top -/
structure Fun (K : PySem.W.Frag) (x qual : Str) (st : Stmt) (f : Addr) (fd : FuncData) : Prop where
  ex : ∃ (oc : Value) (od : Option Addr) (kV doc pm : Value) (an : Option Addr) (cdv ct : Value) (osl : Array (Option Value)),
    fd = PySem.W.fnOf x qual (defArgs st) (defBody st) (defScope st) .none kV doc pm an cdv ct ∧ K.lookup f = some ⟨oc, od, .func fd, osl⟩ ∧ PySem.W.codeIn K cdv qual = true
  kp : PySem.W.keepIn K (.ref f) = true
section
variable {P : Program} {w : World} {K : PySem.W.Frag} {mg : Str → Option Value} {base : Heap}
/-- THE RULE for a def: its body as a term of rules, and the reading of that term -/
theorem Fun.ok {x qual : Str} {st : Stmt} {f : Addr} {fd : FuncData} {N ps : List Str} {k : Nat} {sp : Sp} (F : Fun K x qual st f fd) (S : FnScope N ps (defScope st)) (len : ∀ vs H Q E, sp vs H Q E → vs.length = ps.length)
    (hbody : ∀ (cdv : Value) (A : Around) (outer : List Env) (s : Shared) (H : Hp) (vs : List V) (Q : VK) (E : XK), Room k (A.deeper (envOfC qual (defScope st) s.heap.objs.size f cdv)) → sp vs H Q E →
      ∃ t, PSs (cxOf CX0 P w K mg base N qual (defScope st) f cdv A outer s H E).nox (defBody st) t ∧ t { nx := fun _ H' => Q .non H', rt := Q } (start N vs) H) : FnOk P w K mg base CX0 (k + 1) f fd ps sp := by
  obtain ⟨oc, od, kV, doc, pm, an, cdv, ct, osl, rfl, lk, hcd⟩ := F.ex
  refine fn_of lk hcd S len fun A outer s H vs Q E hr hsp => ?_
  obtain ⟨t, h, q⟩ := hbody cdv A outer s H vs Q E hr hsp
  exact ⟨t, h.nox, q⟩
/-- how its arguments bind (no defaults): h is «fun _ _ _ _ _ _ us hl => match us, hl with | [_, _], _ => rfl», one _ a parameter -/
theorem Fun.binds {x qual : Str} {st : Stmt} {f : Addr} {fd : FuncData} {ps : List Str} (F : Fun K x qual st f fd)
    (h : ∀ (kV doc pm : Value) (an : Option Addr) (cdv ct : Value) (us : List Value), us.length = ps.length → bindArgs (PySem.W.fnOf x qual (defArgs st) (defBody st) (defScope st) .none kV doc pm an cdv ct) ⟨us, []⟩ = pure (ps.zip us)) : Binds K fd ps [] := by
  obtain ⟨oc, od, kV, doc, pm, an, cdv, ct, osl, rfl, lk, hcd⟩ := F.ex
  exact .all (h kV doc pm an cdv ct)
theorem fun_mk {x qual : Str} {st : Stmt} {f : Addr} {oc : Value} {od an : Option Addr} {osl : Array (Option Value)} {kV doc pm cdv ct : Value} (l : K.lookup f = some ⟨oc, od, .func (PySem.W.fnOf x qual (defArgs st) (defBody st) (defScope st) .none kV doc pm an cdv ct), osl⟩)
    (c : PySem.W.codeIn K cdv qual = true) (k : PySem.W.keepIn K (.ref f) = true) : Fun K x qual st f (PySem.W.fnOf x qual (defArgs st) (defBody st) (defScope st) .none kV doc pm an cdv ct) := ⟨⟨oc, od, kV, doc, pm, an, cdv, ct, osl, rfl, l, c⟩, k⟩
end

/-! ### expressions in short: the name that stands in the i-th slot -/
section
variable {X : Cx}
theorem pv (i : Nat) {x : Str} {pos : Pos} (hN : X.N[i]? = some x := by rfl) (hv : Vis X.env.scope x := by first | exact Or.inl rfl | exact Or.inr (Or.inl rfl) | exact Or.inr (Or.inr rfl)) (hd : (x == ("__debug__" : Str)) = false := by decide)
    (hcd : (x == ("__classdict__" : Str)) = false := by decide) : PE X (.Name x pos) (tVar i) := pe_var hN hv hd hcd
end

/-! ### tests -/
theorem iteF {A B : Prop} (h : B) : if false = true then A else B := by
  rw [if_neg Bool.false_ne_true]
  exact h
theorem iteT {A B : Prop} (h : A) : if true = true then A else B := by
  rw [if_pos rfl]
  exact h
theorem ite2 {c A B : Prop} [Decidable c] (h1 : c → A) (h2 : ¬ c → B) : if c then A else B := by
  by_cases h : c
  · rw [if_pos h]
    exact h1 h
  · rw [if_neg h]
    exact h2 h

/-! ### heaps -/
/-- all that was tracked is as it was -/
def Same (H H' : Hp) : Prop := ∀ b o, H b = some o → H' b = some o
theorem Same.refl (H : Hp) : Same H H := fun _ _ h => h
theorem Same.trans {H H1 H2 : Hp} (a : Same H H1) (b : Same H1 H2) : Same H H2 := fun c o h => b c o (a c o h)
theorem Same.free {H H' : Hp} (e : Same H H') {l : Addr} (h : H' l = Option.none) : H l = Option.none := by
  cases q : H l with
  | none => rfl
  | some o =>
    rw [e l o q] at h
    cases h

end L2

set_option Elab.async false
set_option linter.all false
set_option maxRecDepth 100000
/-! A comprehension of lists, one clause, any target, at most one test: by the hand layer's judgements. -/
namespace L2
open PySem PySem.Spec PyProof.Rows

/-! ### the closure -/
def clOf (cells : List (Str × Addr)) : List (Str × NameKind) → List (Str × Addr) → List (Str × Addr)
  | [], acc => acc
  | (n, k) :: r, acc => clOf cells r (if k = .free then (n, (cells.lookup n).getD 0) :: acc else acc)
theorem clos_loop {env : Env} : ∀ (l : List (Str × NameKind)) (acc : List (Str × Addr)), (∀ p ∈ l, p.2 = NameKind.free → (env.cells.lookup p.1).isSome = true) →
    (forIn l acc fun (x : Str × NameKind) (r : List (Str × Addr)) => (if (x.2 == NameKind.free) = true then do let a ← cellOf env x.1; pure (ForInStep.yield ((x.1, a) :: r)) else pure (ForInStep.yield r) : Sem (ForInStep (List (Str × Addr))))) = pure (clOf env.cells l acc)
  | [], acc, _ => rfl
  | (n, k) :: r, acc, h => by
    rw [List.forIn_cons]
    have ih := fun a => clos_loop (env := env) r a fun p hp => h p (List.mem_cons_of_mem _ hp)
    by_cases hk : k = .free
    · subst hk
      have hs := h (n, .free) List.mem_cons_self rfl
      obtain ⟨c, hc⟩ := Option.isSome_iff_exists.mp hs
      have e1 : cellOf env n = pure c := by unfold cellOf; rw [show env.cells.lookup n = some c from hc]
      have e2 : clOf env.cells ((n, .free) :: r) acc = clOf env.cells r ((n, c) :: acc) := by
        show clOf env.cells r (if NameKind.free = NameKind.free then (n, (env.cells.lookup n).getD 0) :: acc else acc) = _
        rw [if_pos rfl, show env.cells.lookup n = some c from hc]
        rfl
      rw [e2]
      simp only [beq_self_eq_true, if_true, e1, pure_bind]
      exact ih _
    · have hb : (k == NameKind.free) = false := by simpa using hk
      have e2 : clOf env.cells ((n, k) :: r) acc = clOf env.cells r acc := by
        show clOf env.cells r (if k = NameKind.free then _ else acc) = _
        rw [if_neg hk]
      rw [e2]
      simp only [hb, Bool.false_eq_true, if_false, pure_bind]
      exact ih _
theorem clos_eq {scope : Scope} {env : Env} (h : ∀ p ∈ scope.names, p.2 = NameKind.free → (env.cells.lookup p.1).isSome = true) : closureFor scope env = pure (clOf env.cells scope.names []) := by
  have e := clos_loop (env := env) scope.names [] h
  unfold closureFor
  simp only [bind_pure]
  exact e
theorem clOf_sub {cells : List (Str × Addr)} {x : Str} {c : Addr} : ∀ (l : List (Str × NameKind)) (acc : List (Str × Addr)), (∀ p ∈ l, p.2 = NameKind.free → (cells.lookup p.1).isSome = true) → (clOf cells l acc).lookup x = some c →
    acc.lookup x = some c ∨ cells.lookup x = some c
  | [], _, _, h => .inl h
  | (n, k) :: r, acc, hf, h => by
    have h' : (clOf cells r (if k = .free then (n, (cells.lookup n).getD 0) :: acc else acc)).lookup x = some c := h
    rcases clOf_sub r _ (fun p hp => hf p (List.mem_cons_of_mem _ hp)) h' with e | e
    · by_cases hk : k = .free
      · rw [if_pos hk] at e
        obtain ⟨d, hd⟩ := Option.isSome_iff_exists.mp (hf (n, k) List.mem_cons_self hk)
        rw [show cells.lookup n = some d from hd] at e
        rw [List.lookup_cons] at e
        cases hx : x == n with
        | true =>
          rw [hx] at e
          have : x = n := by simpa using hx
          subst this
          exact .inr (hd.trans (by simpa using e))
        | false =>
          rw [hx] at e
          exact .inl e
      · rw [if_neg hk] at e
        exact .inl e
    · exact .inr e
theorem clOf_has {cells : List (Str × Addr)} {x : Str} : ∀ (l : List (Str × NameKind)) (acc : List (Str × Addr)), ((∃ k, (x, k) ∈ l ∧ k = NameKind.free) ∨ (∃ c, acc.lookup x = some c)) → ∃ c, (clOf cells l acc).lookup x = some c
  | [], _, h => by
    rcases h with ⟨k, hk, _⟩ | h
    · exact absurd hk (by simp)
    · exact h
  | (n, k) :: r, acc, h => by
    show ∃ c, (clOf cells r (if k = .free then (n, (cells.lookup n).getD 0) :: acc else acc)).lookup x = some c
    refine clOf_has r _ ?_
    rcases h with ⟨k', hk, e⟩ | ⟨c, hc⟩
    · rcases List.mem_cons.mp hk with z | z
      · cases z
        refine .inr ?_
        rw [if_pos e]
        exact ⟨_, by rw [List.lookup_cons, beq_self_eq_true]⟩
      · exact .inl ⟨k', z, e⟩
    · refine .inr ?_
      by_cases hk : k = .free
      · rw [if_pos hk, List.lookup_cons]
        cases hx : x == n with
        | true => exact ⟨_, rfl⟩
        | false => exact ⟨c, hc⟩
      · rw [if_neg hk]
        exact ⟨c, hc⟩
theorem relabel_mem {scope : Scope} {env : Env} {x : Str} {k : NameKind} (hc : ∀ p ∈ scope.names, p.2 ≠ NameKind.cell) (h : (relabel scope env).names.lookup x = some k) (hk : k = .cell ∨ k = .free) : ∃ k', (x, k') ∈ scope.names ∧ k' = NameKind.free := by
  have m := PySem.mem_of_lookup h
  obtain ⟨⟨n, k0⟩, hm, e⟩ := List.mem_map.mp m
  dsimp only at e
  split at e
  · rename_i c
    cases e
    have : (k0 == NameKind.free) = true := by
      cases q : (k0 == NameKind.free) with
      | true => rfl
      | false => rw [q] at c; simp at c
    exact ⟨k0, hm, by simpa using this⟩
  · cases e
    rcases hk with z | z
    · exact absurd z (hc _ hm)
    · exact ⟨_, hm, z⟩

/-! ### the block's context -/
def cxC (X : Cx) (scope : Scope) (Nc : List Str) (C : Addr) (fp : List Addr) (pins : List (Addr × Obj)) (s₂ : Shared) (H₂ : Hp) : Cx where
  prog := X.prog
  w := X.w
  K := X.K
  mg := X.mg
  base := X.base
  A := X.A
  N := Nc
  s₀ := s₂
  H₀ := H₂
  env := compEnvC scope (clOf X.env.cells scope.names []) C X.env
  outer := X.stack
  stack := X.stack
  ex := fp
  fn := fun _ => false
  calm := X.calm
  pn := X.pn ++ pins
  xe := fun _ _ => False
/-- which names of the block stand for which slots of the def -/
def Caps (X : Cx) (env' : Env) : List Str → List (Option Nat) → Prop
  | [], [] => True
  | _ :: N, none :: r => Caps X env' N r
  | x :: N, some i :: r => (X.N[i]? = some x ∧ (X.env.kindOf x = some .cell ∨ X.env.kindOf x = some .free) ∧ env'.cells.lookup x = X.env.cells.lookup x ∧ (env'.kindOf x = some .cell ∨ env'.kindOf x = some .free)) ∧ Caps X env' N r
  | _, _ => False
def capσ (σ : St) (src : List (Option Nat)) : St := src.map fun o => match o with | none => none | some i => (σ[i]?).join
theorem Caps.len {X : Cx} {env' : Env} : ∀ {N : List Str} {src : List (Option Nat)}, Caps X env' N src → src.length = N.length
  | [], [], _ => rfl
  | [], _ :: _, h => h.elim
  | _ :: _, [], h => h.elim
  | _ :: N, none :: r, h => by
    have h' : Caps X env' N r := h
    have := Caps.len (N := N) (src := r) h'
    simp [this]
  | _ :: N, some _ :: r, h => by
    have := Caps.len (N := N) (src := r) h.2
    simp [this]
theorem Caps.get {X : Cx} {env' : Env} {x : Str} : ∀ {N : List Str} {src : List (Option Nat)} {j i : Nat}, Caps X env' N src → N[j]? = some x → src[j]? = some (some i) →
    X.N[i]? = some x ∧ (X.env.kindOf x = some .cell ∨ X.env.kindOf x = some .free) ∧ env'.cells.lookup x = X.env.cells.lookup x ∧ (env'.kindOf x = some .cell ∨ env'.kindOf x = some .free)
  | [], [], _, _, _, e, _ => by simp at e
  | [], _ :: _, _, _, h, _, _ => h.elim
  | _ :: _, [], _, _, h, _, _ => h.elim
  | _ :: _, none :: _, 0, _, _, _, e => by simp at e
  | _ :: N, none :: r, j + 1, _, h, e1, e2 => by
    have h' : Caps X env' N r := h
    exact Caps.get (N := N) (src := r) (j := j) h' (by simpa using e1) (by simpa using e2)
  | _ :: _, some _ :: _, 0, _, h, e1, e2 => by
    simp at e1 e2
    subst e1 e2
    exact h.1
  | _ :: _, some _ :: _, j + 1, _, h, e1, e2 => Caps.get (j := j) h.2 (by simpa using e1) (by simpa using e2)

/-- what a block's scope must be (checked by computing) -/
structure CScope (X : Cx) (scope : Scope) : Prop where
  kind : scope.kind = .function
  cell : scope.names.all (fun p => p.2 != .cell) = true
  names : scope.names.all (fun p => p.2 != .local || scope.names.lookup p.1 == some .local) = true
  free : scope.names.all (fun p => p.2 != .free || (X.env.cells.lookup p.1).isSome) = true
section
variable {X : Cx} {scope : Scope}
theorem CScope.hcell (S : CScope X scope) : ∀ p ∈ scope.names, p.2 ≠ NameKind.cell := fun p hp => by
  have := List.all_eq_true.mp S.cell p hp
  simpa using this
theorem CScope.hnames (S : CScope X scope) : ∀ p ∈ scope.names, p.2 = .local → scope.names.lookup p.1 = some .local := fun p hp e => by
  have := List.all_eq_true.mp S.names p hp
  simpa [e] using this
theorem CScope.hfree (S : CScope X scope) : ∀ p ∈ scope.names, p.2 = NameKind.free → (X.env.cells.lookup p.1).isSome = true := fun p hp e => by
  have := List.all_eq_true.mp S.free p hp
  simpa [e] using this
end

/-- several tests (none or one) -/
def PTs (X : Cx) (ifs : List Expr) (t : TT) : Prop :=
  ∀ (pins : List (Addr × Obj)) (s : Shared) (σ : St) (H : Hp) (Q : Bool → Hp → Prop), Inv X pins σ H s → t σ H Q →
    wpAny (model X.prog X.w) X.A (forIn ifs true fun c r => if r = true then do let ok ← isTrue c X.env (eval c X.env); pure (ForInStep.yield ok) else pure (ForInStep.yield r)) (TP X pins σ Q) X.xe s
def tYes : TT := fun _ H Q => Q true H
theorem pts_nil {X : Cx} : PTs X [] tYes := fun _ _ _ H _ I h => wpAny_tests_nil ⟨H, I, h⟩

/-- the loop of a comprehension, with the step that lets an owned tuple go -/
theorem compLoop_any {prog : Program} {w : World} {A : Around} {R : Result → Shared → Prop} {s : Shared} {elt target iter : Expr} {ifs : List Expr} {scope : Scope} {pos : Pos} {it acc : Value} {env : Env} (I : Nat → Shared → Prop)
    (turn : ∀ n s, I n s → wpAny (model prog w) A (pyNext it) (fun r s₁ => match r with
      | none => R (.ok .next) s₁
      | some v => wpAny (model prog w) A (letOwnedTupleGo target it v) (fun _ s₁' => wpAny (model prog w) A (assign target env v) (fun _ s₂ =>
          wpAny (model prog w) A (forIn ifs true fun c r => if r = true then do let ok ← isTrue c env (eval c env); pure (ForInStep.yield ok) else pure (ForInStep.yield r)) (fun ok s₃ =>
            if ok = true then wpAny (model prog w) A (eval elt env) (fun x s₄ =>
              wpAny (model prog w) A (call (.builtin "list.append") [acc, x]) (fun _ s₅ => ∃ m, m < n ∧ I m s₅) (fun _ _ => False) s₄) (fun _ _ => False) s₃
            else ∃ m, m < n ∧ I m s₃) (fun _ _ => False) s₂) (fun _ _ => False) s₁') (fun _ _ => False) s₁) (fun _ _ => False) s)
    (n : Nat) (h : I n s) :
    codeAny (model prog w) A (.compLoop (.ListComp elt [⟨target, iter, ifs, 0⟩] scope pos) 0 it acc env) R s := by
  refine codeAny_loop rfl I (fun n s hI => ?_) n h
  show wpAny _ A ((compTurn (.ListComp elt [⟨target, iter, ifs, 0⟩] scope pos) 0 it acc env).onRaise (fun x => do noteFrame x env; theTreesLotGoes x)) _ _ s
  refine wpAny_noted ?_
  rw [compTurn_list]
  refine wpAny_bind (wpAny_standAt (wpAny_bind (wpAny_mono (turn n s hI) (fun r s₁ h₁ => ?_) fun _ _ h' => h'.elim)))
  cases r with
  | none => exact wpAny_pure h₁
  | some v =>
    refine wpAny_bind (wpAny_mono h₁ (fun _ s₁' h₁' => ?_) fun _ _ h' => h'.elim)
    refine wpAny_bind (wpAny_mono h₁' (fun _ s₂ h₂ => wpAny_bind (wpAny_mono h₂ (fun ok s₃ h₃ => ?_) fun _ _ h' => h'.elim)) fun _ _ h' => h'.elim)
    cases ok with
    | false => exact wpAny_pure ⟨rfl, h₃⟩
    | true =>
      exact wpAny_bind (wpAny_bind (wpAny_mono h₃ (fun x s₄ h₄ => wpAny_bind (wpAny_mono h₄ (fun _ s₅ h₅ => wpAny_pure (wpAny_pure ⟨rfl, h₅⟩)) fun _ _ h' => h'.elim)) fun _ _ h' => h'.elim))

/-! ### the loop -/
/-- W: the invariant by the turn, a measure, what is collected, the block's names, the heap -/
def CompW (J : It) (g : TG) (tt : TT) (te : TE) (Fin : List V → Hp → Prop) (σ0 : St) (H0 : Hp) : Prop :=
  ∃ W : Nat → Nat → List V → St → Hp → Prop, (∃ m, W 0 m [] σ0 H0) ∧ ∀ i m ys σ H, W i m ys σ H → ys.length < sizeLine ∧
    ((J.stop i H ∧ Fin ys H) ∨ (J.go i H ∧ ∀ x H', J.yld i H x H' → g x σ H' fun σ2 H2 => tt σ2 H2 fun b H3 =>
      if b = true then te σ2 H3 fun y H4 => ∃ m', m' < m ∧ W (i + 1) m' (ys ++ [y]) σ2 H4 else ∃ m', m' < m ∧ W (i + 1) m' ys σ2 H3))

theorem comp_core {X : Cx} {tg iter elt : Expr} {ifs : List Expr} {scope : Scope} {pos : Pos} {Nc : List Str} {src : List (Option Nat)} {g : TG} {tt : TT} {te : TE} (hc : X.calm = true) (S : CScope X scope)
    (hcaps : ∀ C, Caps X (compEnvC scope (clOf X.env.cells scope.names []) C X.env) Nc src)
    (hb : ∀ C fp pins s₂ H₂, PG (cxC X scope Nc C fp pins s₂ H₂) tg g ∧ PTs (cxC X scope Nc C fp pins s₂ H₂) ifs tt ∧ PE (cxC X scope Nc C fp pins s₂ H₂) elt te)
    {pins : List (Addr × Obj)} {s₂ : Shared} {σ : St} {H₂ : Hp} {it : Addr} {fp : List Addr} {tn : Nat → Heap → Prop} {J : It} (I₂ : Inv X pins σ H₂ s₂) (T : Turn X.prog X.w X.K tg J fp it tn) (st : tn 0 s₂.heap) (hf : ∀ b ∈ fp, FpOk X pins H₂ b)
    {Fin : List V → Hp → Prop} (hW : CompW J g tt te Fin (capσ σ src) H₂) {RR : Value → Addr → Result → Shared → Prop} {E : Value → Shared → Prop}
    (hRR : ∀ D C s' ys H' m, Fin ys H' → H' D = none → Inv X pins σ (upd H' D (.lst ys)) s' → s'.heap.Ns C m → FpOk X pins (upd H' D (.lst ys)) C → RR (.ref D) C (.ok .next) s') :
    wpAny (model X.prog X.w) X.A (newList []) (fun acc s₃ => wpAny (model X.prog X.w) X.A (newFunctionEnv scope X.env.globals (clOf X.env.cells scope.names []) [] X.env.qual none .none (some X.env)) (fun cenv s₄ =>
      codeAny (model X.prog X.w) X.A (.compStart (.ListComp elt [⟨tg, iter, ifs, 0⟩] scope pos) 0 (.ref it) acc { cenv with scope := relabel scope X.env }) (RR acc cenv.locals) s₄) E s₃) E s₂ := by
  refine wpAny_newObj_type (wpAny_newFunctionEnv S.hcell (by intro y hy; simp at hy) (fun h₁ hns₁ hsb₁ => ?_) S.kind)
  dsimp only at hns₁ hsb₁ ⊢
  generalize hH2 : s₂.heap.push { cls := .type "list", dict := none, data := .seq ([] : List Value).toArray } = HH at hns₁ hsb₁ ⊢
  generalize hDD : s₂.heap.objs.size = D at hns₁ hsb₁ ⊢
  have hC : HH.objs.size = D + 1 := by rw [← hH2, Heap.size_push, hDD]
  generalize hCC : HH.objs.size = C at hns₁ hsb₁ hC ⊢
  have hDC : D ≠ C := by omega
  have below : ∀ b, b < s₂.heap.objs.size → b ≠ C ∧ b ≠ D := fun b hb => by rw [hDD] at hb; exact ⟨by rw [hC]; exact Nat.ne_of_lt (Nat.lt_succ_of_lt hb), Nat.ne_of_lt hb⟩
  have belowO : ∀ {b o}, s₂.heap.get? b = some o → b ≠ C ∧ b ≠ D := fun {b o} e => below b (Heap.lt_size e)
  have old : ∀ b o, s₂.heap.get? b = some o → h₁.get? b = some o := fun b o e => hsb₁.extBut b o (belowO e).1 (Heap.get?_push_of_some _ (hH2 ▸ Heap.get?_push_of_some _ e))
  have hacc : h₁.get? D = some { cls := .type "list", data := .seq ([] : List Value).toArray } := hsb₁.extBut _ _ hDC (Heap.get?_push_of_some _ (hH2 ▸ hDD ▸ Heap.get?_push_size _ rfl))
  have fpO : ∀ b ∈ fp, ∃ o, s₂.heap.get? b = some o := fun b hb => let ⟨o, e, _⟩ := T.obj _ _ st b hb; ⟨o, e⟩
  have fpC : ∀ b ∈ fp, b ≠ C ∧ b ≠ D := fun b hb => let ⟨o, e⟩ := fpO b hb; belowO e
  have sub : ∀ {x c}, (clOf X.env.cells scope.names []).lookup x = some c → X.env.cells.lookup x = some c := fun {x c} e => by
    rcases clOf_sub scope.names [] S.hfree e with z | z
    · simp at z
    · exact z
  have ltD : ∀ {b o}, s₂.heap.get? b = some o → b < D := fun {b o} e => by rw [← hDD]; exact Heap.lt_size e
  have fresh : ∀ a, D ≤ a → H₂ a = none := fun a ha => I₂.hok.fresh (by rw [hDD]; exact ha)
  have cellO : ∀ {x c}, X.env.cells.lookup x = some c → ∃ o, s₂.heap.get? c = some o := fun {x c} e => let ⟨v, o, ho, _⟩ := I₂.cell x c e; ⟨o, ho⟩
  have stkC : ∀ b ∈ frs X.stack, ∃ o, s₂.heap.get? b = some o := fun b hb => by
    rcases List.mem_cons.mp (I₂.stkSub b hb) with e | hb
    · rw [e]
      obtain ⟨m, ⟨o, _, _, ho, _⟩, _⟩ := I₂.loc
      exact ⟨o, ho⟩
    · obtain ⟨_, o, ho, _⟩ := I₂.funs.mem hb
      exact ⟨o, ho⟩
  have nstk : ∀ a, D ≤ a → a ∉ frs X.stack := fun a ha hb => by
    obtain ⟨o, e⟩ := stkC a hb
    exact absurd (Nat.lt_of_lt_of_le (ltD e) ha) (Nat.lt_irrefl _)
  have fpS : ∀ b ∈ fp, b ∉ frs X.stack := fun b hb z => by
    obtain ⟨_, f1, f2, _⟩ := hf b hb
    rcases List.mem_cons.mp (I₂.stkSub b z) with e | e
    · exact f1 e
    · exact f2 e
  -- the block's context
  generalize hX' : cxC X scope Nc C fp pins s₂ H₂ = X'
  obtain ⟨hg, ht, he⟩ := hb C fp pins s₂ H₂
  rw [hX'] at hg ht he
  have ok' : X'.Ok := by
    subst hX'
    refine ⟨I₂.ok.mod, S.kind, I₂.ok.glob, I₂.ok.blt, ?_, ?_, ?_, ?_, I₂.ok.hd, I₂.ok.frames, .inl rfl, ?_, I₂.bs, Nat.le_trans I₂.ok.bsz I₂.sz, ?_, fpS, I₂.stack, I₂.stkFree⟩
    · show s₂.heap.objs.size ≤ C
      omega
    · exact fun x y c e1 e2 => I₂.ok.inj x y c (sub e1) (sub e2)
    · intro x hx
      have hx : (relabel scope X.env).names.lookup x = some .cell ∨ (relabel scope X.env).names.lookup x = some .free := hx
      have : ∃ k', (x, k') ∈ scope.names ∧ k' = NameKind.free := by
        rcases hx with z | z
        · exact relabel_mem S.hcell z (.inl rfl)
        · exact relabel_mem S.hcell z (.inr rfl)
      exact clOf_has scope.names [] (.inl this)
    · intro x c z
      exact absurd z (by show ¬ (false = true); simp)
    · intro b hb
      exact ⟨(fpC b hb).1, fun x c e => (hf b hb).2.2.2.2.1 x c (sub e)⟩
    · intro b o e hb
      obtain ⟨_, _, _, f3, _⟩ := hf b hb
      rcases f3 with z | z
      · exact I₂.ok.noex b o e z
      · exact absurd (Nat.lt_of_lt_of_le (Heap.lt_size (I₂.ok.bs b o e).1) z) (Nat.lt_irrefl _)
  have eP : X'.prog = X.prog := by subst hX'; rfl
  have ew : X'.w = X.w := by subst hX'; rfl
  have eK : X'.K = X.K := by subst hX'; rfl
  have eA : X'.A = X.A := by subst hX'; rfl
  have eE : X'.xe = fun _ _ => False := by subst hX'; rfl
  have eL : X'.env.locals = C := by subst hX'; rfl
  have eN : X'.env = compEnvC scope (clOf X.env.cells scope.names []) C X.env := by subst hX'; rfl
  have ec : X'.calm = true := by subst hX'; exact hc
  have eS : X'.s₀ = s₂ := by subst hX'; rfl
  have eH : X'.H₀ = H₂ := by subst hX'; rfl
  have ef : X'.fs = frs X.stack := by subst hX'; rfl
  have ex : X'.ex = fp := by subst hX'; rfl
  have ep : X'.pn = X.pn ++ pins := by subst hX'; rfl
  have I0 : Inv X' [] (capσ σ src) H₂ { s₂ with heap := h₁, toks := s₂.toks + ([] : List (Str × Value)).length } := by
    refine ⟨ok', by rw [eS], I₂.bare, by rw [eS, eH]; exact Un.kept old, ⟨_, by rw [eL]; exact hns₁, ?_⟩, ?_, by rw [eL]; exact fresh _ (by omega), ?_, ?_, by rw [eP, ew]; exact I₂.hok.kept old, ?_⟩
    · intro j x v e1 e2 e3
      have e1 : Nc[j]? = some x := by subst hX'; exact e1
      have e4 : ∃ i, src[j]? = some (some i) ∧ (σ[i]?).join = some v := by
        unfold capσ at e2
        rw [List.getElem?_map] at e2
        cases q : src[j]? with
        | none => rw [q] at e2; cases e2
        | some o =>
          rw [q] at e2
          cases o with
          | none => simp at e2
          | some i => exact ⟨i, rfl, by simpa using e2⟩
      obtain ⟨i, e5, e6⟩ := e4
      obtain ⟨c1, c2, c3, c4⟩ := (hcaps C).get e1 e5
      have e7 : σ[i]? = some (some v) := by
        cases q : σ[i]? with
        | none => rw [q] at e6; simp at e6
        | some o => rw [q] at e6; simp at e6; rw [e6]
      obtain ⟨m, _, hl⟩ := I₂.loc
      obtain ⟨u, r, l⟩ := hl i x v c1 e7 (.inr (by rcases c2 with z | z; exact .inl z; exact .inr z))
      refine ⟨u, r, ?_⟩
      rcases l with ⟨k, _⟩ | ⟨_, c, e, z⟩
      · rcases c2 with c2 | c2 <;> (rw [k] at c2; cases c2)
      · refine .inr ⟨by rw [eN]; exact c4, c, by rw [eN]; exact c3.trans e, ?_⟩
        obtain ⟨o, ho, hd⟩ := z
        exact ⟨o, old c o ho, hd⟩
    · intro x c e
      rw [eN] at e
      obtain ⟨v, o, ho, hd⟩ := I₂.cell x c (sub e)
      exact ⟨v, o, old c o ho, hd⟩
    · intro x c e
      rw [eN] at e
      exact I₂.freeC x c (sub e)
    · intro p hp
      rw [ep, List.append_nil] at hp
      obtain ⟨e, n, ne, nf, d⟩ := I₂.pin p hp
      refine ⟨old _ _ e, n, by rw [eL]; exact (belowO e).1, ?_, d⟩
      rw [ef]
      intro z
      rcases List.mem_cons.mp (I₂.stkSub _ z) with q | q
      · exact ne q
      · exact nf q
    · have := (hcaps C).len
      subst hX'
      show (capσ σ src).length = Nc.length
      unfold capσ
      rw [List.length_map, this]
  -- the iterator's objects, the collected list
  have pnD : ∀ p ∈ X'.pn, p.1 ≠ D := fun p hp => by
    rw [ep] at hp
    exact (belowO (I₂.pin p hp).1).2
  have cellD : ∀ x c, X'.env.cells.lookup x = some c → c ≠ D := fun x c e => by
    rw [eN] at e
    obtain ⟨o, ho⟩ := cellO (sub e)
    exact (belowO ho).2
  have fpk : ∀ {P : List (Addr × Obj)} {H : Hp}, (∀ p ∈ P, p.1 = D) → (∀ b ∈ fp, H b = none) → ∀ b ∈ fp, FpOk X' P H b := fun {P H} hP hn b hb => by
    refine ⟨hn b hb, by rw [eL]; exact (fpC b hb).1, by rw [ef]; exact fpS b hb, .inl (by rw [ex]; exact hb), fun x c e => ?_, fun p hp => ?_⟩
    · rw [eN] at e
      exact (hf b hb).2.2.2.2.1 x c (sub e)
    · rcases List.mem_append.mp hp with z | z
      · rw [ep] at z
        exact (hf b hb).2.2.2.2.2 p z
      · rw [hP p z]
        exact (fpC b hb).2.symm
  obtain ⟨W, ⟨m0, w0⟩, step⟩ := hW
  have loop : ∀ s₃ : Shared, s₃ = { s₂ with heap := h₁, toks := s₂.toks + ([] : List (Str × Value)).length } →
      codeAny (model X.prog X.w) X.A (.compLoop (.ListComp elt [⟨tg, iter, ifs, 0⟩] scope pos) 0 (.ref it) (.ref D) (compEnvC scope (clOf X.env.cells scope.names []) C X.env)) (RR (.ref D) C) s₃ := by
    rintro s₃ rfl
    refine compLoop_any (fun n s' => ∃ i ys us k σ' H', Inv X' [] σ' H' s' ∧ tn i s'.heap ∧ (∀ b ∈ fp, H' b = none) ∧ H' D = none ∧ s'.heap.get? D = some { cls := .type "list", data := .seq (List.toArray us) k } ∧ Vals ys us ∧ W i n ys σ' H') ?_ m0
      ⟨0, [], [], _, _, _, I0, T.keep _ _ _ st fun b _ o e => old b o e, fun b hb => (hf b hb).1, fresh _ (Nat.le_refl _), hacc, .nil, w0⟩
    rintro n s3 ⟨i, ys, us, k, σ3, H3, I3, st3, fr3, nD3, oD3, rv3, w3⟩
    obtain ⟨hsz, cases3⟩ := step i n ys σ3 H3 w3
    have I3' : Inv X' [(D, { cls := .type "list", data := .seq us.toArray k })] σ3 H3 s3 := I3.pins_of fun p hp => by
      rw [List.mem_singleton.mp hp]
      exact ⟨oD3, nD3, by rw [eL]; exact hDC, by rw [ef]; exact nstk _ (Nat.le_refl _), fun v z => by cases z⟩
    have oneD : ∀ p ∈ [(D, ({ cls := .type "list", data := .seq us.toArray k } : Obj))], p.1 = D := fun p hp => by rw [List.mem_singleton.mp hp]
    rcases cases3 with ⟨stop, fin⟩ | ⟨go, turn⟩
    · -- the end
      have hd := T.done X' eP ew eK ec i _ s3 σ3 H3 (fun _ _ => False) I3' (fpk oneD fr3) st3 stop
      rw [eA] at hd
      refine thn hd fun r s4 ⟨hr, I4⟩ => ?_
      subst hr
      have pD := I4.pin (D, { cls := .type "list", data := .seq us.toArray k }) (List.mem_append_right _ (List.mem_singleton.mpr rfl))
      obtain ⟨mC, hnC, _⟩ := I4.loc
      rw [eL] at hnC
      have un4 := I4.base
      rw [eS, eH, ef, ex] at un4
      have hlen : ys.length ≤ sizeLine := Nat.le_of_lt hsz
      have hok4 : HOk X.prog X.w (upd H3 D (.lst ys)) s4.heap := fun b u e => by
        by_cases hb : b = D
        · subst hb
          rw [upd_same] at e
          cases e
          exact ⟨hlen, us, k, rv3, pD.1⟩
        · rw [upd_ne hb] at e
          have z := I4.hok b u e
          rw [eP, ew] at z
          exact z.stay (fun c v _ q => q) (fun c q => by rw [upd_ne (ne_of_none q nD3)]; exact q) fun c xs q => by rw [upd_ne (ne_of_none q nD3)]; exact q
      have un : Un (frs X.stack) fp H₂ (upd H3 D (.lst ys)) s₂.heap s4.heap := ⟨un4.keep, un4.slot, fun b o e n hx => by rw [upd_ne (belowO e).2]; exact un4.free b o e n hx, un4.there,
        fun b xs e => by
          have z := un4.tups b xs e
          rw [upd_ne (ne_of_none z nD3)]; exact z,
        fun b o u e => by
          have z := un4.frzs b o u e
          rw [upd_ne (ne_of_none z nD3)]; exact z,
        fun b ps e => by
          obtain ⟨mo, z⟩ := un4.tbls b ps e
          exact ⟨mo, by rw [upd_ne (ne_of_none z nD3)]; exact z⟩⟩
      have J4 : Inv X pins σ (upd H3 D (.lst ys)) s4 := I₂.call' (ch := fp) (by have := I4.os; rw [eS] at this; exact this) un hok4 I4.bare fun b hb => by
        obtain ⟨_, f1, f2, f3, f4, f5⟩ := hf b hb
        exact ⟨f3, f1, f4, f5⟩
      refine hRR D C s4 ys H3 mC fin nD3 J4 hnC ⟨?_, ?_, ?_, .inr ?_, ?_, ?_⟩
      · rw [upd_ne hDC.symm]
        have := I4.free
        rw [eL] at this
        exact this
      · have := I₂.lt
        rw [hDD] at this
        exact Nat.ne_of_gt (Nat.lt_of_lt_of_le this (by rw [hC]; exact Nat.le_succ _))
      · intro z
        obtain ⟨_, o, ho, _⟩ := I₂.funs.mem z
        exact (belowO ho).1 rfl
      · have := I₂.sz
        rw [hDD] at this
        omega
      · intro x c e z
        obtain ⟨o, ho⟩ := cellO e
        exact (belowO ho).1 z
      · intro p hp z
        exact (belowO (I₂.pin p hp).1).1 z
    · -- a turn
      have hd := T.item X' eP ew eK ec i _ s3 σ3 H3 (fun _ _ => False) I3' (fpk oneD fr3) st3 go
      rw [eA] at hd
      refine thn hd fun r s4 ⟨u, hr, h4⟩ => ?_
      subst hr
      refine thn h4 fun _ s5 ⟨x, H5, I5, r5, y5, st5, fr5⟩ => ?_
      have I5' := I5.pinned (fpk oneD fr5) (T.obj _ _ st5)
      have hg' := hg _ s5 σ3 H5 x u _ I5' r5 (turn x H5 y5)
      rw [eP, ew, eA, eE, eN] at hg'
      refine thn hg' fun _ s6 ⟨σ6, H6, I6, q6⟩ => ?_
      have ht' := ht _ s6 σ6 H6 _ I6 q6
      rw [eP, ew, eA, eE, eN] at ht'
      refine thn ht' fun okb s7 ⟨H7, I7, q7⟩ => ?_
      have back : ∀ {H8 : Hp} {s8 : Shared}, Inv X' ([(D, ({ cls := .type "list", data := .seq us.toArray k } : Obj))] ++ pinsAt fp s5.heap) σ6 H8 s8 →
          Inv X' [] σ6 H8 s8 ∧ tn (i + 1) s8.heap ∧ (∀ b ∈ fp, H8 b = none) ∧ H8 D = none ∧ s8.heap.get? D = some { cls := .type "list", data := .seq us.toArray k } ∧ (∀ b ∈ fp, ∀ o, s5.heap.get? b = some o → s8.heap.get? b = some o) := fun {H8 s8} I8 => by
        have pD := I8.pin (D, { cls := .type "list", data := .seq us.toArray k }) (List.mem_append_right _ (List.mem_append_left _ (List.mem_singleton.mpr rfl)))
        have pf : ∀ b ∈ fp, ∀ o, s5.heap.get? b = some o → s8.heap.get? b = some o := fun b hb o e => (I8.pin (b, o) (List.mem_append_right _ (List.mem_append_right _ (mem_pinsAt hb e)))).1
        refine ⟨I8.pins_of fun p hp => absurd hp (by simp), T.keep _ _ _ st5 pf, fun b hb => ?_, pD.2.1, pD.1, pf⟩
        obtain ⟨o, e, d⟩ := T.obj _ _ st5 b hb
        exact (I8.pin (b, o) (List.mem_append_right _ (List.mem_append_right _ (mem_pinsAt hb e)))).2.1
      cases okb with
      | false =>
        obtain ⟨b1, b2, b3, b4, b5, _⟩ := back I7
        obtain ⟨m', hm, w7⟩ := q7
        exact ⟨m', hm, i + 1, ys, us, k, σ6, H7, b1, b2, b3, b4, b5, rv3, w7⟩
      | true =>
        have he' := he _ s7 σ6 H7 _ I7 q7
        rw [eP, ew, eA, eE, eN] at he'
        show wpAny _ _ (eval elt _) _ _ s7
        refine thn he' fun xv s8 ⟨y, H8, I8, r8, m', hm, w8⟩ => ?_
        obtain ⟨b1, b2, b3, b4, b5, b6⟩ := back I8
        refine append_at (hsz := by rw [List.size_toArray, ← rv3.length]; exact Nat.le_of_lt hsz) b5 fun h9 hs9 hD9 => ?_
        have I9 : Inv X' [] σ6 H8 { s8 with heap := h9 } := b1.turned (t' := s8.toks) (fun b o hb e => hs9.extBut b o hb e) b4 (by rw [eL]; exact hDC) (.inr (by rw [eS, hDD]; exact Nat.le_refl _)) cellD fun p hp => by
          rw [List.append_nil] at hp
          exact pnD p hp
        refine ⟨m', hm, i + 1, ys ++ [y], us ++ [xv], k + 1, σ6, H8, I9, T.keep _ _ _ b2 fun b hb o e => hs9.extBut b o (fpC b hb).2 e, b3, b4, ?_, rv3.append (.cons r8 .nil), w8⟩
        show h9.get? D = _
        rw [hD9, List.push_toArray]
  refine codeAny_compStart_list (loop _ rfl) ?_
  exact T.self _ 0 _ _ _ (T.keep _ _ _ st fun b _ o e => old b o e) (loop _ rfl)

/-! ### the two rules: a comprehension as a value, and straight into a name -/
def tComp (wi : TI) (src : List (Option Nat)) (g : TG) (tt : TT) (te : TE) : TE := fun σ H Q => wi σ H fun J H1 => CompW J g tt te (fun ys H' => ∀ D, H' D = none → Q (.ref D) (upd H' D (.lst ys))) (capσ σ src) H1
section
variable {X : Cx} {tg iter elt : Expr} {ifs : List Expr} {scope : Scope} {pos : Pos} {Nc : List Str} {wi : TI} {g : TG} {tt : TT} {te : TE}
theorem pe_comp (Nc : List Str) (src : List (Option Nat)) (hc : X.calm = true) (hi : PI X tg iter wi)
    (hb : ∀ C fp pins s₂ H₂, PG (cxC X scope Nc C fp pins s₂ H₂) tg g ∧ PTs (cxC X scope Nc C fp pins s₂ H₂) ifs tt ∧ PE (cxC X scope Nc C fp pins s₂ H₂) elt te)
    (hcaps : ∀ C, Caps X (compEnvC scope (clOf X.env.cells scope.names []) C X.env) Nc src) (S : CScope X scope)
    (hs : ∀ x, foldedSetIterable iter X.env x = pure x := by intro _; rfl) : PE X (.ListComp elt [⟨tg, iter, ifs, 0⟩] scope pos) (tComp wi src g tt te) := by
  intro pins s σ H Q I h
  rw [eval_ListComp]
  refine wpAny_comprehension_free (use := none) rfl hs (clos_eq S.hfree) S.kind S.hnames ?_
  refine thn (hi pins s σ H _ I h) fun v s1 h1 => thn h1 fun itv s2 h2 => ?_
  obtain ⟨it, fp, tn, J, H2, e, I2, T, st2, f2, hW⟩ := h2
  subst e
  refine comp_core (RR := fun acc C => compPost (model X.prog X.w) X.A X.xe none (EP X pins σ Q) acc C) hc S hcaps hb I2 T st2 f2 hW ?_
  intro D C s' ys H' m fin nD J' hn fC
  obtain ⟨f0, f1, _, f3, f4, f5⟩ := fC
  refine ⟨m, hn, fun h'' hs'' => ?_⟩
  exact ⟨.ref D, _, J'.turned (t' := s'.toks) (fun b o hb e => hs''.extBut b o hb e) f0 f1 f3 f4 f5, rfl, fin D nD⟩
def tCompS (wi : TI) (src : List (Option Nat)) (g : TG) (tt : TT) (te : TE) (i : Nat) : TS := fun D σ H => tComp wi src g tt te σ H fun v H' => D.nx (σ.set i (some v)) H'
theorem ps_comp {i : Nat} {x : Str} {pos' spos : Pos} (Nc : List Str) (src : List (Option Nat)) (hc : X.calm = true) (hN : X.N.Nodup) (hi' : X.N[i]? = some x) (hx : Loc X.env.scope x) (hi : PI X tg iter wi)
    (hb : ∀ C fp pins s₂ H₂, PG (cxC X scope Nc C fp pins s₂ H₂) tg g ∧ PTs (cxC X scope Nc C fp pins s₂ H₂) ifs tt ∧ PE (cxC X scope Nc C fp pins s₂ H₂) elt te)
    (hcaps : ∀ C, Caps X (compEnvC scope (clOf X.env.cells scope.names []) C X.env) Nc src) (S : CScope X scope)
    (hsw : swapsWith (.ListComp elt [⟨tg, iter, ifs, 0⟩] scope pos) (some (.Name x pos')) spos.line X.env = pure true := by rfl)
    (hf : X.fn x = true ∨ X.env.scope.names.lookup x = some .local := by first | exact .inl rfl | exact .inr rfl | assumption)
    (hs : ∀ x, foldedSetIterable iter X.env x = pure x := by intro _; rfl) : PS X (.Assign [.Name x pos'] (.ListComp elt [⟨tg, iter, ifs, 0⟩] scope pos) spos) (tCompS wi src g tt te i) := by
  intro pins s σ H D I h
  rw [exec_Assign_Name_used _ _ _ _ hsw]
  refine wpAny_bind (wpAny_standAt (wpAny_bind ?_))
  show wpAny _ _ (do let _ ← comprehension (.ListComp elt [⟨tg, iter, ifs, 0⟩] scope pos) scope X.env _ (newList []) false (eval iter X.env) (some (assign (.Name x pos') X.env))) _ _ s
  refine wpAny_bind (thn (wpAny_comprehension_free (use := some (assign (.Name x pos') X.env)) (Q := fun _ s' => ∃ σ' H', Inv X pins σ' H' s' ∧ D.nx σ' H') rfl hs (clos_eq S.hfree) S.kind S.hnames ?_) fun _ s' hq => wpAny_pure (wpAny_pure hq))
  refine thn (hi pins s σ H _ I h) fun v s1 h1 => thn h1 fun itv s2 h2 => ?_
  obtain ⟨it, fp, tn, J, H2, e, I2, T, st2, f2, hW⟩ := h2
  subst e
  refine comp_core (RR := fun acc C => compPost (model X.prog X.w) X.A X.xe (some (assign (.Name x pos') X.env)) (fun _ s' => ∃ σ' H', Inv X pins σ' H' s' ∧ D.nx σ' H') acc C) hc S hcaps hb I2 T st2 f2 hW ?_
  intro A C s' ys H' m fin nD J' hn fC
  obtain ⟨f0, f1, f2', f3, f4, f5⟩ := fC
  refine wpAny_assign_Name (store_ok2 J' hN hi' hx (v := .ref A) rfl (fun s'' J'' hsb => ?_) hf)
  have hn2 : ∃ m', s''.heap.Ns C m' := by
    obtain ⟨a, sb, ha⟩ := hsb
    have hne : C ≠ a := by
      rcases ha with z | z
      · rw [z]; exact f1
      · exact fun q => f4 x a z q.symm
    exact ⟨m, hn.sameBut sb hne⟩
  obtain ⟨m', hn2⟩ := hn2
  refine ⟨m', hn2, fun h'' hs'' => ?_⟩
  exact ⟨_, _, J''.turned (t' := s''.toks) (fun b o hb e => hs''.extBut b o hb e) f0 f1 f3 f4 f5, fin A nD⟩
end

/-! ### the forms one uses -/
end L2

set_option Elab.async false
set_option linter.all false
set_option maxRecDepth 100000
/-! More of the built-ins, by the hand layer's judgements. -/
namespace L2
open PySem PySem.Spec PyProof.Rows
section
variable {X : Cx}
/-! ### isinstance of one class -/
theorem call_isinst : CallR X (.builtin "isinstance") (fun xs H Q => ∃ x t n b, xs = [x, .ty n] ∧ TyOf X.K H x t ∧ PySem.W.kitOne X.K t (.type n) = some b ∧ Q (.bl b) H) := by
  intro pins s σ H xs us Q I r h
  obtain ⟨x, t, n, b, rfl, ty, e, q⟩ := h
  obtain ⟨u, c, rfl, ru, rc⟩ := vals2 r
  obtain rfl : c = Value.type n := rc
  exact isinst_ok I ru ty e fun tk => ⟨.bl b, H, I.tok _, rfl, q⟩
/-! ### all of a list of truths -/
theorem truth_bools {prog : Program} {w : World} {A : Around} (bs : List Bool) : TruthOf prog w A (fun i v => ∃ b, bs[i]? = some b ∧ v = Value.bool b) (fun i => (bs[i]?).getD false) := by
  intro i v s Q E hP hQ
  obtain ⟨b, hb, rfl⟩ := hP
  dsimp only at hQ
  rw [hb] at hQ
  exact wpAny_truthy_bool hQ
theorem all_range (bs : List Bool) : (List.range bs.length).all (fun i => (bs[i]?).getD false) = bs.all id := by
  apply Bool.eq_iff_iff.mpr
  rw [List.all_eq_true, List.all_eq_true]
  constructor
  · intro h b hb
    obtain ⟨i, hi, e⟩ := List.getElem_of_mem hb
    have := h i (List.mem_range.mpr hi)
    rw [List.getElem?_eq_getElem hi, e] at this
    exact this
  · intro h i hi
    have hi := List.mem_range.mp hi
    rw [List.getElem?_eq_getElem hi]
    exact h _ (List.getElem_mem hi)
theorem vals_bools : ∀ {bs : List Bool} {us : List Value}, Vals (bs.map V.bl) us → us = bs.map Value.bool
  | [], _, .nil => rfl
  | _ :: bs, _, .cons r t => by
    rw [vals_bools (bs := bs) t, show _ = Value.bool _ from r]
    rfl
theorem call_all (hc : X.calm = true) : CallR X (.builtin "all") (fun xs H Q => ∃ (p : Addr) (bs : List Bool), xs = [.ref p] ∧ SqL X.K H p (bs.map V.bl) ∧ Q (.bl (bs.all id)) H) := by
  intro pins s σ H xs us Q I r h
  obtain ⟨p, bs, rfl, hq, q⟩ := h
  obtain ⟨u, rfl, ru⟩ := vals1 r
  cases ru
  obtain ⟨its, rv, pl, hz⟩ := I.list hq
  have ei := vals_bools rv
  subst ei
  have hlt : p < s.heap.objs.size := by obtain ⟨_, e, _⟩ := pl.isList; exact Heap.lt_size e
  refine call_all_walk (wpAny_pyIter_list pl.isList ?_)
  have W := Walks.list (prog := X.prog) (w := X.w) (A := X.A.in1) (I.ok.hd hc) s.heap.objs.size p (Nat.ne_of_lt hlt) (bs.map Value.bool).toArray
  refine ⟨_, _, _, _, _, _, _, rfl, { sub := W.sub, frame := W.frame, item := fun i s Q E hi st hQ => W.item i s Q E hi st fun v h' tk hP => hQ v h' tk ?_, done := W.done, self := W.self }, ⟨⟨_, Heap.get?_push_size _ rfl, rfl, rfl⟩, pl.isList.push _⟩, truth_bools bs, fun h' tk k => ?_⟩
  · have hP' : (bs.map Value.bool).toArray[i]? = some v := hP
    rw [List.getElem?_toArray, List.getElem?_map] at hP'
    cases e : bs[i]? with
    | none => rw [e] at hP'; cases hP'
    | some b => rw [e] at hP'; exact ⟨b, rfl, (Option.some.inj hP').symm⟩
  · have hsz : (bs.map Value.bool).toArray.size = bs.length := by simp
    rw [hsz, all_range]
    refine ⟨.bl _, H, ?_, rfl, q⟩
    refine I.kept (h' := h') (t' := tk) fun b o e => k b o ?_ (Heap.get?_push_of_some _ e)
    intro z
    have : b = s.heap.objs.size := by simpa using z
    exact absurd (Heap.lt_size e) (by rw [this]; exact Nat.lt_irrefl _)
end
/-! ### classes of built-in things -/
theorem kit_NoneType_int {K : PySem.W.Frag} : PySem.W.kitOne K (.type "NoneType") (.type "int") = some false := by kernel_rfl
theorem kit_NoneType_bool {K : PySem.W.Frag} : PySem.W.kitOne K (.type "NoneType") (.type "bool") = some false := by kernel_rfl
theorem kit_NoneType_tuple {K : PySem.W.Frag} : PySem.W.kitOne K (.type "NoneType") (.type "tuple") = some false := by kernel_rfl
theorem kit_bool_int {K : PySem.W.Frag} : PySem.W.kitOne K (.type "bool") (.type "int") = some true := by kernel_rfl
theorem kit_bool_bool {K : PySem.W.Frag} : PySem.W.kitOne K (.type "bool") (.type "bool") = some true := by kernel_rfl
theorem kit_bool_tuple {K : PySem.W.Frag} : PySem.W.kitOne K (.type "bool") (.type "tuple") = some false := by kernel_rfl
theorem kit_int_int {K : PySem.W.Frag} : PySem.W.kitOne K (.type "int") (.type "int") = some true := by kernel_rfl
theorem kit_int_bool {K : PySem.W.Frag} : PySem.W.kitOne K (.type "int") (.type "bool") = some false := by kernel_rfl
theorem kit_int_tuple {K : PySem.W.Frag} : PySem.W.kitOne K (.type "int") (.type "tuple") = some false := by kernel_rfl
theorem kit_str_int {K : PySem.W.Frag} : PySem.W.kitOne K (.type "str") (.type "int") = some false := by kernel_rfl
theorem kit_str_bool {K : PySem.W.Frag} : PySem.W.kitOne K (.type "str") (.type "bool") = some false := by kernel_rfl
theorem kit_str_tuple {K : PySem.W.Frag} : PySem.W.kitOne K (.type "str") (.type "tuple") = some false := by kernel_rfl
theorem kit_list_int {K : PySem.W.Frag} : PySem.W.kitOne K (.type "list") (.type "int") = some false := by kernel_rfl
theorem kit_list_bool {K : PySem.W.Frag} : PySem.W.kitOne K (.type "list") (.type "bool") = some false := by kernel_rfl
theorem kit_list_tuple {K : PySem.W.Frag} : PySem.W.kitOne K (.type "list") (.type "tuple") = some false := by kernel_rfl
theorem kit_tuple_int {K : PySem.W.Frag} : PySem.W.kitOne K (.type "tuple") (.type "int") = some false := by kernel_rfl
theorem kit_tuple_bool {K : PySem.W.Frag} : PySem.W.kitOne K (.type "tuple") (.type "bool") = some false := by kernel_rfl
theorem kit_tuple_tuple {K : PySem.W.Frag} : PySem.W.kitOne K (.type "tuple") (.type "tuple") = some true := by kernel_rfl
theorem kit_dict_int {K : PySem.W.Frag} : PySem.W.kitOne K (.type "dict") (.type "int") = some false := by kernel_rfl
theorem kit_dict_bool {K : PySem.W.Frag} : PySem.W.kitOne K (.type "dict") (.type "bool") = some false := by kernel_rfl
theorem kit_dict_tuple {K : PySem.W.Frag} : PySem.W.kitOne K (.type "dict") (.type "tuple") = some false := by kernel_rfl
end L2

set_option Elab.async false
set_option linter.all false
set_option maxRecDepth 100000
namespace L2
open PySem PySem.Spec PyProof.Rows

/-! ### lists of pairs as tables -/
section
variable {κ : Type} [DecidableEq κ]
/-- in its place, or at the end -/
def putK (kvs : List (κ × V)) (k : κ) (v : V) : List (κ × V) :=
  if (kvs.any fun kv => decide (kv.1 = k)) = true then kvs.map (fun kv => if kv.1 = k then (kv.1, v) else kv) else kvs ++ [(k, v)]

theorem length_putK (kvs : List (κ × V)) (k : κ) (v : V) : (putK kvs k v).length ≤ kvs.length + 1 := by
  unfold putK
  split
  · rw [List.length_map]; omega
  · rw [List.length_append, List.length_cons, List.length_nil]; omega


theorem KV.any {kvs : List (κ × V)} {vs : List (κ × Value)} (r : KV kvs vs) (k : κ) : (kvs.any fun kv => decide (kv.1 = k)) = vs.any fun kv => decide (kv.1 = k) := by
  unfold KV at r
  induction r with
  | nil => rfl
  | cons h t ih => rw [List.any_cons, List.any_cons, ih, h.1]
theorem KV.repl {kvs : List (κ × V)} {vs : List (κ × Value)} (r : KV kvs vs) (k : κ) {y : V} {u : Value} (ry : RelV y u) :
    KV (kvs.map fun kv => if kv.1 = k then (kv.1, y) else kv) (vs.map fun kv => if kv.1 = k then (kv.1, u) else kv) := by
  unfold KV at r ⊢
  induction r with
  | nil => exact .nil
  | @cons p q ps qs h t ih =>
    rw [List.map_cons, List.map_cons]
    refine .cons ?_ ih
    obtain ⟨h1, h2⟩ := h
    by_cases e : p.1 = k
    · rw [if_pos e, if_pos (h1.symm.trans e)]; exact ⟨h1, ry⟩
    · rw [if_neg e, if_neg (fun z => e (h1.trans z))]; exact ⟨h1, h2⟩
theorem KV.put {kvs : List (κ × V)} {vs : List (κ × Value)} (r : KV kvs vs) (k : κ) {y : V} {u : Value} (ry : RelV y u) : KV (putK kvs k y) (stored vs k u) := by
  unfold putK stored
  rw [r.any k]
  by_cases e : (vs.any fun kv => decide (kv.1 = k)) = true
  · rw [if_pos e, if_pos e]; exact r.repl k ry
  · rw [if_neg e, if_neg e]; exact Paired.snoc r ⟨rfl, ry⟩
end


/-! ### a tracked dict, its keys ints and texts or tuples of these -/
theorem kV_is {P : Program} {w : World} {k : Key} {u : Value} (r : RelV (kV k) u) : (mixKind P w).is k u = true := by
  cases k with
  | inl i => obtain ⟨t, e⟩ := (show ∃ t, u = Value.int i t from r); subst e; exact mixKind_int P w i t
  | inr x => obtain ⟨t, e⟩ := (show ∃ t, u = Value.str x t from r); subst e; exact mixKind_str P w x t


section
variable {P : Program} {w : World} {H : Hp} {h : Heap} {a : Addr}
end



section
variable {X : Cx} {pins : List (Addr × Obj)} {σ : St} {H : Hp} {s : Shared} {a : Addr} {y v : V} {u r : Value} {o : Option V} {A : Around} {E : Value → Shared → Prop}

theorem Inv.big (I : Inv X pins σ H s) : sysModules < s.heap.objs.size := by
  have h : mainGlobals < s.heap.objs.size := (I.mod.glob.keeps I.bk).lt
  exact Nat.lt_trans (by decide) h

theorem dk_new {P : Program} {w : World} {H' : Hp} {h' : Heap} {kvs : List (Key × V)} {vs : List (Key × Value)} (z : kvs.length ≤ sizeLine) (hd : (a == sysModules) = false) (rel : KV kvs vs) (dd : h'.DictOf (mixKind P w) a vs) :
    ObjOk P w H' h' a (.dK kvs) := ⟨z, hd, vs, rel, dd⟩
end

section
variable {X : Cx} {pins : List (Addr × Obj)} {σ : St} {H : Hp} {s : Shared} {a : Addr} {kvs : List (Key × V)} {k : Key} {u : Value} {A : Around} {E : Value → Shared → Prop}
end


/-! ### readings and rules -/



section
variable {X : Cx} {o i e value : Expr} {pos pos' tpos : Pos} {td ty tv : TE}
end


/-! ### displays -/
section
variable {X : Cx} {pos : Pos}
end


def mergeK (kvs more : List (Key × V)) : List (Key × V) := more.foldl (fun acc kv => putK acc kv.1 kv.2) kvs
theorem length_mergeK : ∀ (more kvs : List (Key × V)), (mergeK kvs more).length ≤ kvs.length + more.length
  | [], kvs => by show kvs.length ≤ kvs.length + 0; omega
  | p :: r, kvs => by
    have h1 := length_mergeK r (putK kvs p.1 p.2)
    have h2 := length_putK kvs p.1 p.2
    show (mergeK (putK kvs p.1 p.2) r).length ≤ _
    rw [List.length_cons]; omega


/-! ### methods -/


section
variable {X : Cx} {pins : List (Addr × Obj)} {σ : St} {H : Hp} {s : Shared} {a : Addr} {y d : V} {u r : Value} {o : Option V} {A : Around} {E : Value → Shared → Prop}
end

section
variable {X : Cx} {o e f : Expr} {apos cpos : Pos} {td ty tx : TE}
end

/-! ### dict(d): a copy -/
section
variable {X : Cx} {pins : List (Addr × Obj)} {σ : St} {H : Hp} {s : Shared} {a : Addr} {kvs : List (Key × V)} {A : Around} {E : Value → Shared → Prop}
end


section
variable {X : Cx} {pins : List (Addr × Obj)} {σ : St} {H : Hp} {s : Shared} {a : Addr} {y : V} {u : Value} {A : Around} {E : Value → Shared → Prop}
end
end L2


set_option Elab.async false
set_option linter.all false
set_option maxRecDepth 100000
/-! Things: trees of tuples, lists, small dicts, numbers, truths, texts, as they lie in the abstract heap; their repr. -/
namespace L2
open PySem PySem.Spec PyProof.Rows
/-- a key as a thing -/
def keyD : Key → PyData
  | .inl i => .int i
  | .inr x => .str x
mutual
/-- v is the thing d; its lists and dicts stand at addresses of S -/
inductive IsTh (S : Addr → Prop) (H : Hp) : V → PyData → Prop
  | non : IsTh S H .non .none
  | bl (b : Bool) : IsTh S H (.bl b) (.bool b)
  | int (i : Int) : IsTh S H (.int i) (.int i)
  | str (x : Str) : IsTh S H (.str x) (.str x)
  | lst {a : Addr} {xs : List V} {ds : List PyData} (hs : S a) (e : H a = some (.lst xs)) (r : IsThs S H xs ds) : IsTh S H (.ref a) (.list ds)
  | tup {a : Addr} {xs : List V} {ds : List PyData} (e : H a = some (.tup xs)) (r : IsThs S H xs ds) : IsTh S H (.ref a) (.tuple ds)
  | dct {a : Addr} {ks : List (Key × Int)} (hs : S a) (e : H a = some (.dK (ks.map fun p => (p.1, V.int p.2)))) : IsTh S H (.ref a) (.dict (ks.map fun p => (keyD p.1, .int p.2)))
inductive IsThs (S : Addr → Prop) (H : Hp) : List V → List PyData → Prop
  | nil : IsThs S H [] []
  | cons {v : V} {d : PyData} {vs : List V} {ds : List PyData} (h : IsTh S H v d) (t : IsThs S H vs ds) : IsThs S H (v :: vs) (d :: ds)
end
section
variable {S S' : Addr → Prop} {H H' : Hp}
theorem IsThs.length : ∀ {vs : List V} {ds : List PyData}, IsThs S H vs ds → vs.length = ds.length
  | _, _, .nil => rfl
  | _, _, .cons _ t => by rw [List.length_cons, List.length_cons, IsThs.length t]
theorem IsThs.get : ∀ {vs : List V} {ds : List PyData} {i : Nat} {v : V}, IsThs S H vs ds → vs[i]? = some v → ∃ d, ds[i]? = some d ∧ IsTh S H v d
  | _, _, _, _, .nil, e => by simp at e
  | _, _, 0, _, .cons h _, e => by simp at e; subst e; exact ⟨_, rfl, h⟩
  | _, _, i + 1, v, .cons _ t, e => by
    obtain ⟨d, h1, h2⟩ := IsThs.get (i := i) (v := v) t (by simpa using e)
    exact ⟨d, by simpa using h1, h2⟩
theorem IsThs.append : ∀ {vs ws : List V} {ds es : List PyData}, IsThs S H vs ds → IsThs S H ws es → IsThs S H (vs ++ ws) (ds ++ es)
  | _, _, _, _, .nil, s => s
  | _, _, _, _, .cons h t, s => .cons h (IsThs.append t s)
theorem IsThs.ints : ∀ (ns : List Int), IsThs S H (ns.map V.int) (ns.map PyData.int)
  | [] => .nil
  | n :: ns => .cons (.int n) (IsThs.ints ns)
/-! what a thing leans on: its tuples, and its lists and dicts at addresses of S -/
mutual
theorem IsTh.keep (ht : ∀ b xs, H b = some (.tup xs) → H' b = some (.tup xs)) (hs : ∀ b o, S b → H b = some o → H' b = some o) (hS : ∀ b o, S b → H b = some o → S' b) : ∀ {v : V} {d : PyData}, IsTh S H v d → IsTh S' H' v d
  | _, _, .non => .non
  | _, _, .bl b => .bl b
  | _, _, .int i => .int i
  | _, _, .str x => .str x
  | _, _, .lst s e r => .lst (hS _ _ s e) (hs _ _ s e) (IsThs.keep ht hs hS r)
  | _, _, .tup e r => .tup (ht _ _ e) (IsThs.keep ht hs hS r)
  | _, _, .dct s e => .dct (hS _ _ s e) (hs _ _ s e)
theorem IsThs.keep (ht : ∀ b xs, H b = some (.tup xs) → H' b = some (.tup xs)) (hs : ∀ b o, S b → H b = some o → H' b = some o) (hS : ∀ b o, S b → H b = some o → S' b) : ∀ {vs : List V} {ds : List PyData}, IsThs S H vs ds → IsThs S' H' vs ds
  | _, _, .nil => .nil
  | _, _, .cons h t => .cons (IsTh.keep ht hs hS h) (IsThs.keep ht hs hS t)
end
/-- the type of a thing -/
def tyD : PyData → String
  | .none => "NoneType"
  | .bool _ => "bool"
  | .int _ => "int"
  | .str _ => "str"
  | .list _ => "list"
  | .tuple _ => "tuple"
  | .dict _ => "dict"
theorem IsTh.ty {K : PySem.W.Frag} {v : V} {d : PyData} (h : IsTh S H v d) : TyOf K H v (.type (tyD d)) := by
  cases h with
  | non => exact .non
  | bl b => exact .bl b
  | int i => exact .int i
  | str x => exact .str x
  | lst s e r => exact .lst e
  | tup e r => exact .tup e
  | dct s e => exact .dK e
def isIntD : PyData → Bool
  | .int _ => true
  | .bool _ => true
  | _ => false
def isBoolD : PyData → Bool
  | .bool _ => true
  | _ => false
def isTupD : PyData → Bool
  | .tuple _ => true
  | _ => false
theorem kit_int {K : PySem.W.Frag} (d : PyData) : PySem.W.kitOne K (.type (tyD d)) (.type "int") = some (isIntD d) := by
  cases d
  · exact kit_NoneType_int
  · exact kit_bool_int
  · exact kit_int_int
  · exact kit_str_int
  · exact kit_list_int
  · exact kit_tuple_int
  · exact kit_dict_int
theorem kit_bool {K : PySem.W.Frag} (d : PyData) : PySem.W.kitOne K (.type (tyD d)) (.type "bool") = some (isBoolD d) := by
  cases d
  · exact kit_NoneType_bool
  · exact kit_bool_bool
  · exact kit_int_bool
  · exact kit_str_bool
  · exact kit_list_bool
  · exact kit_tuple_bool
  · exact kit_dict_bool
theorem kit_tup {K : PySem.W.Frag} (d : PyData) : PySem.W.kitOne K (.type (tyD d)) (.type "tuple") = some (isTupD d) := by
  cases d
  · exact kit_NoneType_tuple
  · exact kit_bool_tuple
  · exact kit_int_tuple
  · exact kit_str_tuple
  · exact kit_list_tuple
  · exact kit_tuple_tuple
  · exact kit_dict_tuple
end
/-! ### how long a thing's text may be -/
mutual
def sz : PyData → Nat
  | .none => 1
  | .bool _ => 1
  | .int _ => 1
  | .str _ => 1
  | .list xs => 1 + szs xs
  | .tuple xs => 1 + szs xs
  | .dict kvs => 1 + 4 * kvs.length
def szs : List PyData → Nat
  | [] => 0
  | x :: xs => sz x + szs xs
end
mutual
def tame : PyData → Bool
  | .none => true
  | .bool _ => true
  | .int i => decide (i.natAbs < 2 ^ 128)
  | .str x => decide (x.length ≤ 10) && x.cps.toList.all fun c => decide (c < 16 ^ 8)
  | .list xs => tames xs
  | .tuple xs => tames xs
  | .dict kvs => tameKv kvs
def tames : List PyData → Bool
  | [] => true
  | x :: xs => tame x && tames xs
def tameKv : List (PyData × PyData) → Bool
  | [] => true
  | (.int i, .int j) :: r => decide (i.natAbs < 2 ^ 128) && decide (j.natAbs < 2 ^ 128) && tameKv r
  | (.str x, .int j) :: r => (decide (x.length ≤ 10) && x.cps.toList.all fun c => decide (c < 16 ^ 8)) && decide (j.natAbs < 2 ^ 128) && tameKv r
  | _ :: _ => false
end
theorem int_len {i : Int} (h : i.natAbs < 2 ^ 128) : (Str.ofString (toString i)).length ≤ 130 := by
  have e := int_text_length_le (a := i) (k := 128) (by decide) (by
    by_cases h0 : i.natAbs = 0
    · rw [h0]; decide
    · exact (Nat.log2_lt h0).mpr h)
  rw [PySem.ofString_length]
  omega
theorem textFrom_le : ∀ (ts : List Str) (k : Nat) (acc : Str), (textFrom k acc ts).length ≤ acc.length + piled ts
  | [], k, acc => by show acc.length ≤ acc.length + 0; omega
  | t :: r, k, acc => by
    have h := textFrom_le r (k + 1) (acc ++ (if k > 0 then ", " else "" : String) ++ t)
    have e : (acc ++ (if k > 0 then ", " else "" : String) ++ t).length ≤ acc.length + 2 + t.length := by
      rw [strLen_append, strLen_append]
      split
      · show acc.length + 2 + t.length ≤ _
        omega
      · show acc.length + 0 + t.length ≤ _
        omega
    rw [piled_cons]
    show (textFrom (k + 1) _ r).length ≤ _
    omega
theorem listText_le (ts : List Str) : (listText ts).length ≤ piled ts + 2 := by
  have h := textFrom_le ts 0 "["
  unfold listText
  rw [strLen_append]
  have e1 : (("[" : Str)).length = 1 := rfl
  have e2 : (("]" : Str)).length = 1 := rfl
  omega
theorem join_le (ts : List Str) : (Str.join ", " ts).length ≤ piled ts := by
  by_cases h : ts = []
  · subst h
    show 0 ≤ _
    omega
  · have := join_length_add ts h
    omega
theorem tupleText_le (ts : List Str) : (tupleText ts).length ≤ piled ts + 3 := by
  have h := join_le ts
  unfold tupleText
  rw [strLen_append, strLen_append]
  have e1 : (("(" : Str)).length = 1 := rfl
  have e2 : ((if ts.length == 1 then ",)" else ")" : String) : Str).length ≤ 2 := by
    split
    · exact Nat.le_refl 2
    · exact Nat.le_succ 1
  omega
theorem dictText_le (ts : List Str) : (dictText ts).length ≤ piled ts + 2 := by
  have h := join_le ts
  unfold dictText
  rw [strLen_append, strLen_append]
  have e1 : (("{" : Str)).length = 1 := rfl
  have e2 : (("}" : Str)).length = 1 := rfl
  omega
theorem shownKv_le : ∀ (kvs : List (PyData × PyData)), tameKv kvs = true → piled (PyData.shownKv kvs) ≤ 400 * kvs.length
  | [], _ => by show 0 ≤ _; omega
  | (.int i, .int j) :: r, h => by
    have h' : (decide (i.natAbs < 2 ^ 128) && decide (j.natAbs < 2 ^ 128) && tameKv r) = true := h
    simp only [Bool.and_eq_true, decide_eq_true_eq] at h'
    have h1 := int_len h'.1.1
    have h2 := int_len h'.1.2
    have h3 := shownKv_le r h'.2
    show piled ((PyData.shown (.int i) ++ ": " ++ PyData.shown (.int j)) :: PyData.shownKv r) ≤ _
    rw [piled_cons, strLen_append, strLen_append]
    have e1 : ((": " : Str)).length = 2 := rfl
    have e2 : PyData.shown (.int i) = Str.ofString (toString i) := rfl
    have e3 : PyData.shown (.int j) = Str.ofString (toString j) := rfl
    rw [e1, e2, e3, List.length_cons]
    omega
  | (.none, _) :: _, h => by simp [tameKv] at h
  | (.bool _, _) :: _, h => by simp [tameKv] at h
  | (.str x, .int j) :: r, h => by
    have h' : ((decide (x.length ≤ 10) && x.cps.toList.all fun c => decide (c < 16 ^ 8)) && decide (j.natAbs < 2 ^ 128) && tameKv r) = true := h
    rw [Bool.and_eq_true, Bool.and_eq_true, Bool.and_eq_true, decide_eq_true_eq, decide_eq_true_eq] at h'
    have h0 : x.length ≤ 10 := h'.1.1.1
    have h1 := StrLaws.reprText_len x fun c hc => by simpa using List.all_eq_true.mp h'.1.1.2 c hc
    have h2 := int_len h'.1.2
    have h3 := shownKv_le r h'.2
    show piled ((PyData.shown (.str x) ++ ": " ++ PyData.shown (.int j)) :: PyData.shownKv r) ≤ _
    rw [piled_cons, strLen_append, strLen_append]
    have e1 : ((": " : Str)).length = 2 := rfl
    have e2 : PyData.shown (.str x) = reprText x := rfl
    have e3 : PyData.shown (.int j) = Str.ofString (toString j) := rfl
    rw [e1, e2, e3, List.length_cons]
    omega
  | (.str _, .none) :: _, h => by simp [tameKv] at h
  | (.str _, .bool _) :: _, h => by simp [tameKv] at h
  | (.str _, .str _) :: _, h => by simp [tameKv] at h
  | (.str _, .list _) :: _, h => by simp [tameKv] at h
  | (.str _, .tuple _) :: _, h => by simp [tameKv] at h
  | (.str _, .dict _) :: _, h => by simp [tameKv] at h
  | (.list _, _) :: _, h => by simp [tameKv] at h
  | (.tuple _, _) :: _, h => by simp [tameKv] at h
  | (.dict _, _) :: _, h => by simp [tameKv] at h
  | (.int _, .none) :: _, h => by simp [tameKv] at h
  | (.int _, .bool _) :: _, h => by simp [tameKv] at h
  | (.int _, .str _) :: _, h => by simp [tameKv] at h
  | (.int _, .list _) :: _, h => by simp [tameKv] at h
  | (.int _, .tuple _) :: _, h => by simp [tameKv] at h
  | (.int _, .dict _) :: _, h => by simp [tameKv] at h
mutual
theorem shown_len : ∀ (d : PyData), tame d = true → d.shown.length + 2 ≤ 200 * sz d
  | .none, _ => by decide +kernel
  | .bool true, _ => by decide +kernel
  | .bool false, _ => by decide +kernel
  | .int i, h => by
    have := int_len (i := i) (by simpa [tame] using h)
    show (Str.ofString (toString i)).length + 2 ≤ 200 * 1
    omega
  | .str x, h => by
    have h' : (decide (x.length ≤ 10) && x.cps.toList.all fun c => decide (c < 16 ^ 8)) = true := h
    rw [Bool.and_eq_true] at h'
    have h1 : x.length ≤ 10 := by simpa using h'.1
    have := StrLaws.reprText_len x fun c hc => by simpa using List.all_eq_true.mp h'.2 c hc
    show (reprText x).length + 2 ≤ 200 * 1
    omega
  | .list xs, h => by
    have h1 := shownAll_len xs (by simpa [tame] using h)
    have h2 := listText_le (PyData.shownAll xs)
    show (listText (PyData.shownAll xs)).length + 2 ≤ 200 * (1 + szs xs)
    omega
  | .tuple xs, h => by
    have h1 := shownAll_len xs (by simpa [tame] using h)
    have h2 := tupleText_le (PyData.shownAll xs)
    show (tupleText (PyData.shownAll xs)).length + 2 ≤ 200 * (1 + szs xs)
    omega
  | .dict kvs, h => by
    have h1 := shownKv_le kvs (by simpa [tame] using h)
    have h2 := dictText_le (PyData.shownKv kvs)
    show (dictText (PyData.shownKv kvs)).length + 2 ≤ 200 * (1 + 4 * kvs.length)
    omega
theorem shownAll_len : ∀ (xs : List PyData), tames xs = true → piled (PyData.shownAll xs) ≤ 200 * szs xs
  | [], _ => by show 0 ≤ _; omega
  | x :: xs, h => by
    have h' : (tame x && tames xs) = true := h
    rw [Bool.and_eq_true] at h'
    have h1 := shown_len x h'.1
    have h2 := shownAll_len xs h'.2
    show piled (PyData.shown x :: PyData.shownAll xs) ≤ 200 * (sz x + szs xs)
    rw [piled_cons]
    omega
end
theorem showableKv_ok : ∀ (kvs : List (PyData × PyData)), tameKv kvs = true → PyData.showableKv kvs = true
  | [], _ => rfl
  | (.int i, .int j) :: r, h => by
    have h' : (decide (i.natAbs < 2 ^ 128) && decide (j.natAbs < 2 ^ 128) && tameKv r) = true := h
    simp only [Bool.and_eq_true, decide_eq_true_eq] at h'
    have big : ∀ {n : Int}, n.natAbs < 2 ^ 128 → n.natAbs.log2 < 1920 := fun {n} hn => by
      by_cases h0 : n.natAbs = 0
      · rw [h0]; decide
      · exact Nat.lt_trans ((Nat.log2_lt h0).mpr hn) (by decide)
    simp only [PyData.showableKv, PyData.showable, Bool.and_eq_true, decide_eq_true_eq]
    exact ⟨⟨big h'.1.1, big h'.1.2⟩, showableKv_ok r h'.2⟩
  | (.none, _) :: _, h => by simp [tameKv] at h
  | (.bool _, _) :: _, h => by simp [tameKv] at h
  | (.str x, .int j) :: r, h => by
    have h' : ((decide (x.length ≤ 10) && x.cps.toList.all fun c => decide (c < 16 ^ 8)) && decide (j.natAbs < 2 ^ 128) && tameKv r) = true := h
    rw [Bool.and_eq_true, Bool.and_eq_true, decide_eq_true_eq] at h'
    have big : ∀ {n : Int}, n.natAbs < 2 ^ 128 → n.natAbs.log2 < 1920 := fun {n} hn => by
      by_cases h0 : n.natAbs = 0
      · rw [h0]; decide
      · exact Nat.lt_trans ((Nat.log2_lt h0).mpr hn) (by decide)
    simp only [PyData.showableKv, PyData.showable, Bool.and_eq_true, decide_eq_true_eq]
    exact ⟨⟨trivial, big h'.1.2⟩, showableKv_ok r h'.2⟩
  | (.str _, .none) :: _, h => by simp [tameKv] at h
  | (.str _, .bool _) :: _, h => by simp [tameKv] at h
  | (.str _, .str _) :: _, h => by simp [tameKv] at h
  | (.str _, .list _) :: _, h => by simp [tameKv] at h
  | (.str _, .tuple _) :: _, h => by simp [tameKv] at h
  | (.str _, .dict _) :: _, h => by simp [tameKv] at h
  | (.list _, _) :: _, h => by simp [tameKv] at h
  | (.tuple _, _) :: _, h => by simp [tameKv] at h
  | (.dict _, _) :: _, h => by simp [tameKv] at h
  | (.int _, .none) :: _, h => by simp [tameKv] at h
  | (.int _, .bool _) :: _, h => by simp [tameKv] at h
  | (.int _, .str _) :: _, h => by simp [tameKv] at h
  | (.int _, .list _) :: _, h => by simp [tameKv] at h
  | (.int _, .tuple _) :: _, h => by simp [tameKv] at h
  | (.int _, .dict _) :: _, h => by simp [tameKv] at h
mutual
theorem showable_ok : ∀ (d : PyData), tame d = true → d.showable = true
  | .none, _ => rfl
  | .bool _, _ => rfl
  | .int i, h => by
    have h' : i.natAbs < 2 ^ 128 := by simpa [tame] using h
    have : i.natAbs.log2 < 1920 := by
      by_cases h0 : i.natAbs = 0
      · rw [h0]; decide
      · exact Nat.lt_trans ((Nat.log2_lt h0).mpr h') (by decide)
    simp only [PyData.showable]
    exact decide_eq_true this
  | .str _, _ => rfl
  | .list xs, h => by
    simp only [PyData.showable]
    exact showables_ok xs (by simpa [tame] using h)
  | .tuple xs, h => by
    simp only [PyData.showable]
    exact showables_ok xs (by simpa [tame] using h)
  | .dict kvs, h => by
    simp only [PyData.showable]
    exact showableKv_ok kvs (by simpa [tame] using h)
theorem showables_ok : ∀ (xs : List PyData), tames xs = true → PyData.showableAll xs = true
  | [], _ => rfl
  | x :: xs, h => by
    have h' : (tame x && tames xs) = true := h
    rw [Bool.and_eq_true] at h'
    simp only [PyData.showableAll, Bool.and_eq_true]
    exact ⟨showable_ok x h'.1, showables_ok xs h'.2⟩
end
theorem depthKv_le : ∀ (kvs : List (PyData × PyData)), tameKv kvs = true → PyData.depthKv kvs = 0
  | [], _ => rfl
  | (.int i, .int j) :: r, h => by
    have h' : (decide (i.natAbs < 2 ^ 128) && decide (j.natAbs < 2 ^ 128) && tameKv r) = true := h
    simp only [Bool.and_eq_true, decide_eq_true_eq] at h'
    simp only [PyData.depthKv, PyData.depth, depthKv_le r h'.2]
    rfl
  | (.none, _) :: _, h => by simp [tameKv] at h
  | (.bool _, _) :: _, h => by simp [tameKv] at h
  | (.str x, .int j) :: r, h => by
    have h' : ((decide (x.length ≤ 10) && x.cps.toList.all fun c => decide (c < 16 ^ 8)) && decide (j.natAbs < 2 ^ 128) && tameKv r) = true := h
    rw [Bool.and_eq_true] at h'
    simp only [PyData.depthKv, PyData.depth, depthKv_le r h'.2]
    rfl
  | (.str _, .none) :: _, h => by simp [tameKv] at h
  | (.str _, .bool _) :: _, h => by simp [tameKv] at h
  | (.str _, .str _) :: _, h => by simp [tameKv] at h
  | (.str _, .list _) :: _, h => by simp [tameKv] at h
  | (.str _, .tuple _) :: _, h => by simp [tameKv] at h
  | (.str _, .dict _) :: _, h => by simp [tameKv] at h
  | (.list _, _) :: _, h => by simp [tameKv] at h
  | (.tuple _, _) :: _, h => by simp [tameKv] at h
  | (.dict _, _) :: _, h => by simp [tameKv] at h
  | (.int _, .none) :: _, h => by simp [tameKv] at h
  | (.int _, .bool _) :: _, h => by simp [tameKv] at h
  | (.int _, .str _) :: _, h => by simp [tameKv] at h
  | (.int _, .list _) :: _, h => by simp [tameKv] at h
  | (.int _, .tuple _) :: _, h => by simp [tameKv] at h
  | (.int _, .dict _) :: _, h => by simp [tameKv] at h
mutual
theorem depth_le : ∀ (d : PyData), tame d = true → d.depth ≤ sz d
  | .none, _ => Nat.zero_le _
  | .bool _, _ => Nat.zero_le _
  | .int i, _ => Nat.zero_le _
  | .str _, _ => Nat.zero_le _
  | .list xs, h => by
    have := depths_le xs (by simpa [tame] using h)
    simp only [PyData.depth, sz]
    omega
  | .tuple xs, h => by
    have := depths_le xs (by simpa [tame] using h)
    simp only [PyData.depth, sz]
    omega
  | .dict kvs, h => by
    have := depthKv_le kvs (by simpa [tame] using h)
    simp only [PyData.depth, sz]
    omega
theorem depths_le : ∀ (xs : List PyData), tames xs = true → PyData.depthAll xs ≤ szs xs
  | [], _ => Nat.zero_le _
  | x :: xs, h => by
    have h' : (tame x && tames xs) = true := h
    rw [Bool.and_eq_true] at h'
    have h1 := depth_le x h'.1
    have h2 := depths_le xs h'.2
    simp only [PyData.depthAll, szs]
    omega
end
end L2

set_option Elab.async false
set_option linter.all false
set_option maxRecDepth 100000
/-! repr of things; insert; t * n; t == (). -/
namespace L2
open PySem PySem.Spec PyProof.Rows
section
variable {X : Cx} {pins : List (Addr × Obj)} {σ : St} {H : Hp} {s : Shared} {S : Addr → Prop}
theorem pairs_ints {P : Program} {w : World} : ∀ {ks : List (Key × Int)} {vs : List (Key × Value)} {es : List DictEntry}, KV (ks.map fun p => (p.1, V.int p.2)) vs → Pairs (mixKind P w) es vs →
    (∃ as, ReadsAll s.heap (es.map (·.key)) ((ks.map fun p => (keyD p.1, PyData.int p.2)).map (·.1)) as ∧ as = []) ∧ ∃ as, ReadsAll s.heap (es.map (·.val)) ((ks.map fun p => (keyD p.1, PyData.int p.2)).map (·.2)) as ∧ as = []
  | [], vs, es, r, p => by
    cases r
    cases p
    exact ⟨⟨_, .nil, rfl⟩, ⟨_, .nil, rfl⟩⟩
  | (k, n) :: ks, vs, es, r, p => by
    cases r with
    | @cons a b l1 l2 h t =>
      cases p with
      | @cons e kv es' kvs' h1 h2 h3 =>
        obtain ⟨⟨_, i1, rfl⟩, ⟨_, i2, rfl⟩⟩ := pairs_ints (ks := ks) t h3
        obtain ⟨q1, q2⟩ := h
        have h1' : keyIs b.1 e.key = true := h1
        rw [← q1] at h1'
        obtain ⟨tv, ev2⟩ : ∃ t, b.2 = Value.int n t := q2
        rw [ev2] at h2
        refine ⟨⟨_, ?_, rfl⟩, ⟨_, ?_, rfl⟩⟩
        · show ReadsAll s.heap (e.key :: es'.map (·.key)) (keyD k :: _) ([] ++ [])
          rcases keyIs_shape h1' with ⟨i, tk, ei, ev⟩ | ⟨x, tk, ei, ev⟩
          · have ei : k = Sum.inl i := ei
            rw [ev, ei]
            exact .cons (.int _ _) i1
          · have ei : k = Sum.inr x := ei
            rw [ev, ei]
            exact .cons (.str _ _) i1
        · show ReadsAll s.heap (e.val :: es'.map (·.val)) (PyData.int n :: _) ([] ++ [])
          rw [h2]
          exact .cons (.int _ _) i2
mutual
theorem IsTh.reads (I : Inv X pins σ H s) : ∀ {v : V} {d : PyData} {u : Value}, IsTh S H v d → RelV v u → ∃ as, Reads s.heap u d as ∧ ∀ a ∈ as, S a
  | _, _, _, .non, r => by cases (show _ = Value.none from r); exact ⟨[], .none, fun _ h => nomatch h⟩
  | _, _, _, .bl b, r => by cases (show _ = Value.bool b from r); exact ⟨[], .bool b, fun _ h => nomatch h⟩
  | _, _, _, .int i, r => by obtain ⟨t, rfl⟩ := r; exact ⟨[], .int i t, fun _ h => nomatch h⟩
  | _, _, _, .str x, r => by obtain ⟨t, rfl⟩ := r; exact ⟨[], .str x t, fun _ h => nomatch h⟩
  | _, _, _, @IsTh.lst _ _ a xs ds hs e t, r => by
    cases (show _ = Value.ref a from r)
    obtain ⟨_, its, n, rv, ho⟩ := (show ObjOk X.prog X.w H s.heap a (.lst xs) from I.hok a _ e)
    obtain ⟨as, h1, h2⟩ := IsThs.reads I t rv
    refine ⟨a :: as, .list ho rfl rfl (by simpa using h1), fun b hb => ?_⟩
    rcases List.mem_cons.mp hb with z | z
    · rw [z]; exact hs
    · exact h2 b z
  | _, _, _, @IsTh.tup _ _ a xs ds e t, r => by
    cases (show _ = Value.ref a from r)
    obtain ⟨_, its, rv, o, ho, hc, n, hd⟩ := (show ObjOk X.prog X.w H s.heap a (.tup xs) from I.hok a _ e)
    obtain ⟨as, h1, h2⟩ := IsThs.reads I t rv
    exact ⟨as, .tuple ho hc hd (by simpa using h1), h2⟩
  | _, _, _, @IsTh.dct _ _ a ks hs e, r => by
    cases (show _ = Value.ref a from r)
    obtain ⟨_, _, vs, rel, o, es, ep, ho, hx, hd, _, hp, _⟩ := (show ObjOk X.prog X.w H s.heap a (.dK _) from I.hok a _ e)
    obtain ⟨⟨_, i1, rfl⟩, ⟨_, i2, rfl⟩⟩ := pairs_ints (s := s) rel hp
    refine ⟨a :: [] ++ [], .dict ho hx.1 hd i1 i2, fun b hb => ?_⟩
    rw [show b = a by simpa using hb]
    exact hs
theorem IsThs.reads (I : Inv X pins σ H s) : ∀ {vs : List V} {ds : List PyData} {us : List Value}, IsThs S H vs ds → Vals vs us → ∃ as, ReadsAll s.heap us ds as ∧ ∀ a ∈ as, S a
  | _, _, _, .nil, r => by cases r; exact ⟨[], .nil, fun _ h => nomatch h⟩
  | _, _, _, .cons h t, r => by
    cases r with
    | cons r1 r2 =>
      obtain ⟨as, h1, h2⟩ := IsTh.reads I h r1
      obtain ⟨bs, h3, h4⟩ := IsThs.reads I t r2
      exact ⟨as ++ bs, .cons h1 h3, fun b hb => (List.mem_append.mp hb).elim (h2 b) (h4 b)⟩
end
theorem call_repr (hg : X.A.guards = some []) (hS : ¬ S sysModules) : CallR X (.builtin "repr") (fun xs H Q => ∃ v d, xs = [v] ∧ IsTh S H v d ∧ tame d = true ∧ sz d ≤ 4000 ∧ X.A.units + (sz d + 1) < cLine ∧ Q (.str d.shown) H) := by
  intro pins s σ H xs us Q I r h
  obtain ⟨v, d, rfl, th, tm, hz, hu, q⟩ := h
  obtain ⟨u, rfl, ru⟩ := vals1 r
  have hl := shown_len d tm
  have hsz : d.shown.length ≤ sizeLine := by rw [sizeLine_eq]; omega
  have fin : ∀ t h' tk, (∀ b o, s.heap.get? b = some o → h'.get? b = some o) → EP X pins σ Q (.str d.shown t) { s with heap := h', toks := tk } := fun t h' tk k => ⟨.str d.shown, H, I.kept k, ⟨t, rfl⟩, q⟩
  have show1 := showable_ok d tm
  cases th with
  | non => cases (show u = Value.none from ru); exact PySem.P.repr_of_none (fin _ s.heap _ fun _ _ e => e)
  | bl b => cases (show u = Value.bool b from ru); exact PySem.P.repr_of_bool (fin _ s.heap _ fun _ _ e => e)
  | int i =>
    obtain ⟨t, rfl⟩ := ru
    have : i.natAbs.log2 < 1920 := by simpa [PyData.showable] using show1
    exact PySem.P.repr_of_int this (fin _ s.heap _ fun _ _ e => e)
  | str x => obtain ⟨t, rfl⟩ := ru; exact PySem.P.repr_of_str (fin _ s.heap _ fun _ _ e => e) hsz
  | @lst a xs ds hs e t =>
    obtain ⟨as, rd, ha⟩ := (IsTh.lst hs e t).reads I ru
    cases (show u = Value.ref a from ru)
    exact repr_of_reads' rd show1 (fun _ hm => hS (ha _ hm)) hg (by have := depth_le _ tm; omega) (fun b o e => e) (fun h' t tk k => fin t h' tk k) hsz
  | @tup a xs ds e t =>
    obtain ⟨as, rd, ha⟩ := (IsTh.tup (S := S) e t).reads I ru
    cases (show u = Value.ref a from ru)
    exact repr_of_reads' rd show1 (fun _ hm => hS (ha _ hm)) hg (by have := depth_le _ tm; omega) (fun b o e => e) (fun h' t tk k => fin t h' tk k) hsz
  | @dct a ks hs e =>
    obtain ⟨as, rd, ha⟩ := (IsTh.dct hs e).reads I ru
    cases (show u = Value.ref a from ru)
    exact repr_of_reads' rd show1 (fun _ hm => hS (ha _ hm)) hg (by have := depth_le _ tm; omega) (fun b o e => e) (fun h' t tk k => fin t h' tk k) hsz
end
section
variable {X : Cx}
/-! ### xs.insert(i, y), i not below 0 -/
/-! ### t == () -/
end
end L2

set_option Elab.async false
set_option linter.all false
set_option maxRecDepth 100000
/-! zip of a tuple and a list, walked. -/
namespace L2
open PySem PySem.Spec PyProof.Rows
section
variable {prog : Program} {w : World} {A : Around} {E : Value → Shared → Prop} {s : Shared}

end

/-! ### zip(t, l) -/
section
variable {X : Cx}
end
end L2

set_option Elab.async false
set_option linter.all false
set_option maxRecDepth 100000
/-! Comprehensions of truths over things; lists and dicts that become things; t * n. -/
namespace L2
open PySem PySem.Spec PyProof.Rows
theorem IsTh.same {S : Addr → Prop} {H H' : Hp} {v : V} {d : PyData} (h : IsTh S H v d) (s : Same H H') : IsTh S H' v d := h.keep (fun b xs e => s b _ e) (fun b o _ e => s b o e) fun _ _ z _ => z
theorem IsThs.same {S : Addr → Prop} {H H' : Hp} {v : List V} {d : List PyData} (h : IsThs S H v d) (s : Same H H') : IsThs S H' v d := h.keep (fun b xs e => s b _ e) (fun b o _ e => s b o e) fun _ _ z _ => z
theorem Same.upd {H : Hp} {D : Addr} {o : HO} (h : H D = none) : Same H (upd H D o) := fun b u e => by rw [upd_ne (ne_of_none e h)]; exact e
theorem Same.updR {H H' : Hp} {D : Addr} {o : HO} (s : Same H H') (h : H' D = none) : Same H (L2.upd H' D o) := s.trans (Same.upd h)
/-- [f(x) for x in t]: truths -/
theorem comp_truths {K : PySem.W.Frag} {S : Addr → Prop} {te : TE} {a : Addr} {xs : List V} {ds : List PyData} (f : PyData → Bool) {σ0 : St} {j : Nat} {H0 : Hp} {Fin : List V → Hp → Prop} (hT : H0 a = some (.tup xs)) (th : IsThs S H0 xs ds) (hl : xs.length < sizeLine)
    (hte : ∀ v d H Q, d ∈ ds → Same H0 H → IsTh S H v d → (∀ H', Same H H' → Q (.bl (f d)) H') → te (σ0.set j (some v)) H Q)
    (fin : ∀ H', Same H0 H' → Fin (ds.map fun d => V.bl (f d)) H') : CompW (Itt K a) (gName j) tYes te Fin σ0 H0 := by
  have hlen := th.length
  refine ⟨fun i m ys σ H => m = xs.length - i ∧ i ≤ xs.length ∧ ys = (ds.take i).map (fun d => V.bl (f d)) ∧ (∀ o, σ.set j o = σ0.set j o) ∧ Same H0 H, ⟨_, rfl, Nat.zero_le _, rfl, fun _ => rfl, Same.refl _⟩, ?_⟩
  rintro i m ys σ H ⟨rfl, hi, rfl, hσ, hs⟩
  have sq : SqT K H a xs := SqT.of (hs _ _ hT)
  refine ⟨by rw [List.length_map, List.length_take]; omega, ?_⟩
  by_cases hlt : i < xs.length
  · refine .inr ⟨⟨xs, xs[i], sq, by simp [hlt]⟩, fun x H' y => ?_⟩
    obtain ⟨e, y⟩ := y
    subst e
    have hx := y xs sq
    obtain ⟨d, hd, ht⟩ := (th.same hs).get hx
    show te (σ.set j (some x)) H' _
    rw [hσ]
    refine hte x d H' _ (List.mem_of_getElem? hd) hs ht fun H2 s2 => ⟨xs.length - (i + 1), by omega, rfl, hlt, ?_, fun o => by rw [List.set_set], hs.trans s2⟩
    rw [List.take_add_one, hd]
    simp
  · have e : i = xs.length := by omega
    subst e
    refine .inl ⟨⟨xs, sq, Nat.le_refl _⟩, ?_⟩
    rw [hlen, List.take_length]
    exact fin H hs
theorem bools_of {ds : List PyData} {f : PyData → Bool} : ds.map (fun d => V.bl (f d)) = (ds.map f).map V.bl := by rw [List.map_map]; rfl
theorem all_of {ds : List PyData} {f : PyData → Bool} : (ds.map f).all id = ds.all f := by rw [List.all_map]; rfl
section
variable {X : Cx} {es : List Expr} {t : TA} {pos : Pos}
/-! ### new lists and dicts that may become things: none is the table of modules -/
theorem call_list_ofS : CallR X (.type "list") (fun xs H Q => ∃ p ys, xs = [.ref p] ∧ SqT X.K H p ys ∧ ∀ l, H l = none → l ≠ sysModules → Q (.ref l) (upd H l (.lst ys))) := by
  intro pins s σ H xs us Q I r h
  obtain ⟨p, ys, rfl, hq, q⟩ := h
  obtain ⟨u, rfl, rx⟩ := vals1 r
  cases rx
  obtain ⟨its, r', pl, hz⟩ := I.tuple hq
  have hlen := r'.length
  obtain ⟨o, ho, hc, n, hd⟩ := pl
  refine call_list_seq p (.inr rfl) ho hc hd (fun h' c' kp e => ?_) (by simp only [List.size_toArray]; omega)
  exact ⟨.ref s.heap.objs.size, _, I.laid (t' := s.toks) kp (Nat.le_refl _) (show ObjOk X.prog X.w _ h' _ (.lst ys) from ⟨hz, its, c', r', e⟩), rfl, q _ (I.hok.fresh (Nat.le_refl _)) (Nat.ne_of_gt I.big)⟩
end

/-! ### a op1 b op2 c op3 d -/
section
variable {X : Cx} {a b c d : Expr} {ta tb tc td : TE} {pos : Pos}
end

/-! ### readings that only reckon -/
def Ev (σ : St) (H : Hp) (t : TE) (v : V) : Prop := ∀ Q : VK, Q v H → t σ H Q
section
variable {σ : St} {H : Hp} {ta tb tc td : TE}
theorem ev_c {v : V} : Ev σ H (tC v) v := fun _ h => h
theorem ev_v {i : Nat} {v : V} (h : σ[i]? = some (some v)) : Ev σ H (tVar i) v := fun _ q => ⟨v, h, q⟩
theorem ev_op0 {g : Int → Int → V} {i j : Int} (a : Ev σ H ta (.int i)) (b : Ev σ H tb (.int j)) : Ev σ H (tOp (rI0 g) ta tb) (g i j) := fun _ q => a _ (b _ ⟨i, j, rfl, rfl, q⟩)
theorem ev_chain {p q : Int → Int → Bool} {i j k : Int} (a : Ev σ H ta (.int i)) (b : Ev σ H tb (.int j)) (c : Ev σ H tc (.int k)) :
    Ev σ H (tChain (rI0 fun i j => .bl (p i j)) (rI0 fun i j => .bl (q i j)) ta tb tc) (.bl (p i j && q j k)) := fun Q h => a _ (b _ ⟨i, j, rfl, rfl, _, rfl, by
  cases e : p i j with
  | false =>
    rw [e] at h
    exact iteF h
  | true =>
    rw [e] at h
    exact iteT (c _ ⟨j, k, rfl, rfl, h⟩)⟩)
end
end L2

set_option Elab.async false
set_option linter.all false
set_option maxRecDepth 100000
/-! Argument lists: that an item bears no star, once for each kind of item. -/
namespace L2
open PySem PySem.Spec PyProof.Rows
structure Plain (e : Expr) : Prop where
  eq : ∀ (es : List Expr) (env : Env), starEach (e :: es) env = (false, eval e env) :: starEach es env
theorem plain_const {c j p} : Plain (.Constant c j p) := ⟨fun _ _ => rfl⟩
theorem plain_name {x p} : Plain (.Name x p) := ⟨fun _ _ => rfl⟩
theorem plain_tuple {es k p} : Plain (.Tuple es k p) := ⟨fun _ _ => rfl⟩
theorem plain_call {f as ks p} : Plain (.Call f as ks p) := ⟨fun _ _ => rfl⟩
theorem plain_bin {a o b p} : Plain (.BinOp a o b p) := ⟨fun _ _ => rfl⟩
theorem plain_un {o a p} : Plain (.UnaryOp o a p) := ⟨fun _ _ => rfl⟩
theorem plain_sub {a b p} : Plain (.Subscript a b p) := ⟨fun _ _ => rfl⟩
theorem plain_comp {a b c p} : Plain (.ListComp a b c p) := ⟨fun _ _ => rfl⟩
theorem plain_cmp {a b c p} : Plain (.Compare a b c p) := ⟨fun _ _ => rfl⟩
section
variable {X : Cx} {e : Expr} {es : List Expr} {te : TE} {t : TA}
theorem pa_c (ha : PE X e te) (hr : PA X es t) (hp : Plain e := by first | exact plain_name | exact plain_const | exact plain_call | exact plain_tuple | exact plain_list | exact plain_bin | exact plain_sub | exact plain_un | exact plain_dict | exact plain_comp | exact plain_cmp) : PA X (e :: es) (tCons te t) :=
  pa_cons ha hr (hp.eq _ _)
end

/-! ### argument lists that don't unfold while a term is built; written ints -/
structure AA (X : Cx) (es : List Expr) (t : TA) : Prop where
  run : PA X es t
section
variable {X : Cx} {e : Expr} {es : List Expr} {te : TE} {t : TA} {pos : Pos}
theorem aa_nil : AA X [] tNil := ⟨pa_nil⟩
theorem aa_c (ha : PE X e te) (hr : AA X es t) (hp : Plain e := by first | exact plain_name | exact plain_const | exact plain_call | exact plain_tuple | exact plain_list | exact plain_bin | exact plain_sub | exact plain_un | exact plain_dict | exact plain_comp | exact plain_cmp) : AA X (e :: es) (tCons te t) :=
  ⟨pa_cons ha hr.run (hp.eq _ _)⟩
end
inductive IsInts : List Expr → List Int → Prop
  | nil : IsInts [] []
  | cons {i : Int} {j : Nat} {p : Pos} {es : List Expr} {is : List Int} : IsInts es is → IsInts (.Constant (.int i) j p :: es) (i :: is)
def tInts (is : List Int) : TA := fun _ H Q => Q (is.map V.int) H
theorem pa_ints {X : Cx} : ∀ {es : List Expr} {is : List Int}, IsInts es is → PA X es (tInts is)
  | _, _, .nil => fun _ _ _ _ H Q I h => Calls.spliced_nil ⟨[], H, I, .nil, h⟩
  | _, _, @IsInts.cons i j p es is r => by
    have h := pa_c (X := X) (pe_int (i := i) (j := j) (pos := p)) (pa_ints r)
    exact h

theorem pg_tupK {X : Cx} {es : List Expr} {k : Nat} {pos : Pos} {t : TGs} {K : PySem.W.Frag} {n : Nat} (hK : X.K = K) (hc : X.calm = true) (h : PGs X es t) (hn : (assignEach es X.env).length = n := by rfl) (hst : (assignEach es X.env).findIdx? (·.1) = none := by rfl) :
    PG X (.Tuple es k pos) (gTup K n t) := by
  subst hK
  exact pg_tup hc h hn hst
/-! ### values that don't unfold while a term is built -/
structure BE (X : Cx) (e : Expr) (t : TE) : Prop where
  run : PE X e t
section
variable {X : Cx} {e : Expr} {es : List Expr} {te : TE} {t : TA} {pos : Pos}
theorem ab_c (ha : BE X e te) (hr : AA X es t) (hp : Plain e := by first | exact plain_name | exact plain_const | exact plain_call | exact plain_tuple | exact plain_list | exact plain_bin | exact plain_sub | exact plain_un | exact plain_dict | exact plain_comp | exact plain_cmp) : AA X (e :: es) (tCons te t) := aa_c ha.run hr hp
theorem pe_be (h : BE X e te) : PE X e te := h.run
theorem be_int {i : Int} {j} : BE X (.Constant (.int i) j pos) (tC (.int i)) := ⟨pe_int⟩
theorem be_bl {b : Bool} {j} : BE X (.Constant (.bool b) j pos) (tC (.bl b)) := ⟨pe_bl⟩
theorem be_non {j} : BE X (.Constant .none j pos) (tC .non) := ⟨pe_non⟩
theorem be_str {x : Str} {j} : BE X (.Constant (.str x) j pos) (tC (.str x)) := ⟨pe_str⟩
theorem be_neg {i : Int} {j q} : BE X (.UnaryOp .USub (.Constant (.int i) j q) pos) (tUn (rU fun i => .int (-i)) (tC (.int i))) := ⟨pe_un un_neg pe_int⟩
theorem be_tup {x1} (h : AA X es t) : BE X (.Tuple es x1 pos) (tTup t) := ⟨pe_tup h.run⟩
theorem be_lst (h : AA X es t) : BE X (.List es pos) (tLst t) := ⟨pe_lst h.run⟩
end
structure BS (X : Cx) (st : Stmt) (t : TS) : Prop where
  run : PS X st t
structure BSs (X : Cx) (sts : List Stmt) (t : TS) : Prop where
  run : PSs X sts t
section
variable {X : Cx} {st : Stmt} {rest : List Stmt} {t u : TS} {pos : Pos}
theorem pss_b (h : BSs X rest t) : PSs X rest t := h.run
theorem bss_cons (h1 : BS X st t) (h2 : BSs X rest u) : BSs X (st :: rest) (tSeq t u) := ⟨pss_cons h1.run h2.run⟩
theorem bss_one (h1 : BS X st t) : BSs X [st] t := ⟨pss_one h1.run⟩
theorem bs_set {i : Nat} {x : Str} {e : Expr} {te : TE} {pos' : Pos} (hN : X.N.Nodup) (hi : X.N[i]? = some x) (hx : Loc X.env.scope x) (he : BE X e te) (hs : swapsWith e (some (.Name x pos')) pos.line X.env = pure false := by rfl) (hf : X.fn x = true ∨ X.env.scope.names.lookup x = some .local := by first | exact .inl rfl | exact .inr rfl | assumption) :
    BS X (.Assign [.Name x pos'] e pos) (tAsg te (gName i)) := ⟨ps_set hN hi hx he.run hs hf⟩
theorem bs_ret {e : Expr} {te : TE} (he : BE X e te) : BS X (.Return (some e) pos) (tRet te) := ⟨ps_ret he.run⟩
theorem be_op {op : Operator} {r : R2} {a b : Expr} {ta tb : TE} (ho : OpR X (binaryOp op) r) (ha : BE X a ta) (hb : BE X b tb) : BE X (.BinOp a op b pos) (tOp r ta tb) := ⟨pe_op ho ha.run hb.run⟩
theorem be_ix {r : R2} {a b : Expr} {ta tb : TE} (hr : IxR X r) (ha : BE X a ta) (hb : BE X b tb) (hs : PlainIx b) : BE X (.Subscript a b pos) (tOp r ta tb) := ⟨pe_ix hr ha.run hb.run hs⟩
end
end L2

set_option Elab.async false
set_option linter.all false
set_option maxRecDepth 100000
/-! Readings that make things. -/
namespace L2
open PySem PySem.Spec PyProof.Rows
section
variable {X : Cx} {es : List Expr} {t : TA} {pos : Pos}
end
/-- the reading makes the thing d, from H on, and turns nothing -/
def ThE (S : Addr → Prop) (σ : St) (H : Hp) (t : TE) (d : PyData) : Prop := ∀ H0, Same H H0 → ∀ Q : VK, (∀ v H', Same H0 H' → IsTh S H' v d → Q v H') → t σ H0 Q
def ThA (S : Addr → Prop) (σ : St) (H : Hp) (t : TA) (ds : List PyData) : Prop := ∀ H0, Same H H0 → ∀ Q : List V → Hp → Prop, (∀ vs H', Same H0 H' → IsThs S H' vs ds → Q vs H') → t σ H0 Q
section
variable {S : Addr → Prop} {σ : St} {H : Hp}
theorem th_c {v : V} {d : PyData} (h : ∀ H', IsTh S H' v d) : ThE S σ H (tC v) d := fun H0 _ Q q => q v H0 (Same.refl _) (h H0)
theorem th_int {i : Int} : ThE S σ H (tC (.int i)) (.int i) := th_c fun _ => .int i
theorem th_non : ThE S σ H (tC .non) .none := th_c fun _ => .non
theorem th_ev {t : TE} {i : Int} (h : ∀ H', Ev σ H' t (.int i)) : ThE S σ H t (.int i) := fun H0 _ Q q => h H0 _ (q _ H0 (Same.refl _) (.int i))
theorem th_nil : ThA S σ H tNil [] := fun H0 _ Q q => q [] H0 (Same.refl _) .nil
theorem th_cons {te : TE} {ta : TA} {d : PyData} {ds : List PyData} (h1 : ThE S σ H te d) (h2 : ThA S σ H ta ds) : ThA S σ H (tCons te ta) (d :: ds) := fun H0 s0 Q q =>
  h1 H0 s0 _ fun v H1 s1 t1 => h2 H1 (s0.trans s1) _ fun vs H2 s2 t2 => q (v :: vs) H2 (s1.trans s2) (.cons (t1.same s2) t2)
end
/-! ### one step of a reading at a time -/
section
variable {D : Ends} {σ : St} {H : Hp} {t u : TS} {te : TE} {ta : TA} {g : TG} {Q : VK}
theorem rd_next (h : D.nx σ H) : tNext D σ H := h
theorem rd_seq (h : t { D with nx := u D } σ H) : tSeq t u D σ H := h
theorem rd_seqK (h : ∀ c : St → Hp → Prop, (∀ σ' H', u D σ' H' → c σ' H') → t { D with nx := c } σ H) : tSeq t u D σ H := h (u D) fun _ _ z => z
theorem rd_asg (h : te σ H fun x H1 => g x σ H1 D.nx) : tAsg te g D σ H := h
theorem rd_ret (h : te σ H D.rt) : tRet te D σ H := h
theorem rd_lst (h : ta σ H fun xs H1 => xs.length ≤ sizeLine ∧ ∀ p, H1 p = none → Q (.ref p) (upd H1 p (.lst xs))) : tLst ta σ H Q := h
theorem rd_name {i : Nat} {v : V} {R : St → Hp → Prop} (h : R (σ.set i (some v)) H) : gName i v σ H R := h
end
end L2

set_option Elab.async false
set_option linter.all false
set_option maxRecDepth 100000
/-! Three names at once; t * n. -/
namespace L2
open PySem PySem.Spec PyProof.Rows
section
variable {X : Cx} {pos : Pos}
end
/-! ### t * n -/
theorem noFill_tup_mul : fillsNumberSlot (.type "tuple") "mul" = pure false :=
  PySem.fillsNumberSlot_seq (id := "tuple.__mul__") (r := some (.builtin "tuple.__rmul__")) F.slot_tuple_mul.lookup (by decide +kernel) F.slot_tuple_rmul.lookup (by decide +kernel)
theorem repeat_tup : seqRepeat? (.type "tuple") = pure (some (.builtin "tuple.__mul__")) := by
  have e1 := PySem.seqSlot_of (T := "tuple") (name := "__mul__") (id := "tuple.__mul__") F.slot_tuple_mul.lookup (by decide +kernel)
  have e2 := PySem.seqSlot_of (T := "tuple") (name := "__rmul__") (id := "tuple.__rmul__") F.slot_tuple_rmul.lookup (by decide +kernel)
  unfold seqRepeat?
  rw [e1, e2]
  rfl
open Builtin in
theorem rmul_int_tup (a : Int) (t : Tok) (l : Addr) (items : Array Value) (n : Nat) (dd : Option Addr) (sl : Array (Option Value)) :
    Meets (Builtin.«int.__rmul__» ⟨[.int a t, .ref l], []⟩) (fun _ R s => s.heap.get? l = some { cls := .type "tuple", dict := dd, data := .seq items n, slots := sl } ∧ R (.ok (.ret Value.notImplemented)) s) := by
  refine .of_wp fun prog w A R s h => ?_
  obtain ⟨hp, g, d, tk, os⟩ := s
  obtain ⟨hl, h⟩ := h
  wp_walk
  exact ⟨_, rfl, h⟩
open Builtin in
theorem mul_tup1 (l : Addr) (items : Array Value) (n : Nat) (u : Tok) (dd : Option Addr) (sl : Array (Option Value)) :
    Meets (Builtin.«tuple.__mul__» ⟨[.ref l, .int 1 u], []⟩) (fun _ R s => s.heap.get? l = some { cls := .type "tuple", dict := dd, data := .seq items n, slots := sl } ∧ R (.ok (.ret (.ref l))) s) := by
  refine .of_wp fun prog w A R s h => ?_
  obtain ⟨hp, g, d, tk, os⟩ := s
  obtain ⟨hl, h⟩ := h
  have f1 := PySem.AutoSeq1.idx_int
  have f2 := PySem.AutoSeq1.sub_tuple_tuple
  wp_walk
  exact ⟨_, rfl, h⟩
open Builtin in
theorem mul_tup0 (l : Addr) (items : Array Value) (n : Nat) (u : Tok) (dd : Option Addr) (sl : Array (Option Value)) (hi : items.isEmpty = false) :
    Meets (Builtin.«tuple.__mul__» ⟨[.ref l, .int 0 u], []⟩) (fun _ R s => s.heap.get? l = some { cls := .type "tuple", dict := dd, data := .seq items n, slots := sl } ∧ R (.ok (.ret (.ref s.heap.objs.size))) { s with heap := s.heap.push { cls := .type "tuple", data := .seq #[] } }) := by
  refine .of_wp fun prog w A R s h => ?_
  obtain ⟨hp, g, d, tk, os⟩ := s
  obtain ⟨hl, h⟩ := h
  have f1 := PySem.AutoSeq1.idx_int
  have f2 := PySem.AutoSeq1.sub_tuple_tuple
  have g1 : (items.isEmpty || ((0 : Int) == 1)) = false := by rw [hi]; rfl
  wp_walk
  exact ⟨_, rfl, h⟩
open Builtin in
theorem mul_tupN (l : Addr) (items : Array Value) (n : Nat) (k : Int) (u : Tok) (dd : Option Addr) (sl : Array (Option Value)) (hi : items.isEmpty = false) (h2 : 2 ≤ k) (h3 : k ≤ 1000) (h4 : items.size ≤ 1000) :
    Meets (Builtin.«tuple.__mul__» ⟨[.ref l, .int k u], []⟩) (fun _ R s => s.heap.get? l = some { cls := .type "tuple", dict := dd, data := .seq items n, slots := sl } ∧ R (.ok (.ret (.ref s.heap.objs.size))) { s with heap := s.heap.push { cls := .type "tuple", data := .seq ((List.replicate k.toNat items).foldl (· ++ ·) #[]) } }) := by
  refine .of_wp fun prog w A R s h => ?_
  obtain ⟨hp, g, d, tk, os⟩ := s
  obtain ⟨hl, h⟩ := h
  have f1 := PySem.AutoSeq1.idx_int
  have f2 := PySem.AutoSeq1.sub_tuple_tuple
  have m1 : items.size * k.toNat ≤ 1000 * 1000 := Nat.mul_le_mul h4 (by omega)
  have m2 : (items.size : Int) * k = ((items.size * k.toNat : Nat) : Int) := by rw [Int.natCast_mul, Int.toNat_of_nonneg (by omega)]
  have c0 : (decide (k < -2 ^ 63) || decide (k ≥ 2 ^ 63)) = false := by
    rw [decide_eq_false (by omega), decide_eq_false (by omega)]
    rfl
  have c1 : (items.isEmpty || k == 1) = false := by
    rw [hi, show (k == 1) = false from by simpa using (by omega : k ≠ 1)]
    rfl
  have c2 : (decide (k ≤ 0) || items.isEmpty) = false := by
    rw [hi, decide_eq_false (by omega)]
    rfl
  have c3 : ¬ ((items.size : Int) * k > (2 ^ 63 - 1) / 8) := by
    rw [m2]
    omega
  have c4 : Builtin.Tuple.tupleTooMany ((items.size : Int) * k) = false := by
    rw [m2]
    unfold Builtin.Tuple.tupleTooMany
    refine decide_eq_false ?_
    rw [sizeLine_eq]
    omega
  wp_walk
  have nf : ∀ {b : Bool}, b = false → decide (b = true) = false := fun {b} e => by rw [e]; rfl
  refine wpAny_ite_false (nf c0) ?_
  wp_walk
  refine wpAny_ite_false (nf c1) ?_
  refine wpAny_ite_false (nf c2) ?_
  refine wpAny_ite_false (decide_eq_false c3) ?_
  refine wpAny_ite_false (nf c4) ?_
  have z : (List.foldl (fun x1 x2 => x1 ++ x2) #[] (List.replicate k.toNat items)).size ≤ sizeLine := by
    have e := foldl_rep items.toList k.toNat []
    rw [List.nil_append] at e
    have e : List.foldl (fun x1 x2 => x1 ++ x2) #[] (List.replicate k.toNat items) = (List.replicate k.toNat items.toList).flatten.toArray := e
    rw [e, List.size_toArray, len_rep, Array.length_toList, sizeLine_eq, Nat.mul_comm]
    omega
  wp_walk
  exact ⟨_, rfl, h⟩
/-- a tuple that isn't empty, times 0, 1, or 2 to 1000 -/
def rRepT (K : PySem.W.Frag) : R2 := fun x y H Q => ∃ a k xs, x = .ref a ∧ y = .int k ∧ SqT K H a xs ∧ xs ≠ [] ∧ xs.length ≤ 1000 ∧
  ((k = 1 ∧ Q (.ref a) H) ∨ ((k = 0 ∨ (2 ≤ k ∧ k ≤ 1000)) ∧ ∀ p, H p = none → Q (.ref p) (upd H p (.tup (List.replicate k.toNat xs).flatten))))
theorem op_repT {X : Cx} : OpR X (binaryOp .Mult) (rRepT X.K) := by
  intro pins s σ H x y v u Q I rx ry h
  obtain ⟨a, k, xs, rfl, rfl, ha, hx, hl, h⟩ := h
  cases rx
  obtain ⟨t, rfl⟩ := ry
  obtain ⟨its, r, p1, _⟩ := I.tuple ha
  have hlen := r.length
  have hv : its ≠ [] := fun z => hx (r.nil_iff.mp z)
  have hie : its.toArray.isEmpty = false := by
    cases its with
    | nil => exact absurd rfl hv
    | cons _ _ => rfl
  obtain ⟨⟨cls, dd, data, sl⟩, ho, hc, n, hd⟩ := id p1
  simp only at hc hd
  subst hc hd
  refine wpAny_binaryOp_repeat_ref (T := "tuple") (U := "int") (by decide) ⟨_, ho, rfl⟩ (fun s' => typeIs_int s' k t) noFill_tup_mul F.fills_int_mul F.slot_int_rmul repeat_tup F.slot_int_index.lookup
    (call_meets F.slot_int_rmul (typeIs_int s k t) F.entry_int_rmul (F.args_int_rmul_2 _ _) (rmul_int_tup k t a its.toArray n dd sl) ⟨ho, rfl, ⟨_, ho, rfl⟩, ?_⟩)
  rcases h with ⟨rfl, q⟩ | ⟨rfl | ⟨k2, k3⟩, q⟩
  · exact call_meets F.slot_tuple_mul ⟨_, ho, rfl⟩ F.entry_tuple_mul (F.args_tuple_mul_2 _ _) (mul_tup1 a its.toArray n t dd sl) ⟨ho, .ref a, H, I, rfl, q⟩
  · refine call_meets F.slot_tuple_mul ⟨_, ho, rfl⟩ F.entry_tuple_mul (F.args_tuple_mul_2 _ _) (mul_tup0 a its.toArray n t dd sl hie) ⟨ho, ?_⟩
    exact ⟨.ref s.heap.objs.size, _, I.laid (t' := s.toks) (o := .tup []) (fun b ob q => Heap.get?_push_of_some _ q) (Nat.le_refl _) ⟨Nat.zero_le _, [], .nil, IsTup.new _ _⟩, rfl, q _ (I.hok.fresh (Nat.le_refl _))⟩
  · refine call_meets F.slot_tuple_mul ⟨_, ho, rfl⟩ F.entry_tuple_mul (F.args_tuple_mul_2 _ _) (mul_tupN a its.toArray n k t dd sl hie k2 k3 (by rw [List.size_toArray]; omega)) ⟨ho, ?_⟩
    have e := foldl_rep its k.toNat []
    rw [List.nil_append] at e
    have e : List.foldl (fun x1 x2 => x1 ++ x2) #[] (List.replicate k.toNat its.toArray) = (List.replicate k.toNat its).flatten.toArray := e
    rw [e]
    refine ⟨.ref s.heap.objs.size, _, I.laid (t' := s.toks) (o := .tup (List.replicate k.toNat xs).flatten) (fun b ob q => Heap.get?_push_of_some _ q) (Nat.le_refl _) ⟨?_, _, r.rep k.toNat, IsTup.new _ _⟩, rfl, q _ (I.hok.fresh (Nat.le_refl _))⟩
    rw [len_rep, sizeLine_eq]
    have := Nat.mul_le_mul (show k.toNat ≤ 1000 by omega) hl
    omega
end L2

set_option Elab.async false
set_option linter.all false
set_option maxRecDepth 100000
/-! enumerate of a tuple, walked. -/
namespace L2
open PySem PySem.Spec PyProof.Rows
section
variable {X : Cx}
end
end L2

set_option Elab.async false
set_option linter.all false
set_option maxRecDepth 100000
/-! min of a list of ints; () + t; t[a:b] where it is the whole; t[::-1]. -/
namespace L2
open PySem PySem.Spec PyProof.Rows
section
variable {X : Cx}
/-- () + u -/
def rCatT0 (K : PySem.W.Frag) : R2 := fun x y H Q => ∃ a b ys, x = .ref a ∧ y = .ref b ∧ SqT K H a [] ∧ SqT K H b ys ∧ Q (.ref b) H
open Builtin in
theorem add_tup0 (l b : Addr) (its : Array Value) (n m : Nat) (dd dd2 : Option Addr) (sl sl2 : Array (Option Value)) :
    Meets (Builtin.«tuple.__add__» ⟨[.ref l, .ref b], []⟩) (fun _ R s => s.heap.get? l = some { cls := .type "tuple", dict := dd, data := .seq #[] n, slots := sl } ∧ s.heap.get? b = some { cls := .type "tuple", dict := dd2, data := .seq its m, slots := sl2 } ∧ R (.ok (.ret (.ref b))) s) := by
  refine .of_wp fun prog w A R s h => ?_
  obtain ⟨hp, g, d, tk, os⟩ := s
  obtain ⟨hl, hb, h⟩ := h
  have f2 := PySem.AutoSeq1.sub_tuple_tuple
  wp_walk
  exact ⟨_, rfl, h⟩
theorem op_catT0 : OpR X (binaryOp .Add) (rCatT0 X.K) := by
  intro pins s σ H x y v u Q I rx ry h
  obtain ⟨a, b, ys, rfl, rfl, ha, hb, q⟩ := h
  cases rx
  cases ry
  obtain ⟨its, r1, p1, _⟩ := I.tuple ha
  obtain ⟨its2, r2, p2, _⟩ := I.tuple hb
  have e : its = [] := r1.zero
  subst e
  obtain ⟨⟨cls, dd, data, sl⟩, ho, hc, n, hd⟩ := id p1
  obtain ⟨⟨cls2, dd2, data2, sl2⟩, ho2, hc2, n2, hd2⟩ := id p2
  simp only at hc hd hc2 hd2
  subst hc hd hc2 hd2
  exact concat_meets ⟨_, ho, rfl⟩ ⟨_, ho2, rfl⟩ noFill_tuple_add seq_tuple_add PySem.F.slot_tuple_add PySem.F.entry_tuple_add (PySem.F.args_tuple_add_2 _ _) (add_tup0 a b its2.toArray n n2 dd dd2 sl sl2) ⟨ho, ho2, .ref b, H, I, rfl, q⟩
end
section
variable {prog : Program} {w : World} {A : Around} {E : Value → Shared → Prop} {s : Shared}
open HT in
theorem getItem_tup_whole {t sl : Addr} {items : Array Value} {vl vu : Value} {lo hi : Option Int} {Q : Value → Shared → Prop} (ht : IsTup s.heap t items) (hs : s.heap.IsSliceOf sl vl vu .none) (pl : IsPart vl lo) (pu : IsPart vu hi)
    (h1 : sIx items.size 0 lo = 0) (h2 : sIx items.size items.size hi = items.size) (h : Q (.ref t) s) : wpAny (model prog w) A (getItem (.ref t) (.ref sl)) Q E s := by
  obtain ⟨os, hos, hcs, hds⟩ := id hs
  have hTs : s.TypeIs (.ref sl) "slice" := ⟨os, hos, hcs⟩
  unfold getItem
  try with_reducible refine wpAny_holding ?_
  first | refine wpAny_bind (wpAny_pure ?_) | skip
  refine wpAny_bind (wpAny_sequenceKey ht.typeIs (by decide) ?_)
  refine wpAny_bind (wpAny_callSpecial?_slot (name := Str.ofString "__getitem__") ht.typeIs PyProof.Rows.slot_tuple_getitem
    (wpAny_call_entry PyProof.Rows.slot_tuple_getitem ht.typeIs entry_tuple_getitem ?_ (args_tuple_getitem _ _)))
  show wpAny _ _ (Builtin.Tuple.tupleItemsOf (.ref t) >>= _) _ _ s
  refine wpAny_bind (tupleItemsOf_ ht ?_)
  refine wpAny_bind (wpAny_typeOf hTs ?_)
  rw [if_pos (by decide)]
  refine wpAny_bind (sliceApplied_gen hs pl pu ?_)
  rw [h1, h2]
  show wpAny _ _ (if ((((0 : Nat) : Int)) == 0 && (1 : Int) == 1 && (items.size - 0) == items.size) = true then _ else _) _ _ s
  rw [if_pos (by simp)]
  unfold Builtin.Tuple.tupleIsExact
  refine wpAny_bind (wpAny_bind (wpAny_typeOf ht.typeIs (wpAny_pure ?_)))
  rw [if_pos (by decide)]
  exact wpAny_bind (wpAny_rule (wpAny_pure ⟨_, rfl, wpAny_pure h⟩))
end
section
variable {X : Cx}
/-- t[lo:hi]: the whole is t itself -/
def rSlW (K : PySem.W.Frag) : V → Option Int → Option Int → Hp → VK → Prop := fun x lo hi H Q => ∃ a xs, x = .ref a ∧ SqT K H a xs ∧
  ((HT.sIx xs.length 0 lo = 0 ∧ HT.sIx xs.length xs.length hi = xs.length) → Q (.ref a) H) ∧ (¬ (HT.sIx xs.length 0 lo = 0 ∧ HT.sIx xs.length xs.length hi = xs.length) → ∀ p, H p = none → Q (.ref p) (upd H p (.tup (cutV xs lo hi))))
theorem sl_tupW : SlR X (rSlW X.K) := by
  intro pins s σ H x v vl vu lo hi sl Q I rx hs pl pu h
  obtain ⟨a, xs, rfl, hx, q1, q2⟩ := h
  by_cases hw : HT.sIx xs.length 0 lo = 0 ∧ HT.sIx xs.length xs.length hi = xs.length
  · cases rx
    obtain ⟨its, r, ht, hz⟩ := I.tuple hx
    have hlen : its.toArray.size = xs.length := by rw [List.size_toArray]; exact r.length.symm
    refine ⟨"tuple", _, PyProof.Rows.slot_tuple_getitem.lookup, ht.typeIs, ?_⟩
    exact getItem_tup_whole ht hs pl pu (by rw [hlen]; exact hw.1) (by rw [hlen]; exact hw.2) ⟨.ref a, H, I, rfl, q1 hw⟩
  · exact sl_tup pins s σ H _ v vl vu lo hi sl Q I rx hs pl pu ⟨a, xs, rfl, hx, hw, q2 hw⟩
end
section
variable {prog : Program} {w : World} {A : Around} {E : Value → Shared → Prop} {s : Shared}
open HT in
theorem rev_pick (xs : Array Value) : ((List.range xs.size).filterMap fun (k : Nat) => xs[(((xs.size : Int) - 1) + (k : Int) * (-1)).toNat]?).toArray = xs.toList.reverse.toArray := by
  congr 1
  have e : ∀ k ∈ List.range xs.size, xs[(((xs.size : Int) - 1) + (k : Int) * (-1)).toNat]? = xs.toList.reverse.toArray[k]? := fun k hk => by
    have hk := List.mem_range.mp hk
    have e2 : xs.toList.reverse.toArray[k]? = xs.toList.reverse[k]? := by simp only [List.getElem?_toArray]
    have e3 : (((xs.size : Int) - 1) + (k : Int) * (-1)).toNat = xs.size - 1 - k := by omega
    rw [e2, e3, List.getElem?_reverse (by rw [Array.length_toList]; exact hk), Array.length_toList, ← Array.getElem?_toList]
  have fc : ∀ (l : List Nat) (f g : Nat → Option Value), (∀ k ∈ l, f k = g k) → l.filterMap f = l.filterMap g := fun l f g h => by
    induction l with
    | nil => rfl
    | cons a l ih =>
      rw [List.filterMap_cons, List.filterMap_cons, h a List.mem_cons_self, ih fun k hk => h k (List.mem_cons_of_mem _ hk)]
  rw [fc _ _ _ e]
  have := pick_gen xs.toList.reverse.toArray 0 xs.size
  have e2 : (fun (m : Nat) => xs.toList.reverse.toArray[(((0 : Nat) : Int) + (m : Int) * 1).toNat]?) = fun m => xs.toList.reverse.toArray[m]? := by
    funext m
    congr 1
    omega
  rw [e2] at this
  have this := congrArg Array.toList this
  rw [show (List.filterMap (fun m => xs.toList.reverse.toArray[m]?) (List.range xs.size)).toArray.toList = List.filterMap (fun m => xs.toList.reverse.toArray[m]?) (List.range xs.size) from rfl] at this
  rw [this]
  show List.take xs.size (List.drop 0 xs.toList.reverse) = xs.toList.reverse
  rw [List.drop_zero, List.take_of_length_le (by rw [List.length_reverse, Array.length_toList]; exact Nat.le_refl _)]
open HT in
theorem getItem_tup_rev {t sl : Addr} {items : Array Value} {u : Tok} {Q : Value → Shared → Prop} (ht : IsTup s.heap t items) (hs : s.heap.IsSliceOf sl .none .none (.int (-1) u)) (hz : items.size ≤ sizeLine)
    (h : Q (.ref s.heap.objs.size) { s with heap := s.heap.push { cls := .type "tuple", data := .seq items.toList.reverse.toArray } }) : wpAny (model prog w) A (getItem (.ref t) (.ref sl)) Q E s := by
  obtain ⟨os, hos, hcs, hds⟩ := id hs
  have hTs : s.TypeIs (.ref sl) "slice" := ⟨os, hos, hcs⟩
  unfold getItem
  try with_reducible refine wpAny_holding ?_
  first | refine wpAny_bind (wpAny_pure ?_) | skip
  refine wpAny_bind (wpAny_sequenceKey ht.typeIs (by decide) ?_)
  refine wpAny_bind (wpAny_callSpecial?_slot (name := Str.ofString "__getitem__") ht.typeIs PyProof.Rows.slot_tuple_getitem
    (wpAny_call_entry PyProof.Rows.slot_tuple_getitem ht.typeIs entry_tuple_getitem ?_ (args_tuple_getitem _ _)))
  show wpAny _ _ (Builtin.Tuple.tupleItemsOf (.ref t) >>= _) _ _ s
  refine wpAny_bind (tupleItemsOf_ ht ?_)
  refine wpAny_bind (wpAny_typeOf hTs ?_)
  rw [if_pos (by decide)]
  unfold Builtin.Slice.sliceApplied Builtin.Slice.sliceFields
  refine wpAny_bind (wpAny_bind (wpAny_bind (wpAny_field hos hds (x := .none) rfl (wpAny_bind (wpAny_field hos hds (x := .none) rfl (wpAny_bind (wpAny_field hos hds (x := .int (-1) u) rfl (wpAny_pure ?_))))))))
  refine wpAny_bind (slicePart_int ?_)
  show wpAny _ _ (if ((-1 : Int) == 0) = true then _ else _) _ _ s
  rw [if_neg (by decide)]
  refine wpAny_bind (slicePart_none (wpAny_bind (slicePart_none (wpAny_bind (wpAny_pure ?_)))))
  have ea : Builtin.Slice.sliceAdjust none none (-1) (items.size : Int) = ((items.size : Int) - 1, -1) := rfl
  show wpAny _ _ (match Builtin.Slice.sliceAdjust none none (-1) (items.size : Int) with | (lo, hi) => pure (lo, (-1 : Int), Builtin.Slice.slicePlaces lo hi (-1))) _ _ s
  rw [ea]
  have ep : Builtin.Slice.slicePlaces ((items.size : Int) - 1) (-1) (-1) = items.size := by
    unfold Builtin.Slice.slicePlaces
    rw [if_neg (by decide)]
    by_cases h0 : items.size = 0
    · rw [h0]; rfl
    · rw [if_pos (by omega)]
      show (((items.size : Int) - 1 - -1 - 1) / 1 + 1).toNat = items.size
      omega
  show wpAny _ _ (pure ((items.size : Int) - 1, (-1 : Int), Builtin.Slice.slicePlaces ((items.size : Int) - 1) (-1) (-1))) _ _ s
  rw [ep]
  refine wpAny_pure ?_
  show wpAny _ _ (if (((items.size : Int) - 1) == 0 && (-1 : Int) == 1 && items.size == items.size) = true then _ else _) _ _ s
  rw [if_neg (by simp), rev_pick]
  have htake : sizeOk (.seq items.toList.reverse.toArray) := by
    show items.toList.reverse.toArray.size ≤ sizeLine
    rw [List.size_toArray, List.length_reverse, Array.length_toList]
    exact hz
  first
    | exact wpAny_bind (m := Builtin.Tuple.tupleExact _) (wpAny_newObj_type (wpAny_pure ⟨_, rfl, wpAny_pure h⟩) htake)
    | exact wpAny_bind (m := Builtin.Tuple.tupleExact _) (wpAny_newObj_type (wpAny_bind (wpAny_pure (wpAny_pure ⟨_, rfl, wpAny_pure h⟩))) htake)
    | exact wpAny_bind (wpAny_bind (m := Builtin.Tuple.tupleExact _) (wpAny_newObj_type (wpAny_pure (wpAny_pure ⟨_, rfl, wpAny_pure h⟩)) htake))
    | exact wpAny_bind (wpAny_bind (m := Builtin.Tuple.tupleExact _) (wpAny_newObj_type (wpAny_pure ⟨_, rfl, wpAny_pure h⟩) htake))
end
section
variable {X : Cx} {e : Expr} {te : TE} {pos p2 p3 p4 : Pos} {j : Nat}
def tRev (K : PySem.W.Frag) (te : TE) : TE := fun σ H Q => te σ H fun x H1 => ∃ a xs, x = .ref a ∧ SqT K H1 a xs ∧ ∀ p, H1 p = none → Q (.ref p) (upd H1 p (.tup xs.reverse))
/-- t[::-1] -/
theorem pe_rev (he : PE X e te) : PE X (.Subscript e (.Slice none none (some (.UnaryOp .USub (.Constant (.int 1) j p4) p3)) p2) pos) (tRev X.K te) := by
  intro pins s σ H Q I h
  refine Subscript_ (thn (he pins s σ H _ I h) fun v s1 ⟨x, H1, I1, r1, q1⟩ => ?_)
  obtain ⟨a, xs, rfl, hx, q⟩ := q1
  cases r1
  refine wpAny_Slice ?_
  rw [evalPart_none]
  refine wpAny_pure (wpAny_pure ?_)
  rw [evalPart_some]
  refine thn (pe_un (X := X) (pos := p3) un_neg (pe_int (i := 1) (j := j) (pos := p4)) pins s1 σ H1 (fun z H' => z = V.int (-1) ∧ H' = H1) I1 ⟨1, rfl, rfl, rfl⟩) fun u s2 hh => ?_
  obtain ⟨z, H2, I2, r2, e1, e2⟩ := hh
  subst e1 e2
  obtain ⟨t, rfl⟩ := r2
  have I4 : Inv X pins σ H2 { s2 with heap := s2.heap.push { cls := .type "slice", data := .fields #[.none, .none, .int (-1) t] } } := I2.kept (t' := s2.toks) fun b ob q => Heap.get?_push_of_some _ q
  obtain ⟨its, r, ht, hz⟩ := I4.tuple hx
  have hlen : its.toArray.size = xs.length := by rw [List.size_toArray]; exact r.length.symm
  refine tail_any (ops := [.ref a, .ref s2.heap.objs.size]) ht.typeIs PyProof.Rows.slot_tuple_getitem.lookup ?_ (by with_unfolding_all rfl)
  refine getItem_tup_rev ht (Heap.IsSliceOf.new ..) (by rw [hlen]; exact hz) ?_
  refine ⟨.ref (s2.heap.push { cls := .type "slice", data := .fields #[.none, .none, .int (-1) t] }).objs.size, _, I4.laid (t' := s2.toks) (o := .tup xs.reverse) (fun b ob q => Heap.get?_push_of_some _ q) (Nat.le_refl _) ?_, rfl, q _ (I4.hok.fresh (Nat.le_refl _))⟩
  exact ⟨by rw [List.length_reverse]; exact hz, _, r.reverse, IsTup.new _ _⟩
end
end L2

set_option Elab.async false
set_option linter.all false
set_option maxRecDepth 100000
/-! zip of two tuples, walked. -/
namespace L2.ZT
open PySem PySem.Spec PyProof.Rows L2
section
variable {prog : Program} {w : World} {A : Around} {E : Value → Shared → Prop} {s : Shared}
end
section
variable {X : Cx}
end
end L2.ZT

set_option Elab.async false
set_option linter.all false
set_option maxRecDepth 100000
/-! enumerate of a list, walked. -/
namespace L2.EL
open PySem PySem.Spec PyProof.Rows L2
abbrev zL (h : Heap) (l : Addr) : Heap := h.push { cls := .type "list_iterator", data := .fields #[.ref l, .int 0 0] }
theorem meets_enum_lst (t : Addr) (its : Array Value) :
    Meets (Builtin.«enumerate.__new__» ⟨[.type "enumerate", .ref t], []⟩) (fun _ R s => s.heap.IsList t its ∧
      R (.ok (.ret (.ref (zL s.heap t).objs.size))) { s with heap := (zL s.heap t).push { cls := .type "enumerate", data := .fields #[.none, .bool false, .ref s.heap.objs.size, rawInt 0, .none, .none] } }) :=
  .of_wp fun prog w A R s h => by
    obtain ⟨hp, g, d, tk, os⟩ := s
    obtain ⟨ht, h⟩ := h
    have hsub := sub_enumerate
    have hT : Heap.IsList (Shared.heap ⟨hp, g, d, tk, os⟩) t its := ht
    wp_walk
    refine wpAny_stack_any fun st => wpAny_pure ?_
    split
    · rename_i c _ _ _ _ _
      cases (c == Value.type "enumerate")
      · wp_walk using wpAny_pyIter_list hT
        exact ⟨_, rfl, h⟩
      · wp_walk using wpAny_pyIter_list hT
        exact ⟨_, rfl, h⟩
    · wp_walk using wpAny_pyIter_list hT
      exact ⟨_, rfl, h⟩
theorem call_enum_lst {prog : Program} {w : World} {A : Around} {E : Value → Shared → Prop} {s : Shared} {t : Addr} {its : Array Value} {Q : Value → Shared → Prop} (ht : s.heap.IsList t its)
    (h : ∀ h', IsEnum h' (s.heap.objs.size + 1) s.heap.objs.size 0 .none → h'.IsListIter s.heap.objs.size t 0 → (∀ c o, s.heap.get? c = some o → h'.get? c = some o) → Q (.ref (s.heap.objs.size + 1)) { s with heap := h' }) :
    wpAny (model prog w) A (call (.type "enumerate") [.ref t]) Q E s := by
  refine callType_new F.called_enumerate (by decide) (F.typeCall_enumerate_1 _) (F.newCall_enumerate_1 _) (fun obj => F.args_object_init_2 obj _) F.entry_enumerate_new (meets_enum_lst t its) ⟨ht, ?_⟩
  have e1 : (zL s.heap t).objs.size = s.heap.objs.size + 1 := Heap.size_push ..
  have g2 := Heap.get?_push_size (zL s.heap t) (o := { cls := .type "enumerate", data := .fields #[.none, .bool false, .ref s.heap.objs.size, rawInt 0, .none, .none] }) rfl
  have g1 := Heap.get?_push_of_some { cls := .type "enumerate", data := .fields #[.none, .bool false, .ref s.heap.objs.size, rawInt 0, .none, .none] } (Heap.get?_push_size s.heap (o := { cls := .type "list_iterator", data := .fields #[.ref t, .int 0 0] }) rfl)
  show _ ∧ _
  rw [e1] at g2 ⊢
  exact ⟨⟨_, g2, rfl⟩, h _ g2 ⟨_, g1, rfl, rfl⟩ fun c o x => Heap.get?_push_of_some _ (Heap.get?_push_of_some _ x)⟩
/-- the numbers and items of the tuple at a -/
def Ite (K : PySem.W.Frag) (a : Addr) : It :=
  ⟨fun i H => ∃ xs x, SqL K H a xs ∧ xs[i]? = some x,
   fun i H v H' => ∃ T, H T = none ∧ v = .ref T ∧ ∀ xs, SqL K H a xs → ∃ x, xs[i]? = some x ∧ H' = upd H T (.tup [.int i, x]),
   fun i H => ∃ xs, SqL K H a xs ∧ xs.length ≤ i⟩
def tne (e it a : Addr) (i : Nat) (h : Heap) : Prop := (∃ old, IsEnum h e it i old) ∧ h.IsListIter it a i
theorem turn_enum {P : Program} {w : World} {K : PySem.W.Frag} {es : List Expr} {k : Nat} {pos : Pos} {e it a : Addr} (nei : e ≠ it) (nea : e ≠ a) (nai : a ≠ it) :
    Turn P w K (.Tuple es k pos) (Ite K a) [e, it] e (tne e it a) where
  mem := by simp
  obj := fun i h st c hc => by
    obtain ⟨⟨old, s1⟩, ⟨o4, s4, c4, d4⟩⟩ := st
    simp only [List.mem_cons, List.not_mem_nil, or_false] at hc
    rcases hc with z | z <;> subst z
    · exact ⟨_, s1, fun v q => by cases q⟩
    · exact ⟨_, s4, fun v q => by rw [d4] at q; cases q⟩
  keep := fun i h h' st kp => by
    obtain ⟨⟨old, s1⟩, s4⟩ := st
    exact ⟨⟨old, kp e (by simp) _ s1⟩, s4.at fun o z => kp it (by simp) o z⟩
  item := by
    intro X hP hw hK hc i pins s σ H E I hf st hg
    subst hP hw hK
    obtain ⟨⟨old, s1⟩, s4⟩ := st
    obtain ⟨xs, x, hxs, hx⟩ := hg
    obtain ⟨its, rv, p, _⟩ := I.list hxs
    obtain ⟨ux, hux, rx⟩ := rv.get hx
    have hlt : i < its.toArray.size := by
      have := (List.getElem?_eq_some_iff.mp hux).1
      simpa using this
    have D := Draws.list (prog := X.prog) (w := X.w) (A := X.A.in1) (I.ok.hd hc) it a nai its.toArray
    refine wpAny_pyNext_enum_itemD D s1 ⟨s4, p.isList⟩ hlt nei (by simp [nei, nea]) fun u h1 tk hu g1 g3 g5 g6 kp => ?_
    have eu : u = ux := by
      have hu : its.toArray[i]? = some u := hu
      rw [List.getElem?_toArray, hux] at hu
      exact (Option.some.inj hu).symm
    subst eu
    refine ⟨_, rfl, ?_⟩
    refine wpAny_letOwnedTupleGo_enum g1 fun h2 e1 sb => ?_
    have live : ∀ c, c ∈ [e, it] → ∃ o, s.heap.get? c = some o := fun c hc' => by
      simp only [List.mem_cons, List.not_mem_nil, or_false] at hc'
      rcases hc' with q | q <;> subst q
      · exact ⟨_, s1⟩
      · exact let ⟨o, h, _⟩ := s4; ⟨o, h⟩
    have ne : ∀ c, c ∈ [e, it] → c ≠ s.heap.objs.size := fun c hc' z => by
      obtain ⟨o, ho⟩ := live c hc'
      exact absurd (Heap.lt_size ho) (by rw [z]; exact Nat.lt_irrefl _)
    have hT : H s.heap.objs.size = none := I.hok.fresh (Nat.le_refl _)
    have kept : ∀ c o, c ∉ [e, it] → s.heap.get? c = some o → h2.get? c = some o := fun c o hc' z =>
      sb.extBut _ _ (fun q => hc' (by simp [q])) (kp c o (fun q => hc' (by simp [q])) (fun q => hc' (by simp [q])) z)
    have trk : ∀ c o, H c = some o → c ∉ [e, it] := fun c o z hc' => by
      have := (hf c hc').1
      rw [z] at this; cases this
    have newT : h2.get? s.heap.objs.size = some { cls := .type "tuple", data := .seq #[.int i tk, u] } := sb.extBut _ _ (Ne.symm (ne e (by simp))) g5
    have hok2 : HOk X.prog X.w (upd H s.heap.objs.size (.tup [.int i, x])) h2 := fun c o z => by
      by_cases hb : c = s.heap.objs.size
      · subst hb
        rw [upd_same] at z
        cases z
        exact ⟨by show 2 ≤ sizeLine; decide, [.int i tk, u], .cons ⟨tk, rfl⟩ (.cons rx .nil), _, newT, rfl, _, rfl⟩
      · rw [upd_ne hb] at z
        refine (I.hok c o z).stay (fun d v hd q => kept d v ?_ q) (fun d q => by rw [upd_ne (ne_of_none q hT)]; exact q) fun d l q => by rw [upd_ne (ne_of_none q hT)]; exact q
        rcases hd with e' | e'
        · rw [e']; exact trk c o z
        · exact trk d _ e'
    have I2 : Inv X pins σ (upd H s.heap.objs.size (.tup [.int i, x])) { s with heap := h2, toks := tk + 1 } := by
      refine I.step (g' := s.gens) (d' := s.drawn) (t' := tk + 1) (ch := [e, it]) (fun c hc' => ?_) (fun c o _ _ hn z _ => kept c o hn z) (fun c o _ _ hn z _ => ⟨o.slots, kept c o hn z⟩)
        (fun c o _ z n => by rw [upd_ne (Nat.ne_of_lt (Heap.lt_size z))]; exact n) (fun c o hn z => ⟨o, kept c o hn z⟩) (fun c l z => by rw [upd_ne (ne_of_none z hT)]; exact z) (fun c o l z => by rw [upd_ne (ne_of_none z hT)]; exact z)
        (fun c l z => ⟨#[], by rw [upd_ne (ne_of_none z hT), z]; simp⟩) (fun m hm => ?_) hok2 I.bare
      · obtain ⟨f0, f1, f2, f3, f4, f5⟩ := hf c hc'
        exact ⟨f3, f1, f4, f5⟩
      · obtain ⟨o, es', ep, ho, r⟩ := hm
        refine ⟨o, es', ep, kept _ o (fun hc' => ?_) ho, r⟩
        exact (hf _ hc').2.1 rfl
    refine ⟨.ref s.heap.objs.size, _, I2, rfl, ⟨s.heap.objs.size, hT, rfl, fun xs' e1' => ⟨x, ?_, rfl⟩⟩, ⟨⟨u, ?_⟩, ?_⟩, fun c hc' => ?_⟩
    · rw [I.list_inj e1' hxs]; exact hx
    · have := e1
      rw [show (((i + 1 : Nat) : Int)) = (i : Int) + 1 by omega]
      exact this
    · exact g3.1.extBut sb.extBut nei.symm
    · rw [upd_ne (ne c hc')]
      exact (hf c hc').1
  done := by
    intro X hP hw hK hc i pins s σ H E I hf st hg
    subst hP hw hK
    obtain ⟨⟨old, s1⟩, s4⟩ := st
    obtain ⟨xs, hxs, hlen⟩ := hg
    obtain ⟨its, rv, p, _⟩ := I.list hxs
    have hl := rv.length
    have hT : s.TypeIs (.ref e) "enumerate" := ⟨_, s1, rfl⟩
    have fin : ∀ h', Heap.ExtBut it s.heap h' → Inv X pins σ H { s with heap := h' } := fun h' kp => by
      obtain ⟨f0, f1, f2, f3, f4, f5⟩ := hf it (by simp)
      exact I.turned (t' := s.toks) (fun b o hb z => kp b o hb z) f0 f1 f3 f4 f5
    unfold pyNext
    refine wpAny_bind (wpAny_attempt (wpAny_callSpecial?_slot (name := Str.ofString "__next__") hT F.slot_enumerate_next (wpAny_call_entry F.slot_enumerate_next hT F.entry_enumerate_next ?_ (F.args_enumerate_next_1 _))))
    show wpAny _ _ (field (.ref e) 2 >>= _) _ _ _
    refine wpAny_bind (wpAny_field s1 rfl (x := .ref it) rfl ?_)
    refine wpAny_bind (wpAny_nextOf_list_end (I.ok.hd hc) s4 p.isList (by simp; omega) fun h' x he' hx' => ?_)
    obtain ⟨o, ho, hcx⟩ := hx'
    refine wpAny_bind (wpAny_isInstance (T := "StopIteration") (b := true) ⟨o, ho, hcx⟩ isSubtype_stop (wpAny_pure ⟨rfl, fin h' he'⟩))
  self := fun _ _ _ _ _ st h => wpAny_pyIter_enum st.1.choose_spec h
section
variable {X : Cx}
def iEnum (K : PySem.W.Frag) (t : TA) : TI := fun σ H R => t σ H fun vs H1 => ∃ a xs, vs = [.ref a] ∧ SqL K H1 a xs ∧ R (Ite K a) H1
theorem pi_enum {es : List Expr} {k : Nat} {tp : Pos} {a : Expr} {ta : TA} {p pos : Pos} (hg : Gl X "enumerate") (hm : X.mg "enumerate" = none) (ha : PA X [a] ta) (hs : starEach [a] X.env = [(false, eval a X.env)] := by rfl) :
    PI X (.Tuple es k tp) (.Call (.Name "enumerate" p) [a] [] pos) (iEnum X.K ta) := by
  intro pins s σ H R I h
  refine Call_ (ld_blt I hg hm boot_enumerate (PyProof.Rows.callWith_type1 (thn (ha pos pins s σ H _ I h) fun us s1 ⟨vs, H1, I1, r1, q1⟩ => ?_) hs rfl))
  obtain ⟨x, xs, e, hx, q⟩ := q1
  subst e
  obtain ⟨u, rfl, ru⟩ := vals1 r1
  cases ru
  obtain ⟨its, _, p1, _⟩ := I1.list hx
  refine call_enum_lst p1.isList fun h' z1 z4 kp => ?_
  refine wpAny_pyIter_enum z1 ?_
  have lx : x < s1.heap.objs.size := by obtain ⟨_, e, _⟩ := p1.isList; exact Heap.lt_size e
  refine ⟨_, _, _, _, H1, rfl, I1.kept (t' := s1.toks) kp, turn_enum (e := s1.heap.objs.size + 1) (it := s1.heap.objs.size) (a := x) (Nat.succ_ne_self _) (Nat.ne_of_gt (Nat.lt_succ_of_lt lx)) (Nat.ne_of_lt lx), ⟨⟨_, z1⟩, z4⟩, fun c hc => ?_, q⟩
  have hle : s1.heap.objs.size ≤ c := by
    simp only [List.mem_cons, List.not_mem_nil, or_false] at hc
    rcases hc with q | q <;> subst q
    · exact Nat.le_add_right _ 1
    · exact Nat.le_refl _
  exact I1.fpOk hle (I1.hok.fresh hle)
end
end L2.EL

set_option Elab.async false
set_option linter.all false
set_option maxRecDepth 100000
/-! sum of ints; sorted of two pairs of ints. -/
namespace L2
open PySem PySem.Spec PyProof.Rows PySem.Calls
section
variable {X : Cx}
theorem call_sumL (hc : X.calm = true) : CallR X (.builtin "sum") (fun xs H Q => ∃ (p : Addr) (ns : List Int), xs = [.ref p] ∧ (SqL X.K H p (ns.map V.int) ∨ SqT X.K H p (ns.map V.int)) ∧ Q (.int ns.sum) H) := by
  intro pins s σ H xs us Q I r h
  obtain ⟨p, ns, rfl, hq, q⟩ := h
  obtain ⟨u, rfl, ru⟩ := vals1 r
  cases ru
  have go : ∀ its : List Value, Vals (ns.map V.int) its → ∃ zs : Array (Int × Tok), its.toArray = intItems zs ∧ preSum (numAt zs) zs.size = ns.sum := fun its rv => by
    have hi : IntsAre its ns := intsAre_of rv
    obtain ⟨zs, ez⟩ := (hi.allInts : AllInts its.toArray).items
    refine ⟨zs, ez, ?_⟩
    have en : numsOf its.toArray.toList = ns := hi.numsOf
    rw [ez, nums_intItems] at en
    rw [preSum_eq, List.take_of_length_le (by simp), en]
  rcases hq with hq | hq
  · obtain ⟨its, rv, pl, hz⟩ := I.list hq
    obtain ⟨zs, ez, es⟩ := go its rv
    refine sum_intListG (I.ok.hd hc) (ez ▸ pl.isList) fun h' tk t' hk => ?_
    rw [es]
    exact ⟨.int _, H, I.kept (t' := tk) hk, ⟨t', rfl⟩, q⟩
  · obtain ⟨its, rv, pl, hz⟩ := I.tuple hq
    obtain ⟨zs, ez, es⟩ := go its rv
    have ht : s.heap.IsTuple p its.toArray := pl
    refine PySem.W.ktm_sumG (I.ok.hd hc) (ez ▸ ht) fun h' tk t' hk => ?_
    rw [es]
    exact ⟨.int _, H, I.kept (t' := tk) hk, ⟨t', rfl⟩, q⟩
end
section
open PySem.W
variable {prog : Program} {w : World} {A : Around} {E : Value → Shared → Prop} {s : Shared}
end
section
variable {X : Cx}
end
end L2

set_option Elab.async false
set_option linter.all false
set_option maxRecDepth 100000
/-! a comprehension whose own name is a cell (a block inside captures it). -/
namespace L2
open PySem PySem.Spec PyProof.Rows

section
variable {X : Cx} {tg iter elt : Expr} {ifs : List Expr} {scope : Scope} {pos : Pos} {Nc : List Str} {wi : TI} {g : TG} {tt : TT} {te : TE}
end
end L2

set_option Elab.async false
set_option linter.all false
set_option maxRecDepth 100000
/-! list.sort from 64 items on: the merge of runs. -/
namespace Srt
open PySem PyProof.Rows
def gallopP : Bool → Keyed → Array Keyed → Nat → Nat → Nat → StateT SortSt Sem (Option Nat) := sortPriv% PySem.Builtin.gallop
section
variable {prog : Program} {w : World} {A : Around} {E : Value → Shared → Prop} {s : Shared} {κ : PyProof.Rows.KeyKind}
/-- the comparison of two keys, at a state -/
def LtOk (prog : Program) (w : World) (A : Around) (E : Value → Shared → Prop) (s : Shared) (κ : PyProof.Rows.KeyKind) (st : SortSt) : Prop :=
  ∀ (x y : Keyed) (a b : κ.α) (Q : Option Bool → SortSt → Prop), κ.keyOf x.1 = some a → κ.keyOf y.1 = some b → Q (some (κ.blt a b)) st → wpS (model prog w) A E s (lt' x y) Q st
theorem wpS_elem {arr : Array Keyed} {i : Nat} {p : Keyed} {Q : Keyed → SortSt → Prop} {st : SortSt} (e : arr[i]? = some p) (h : Q p st) : wpS (model prog w) A E s (elem' arr i) Q st := by
  rw [elem'_eq, e]
  exact wpS_pure h
/-- where the key belongs: behind all that are beyond -/
def bey (κ : PyProof.Rows.KeyKind) (left : Bool) (k : κ.α) (x : κ.α) : Bool := if left then κ.blt x k else !(κ.blt k x)
theorem wpS_gallop {left : Bool} {key : Keyed} {arr : Array Keyed} {b n h : Nat} {Q : Option Nat → SortSt → Prop} {st : SortSt} {kk : κ.α} (hL : LtOk prog w A E s κ st) (hk : κ.keyOf key.1 = some kk) (hn : h < n)
    (hin : ∀ i, i < n → ∃ p a, arr[b + i]? = some p ∧ κ.keyOf p.1 = some a ∧ KK κ arr (b + i) = a) (hm : ∀ i j, i ≤ j → j < n → bey κ left kk (KK κ arr (b + j)) = true → bey κ left kk (KK κ arr (b + i)) = true)
    (q : ∀ k, k ≤ n → (∀ i, i < k → bey κ left kk (KK κ arr (b + i)) = true) → (∀ i, k ≤ i → i < n → bey κ left kk (KK κ arr (b + i)) = false) → Q (some k) st) :
    wpS (model prog w) A E s (gallopP left key arr b n h) Q st := by
  have hbey : ∀ (i : Nat) (R : Option Bool → SortSt → Prop), i < n → R (some (bey κ left kk (KK κ arr (b + i)))) st → wpS (model prog w) A E s (do
      let x ← elem' arr (b + i)
      if left = true then lt' x key else do
        let r ← lt' key x
        pure (Option.map (fun x => !x) r)) R st := fun i R hi hR => by
    obtain ⟨p, a, e1, e2, e3⟩ := hin i hi
    refine wpS_bind (wpS_elem e1 ?_)
    unfold bey at hR
    rw [e3] at hR
    cases left with
    | true =>
      rw [if_pos rfl]
      exact hL _ _ _ _ _ e2 hk hR
    | false =>
      rw [if_neg (by decide)]
      exact wpS_bind (hL _ _ _ _ _ hk e2 (wpS_pure hR))
  generalize hβ : (fun i => bey κ left kk (KK κ arr (b + i))) = β
  have hβi : ∀ i, bey κ left kk (KK κ arr (b + i)) = β i := fun i => by rw [← hβ]
  simp only [hβi] at hbey hm q
  delta gallopP
  refine wpS_bind (hbey h _ hn ?_)
  cases e0 : β h with
  | true =>
    dsimp only
    rw [if_pos rfl]
    refine wpS_bind (wpS_mono (wpS_forRange (I := fun x c st' => st' = st ∧ c.1 = none ∧ c.2.1 < c.2.2 ∧ c.2.1 < n - h ∧ x < c.2.2 ∧ β (h + c.2.1) = true)
      (Q := fun c st' => st' = st ∧ c.1 = none ∧ c.2.1 < c.2.2 ∧ c.2.1 < n - h ∧ β (h + c.2.1) = true ∧ (c.2.2 ≥ n - h ∨ (c.2.2 < n - h ∧ β (h + c.2.2) = false))) ?_ ?_ ⟨rfl, rfl, (by show 0 < 1; decide), (by show 0 < n - h; omega), (by show 0 < 1; decide), (show β (h + 0) = true from e0)⟩) ?_)
    · rintro x ⟨c0, l, o⟩ st' _ hx ⟨rfl, rfl, g1, g2, g3, g4⟩
      dsimp only at g1 g2 g3 g4 ⊢
      by_cases ho : o ≥ n - h
      · rw [if_pos ho]
        exact wpS_pure ⟨rfl, rfl, g1, g2, g4, .inl ho⟩
      · rw [if_neg ho]
        refine wpS_bind (hbey (h + o) _ (by omega) ?_)
        cases eb : β (h + o) with
        | true =>
          dsimp only
          rw [if_neg (by decide)]
          exact wpS_pure ⟨rfl, rfl, by dsimp only; omega, by dsimp only; omega, by dsimp only; omega, eb⟩
        | false =>
          dsimp only
          rw [if_pos (by decide)]
          exact wpS_pure ⟨rfl, rfl, g1, g2, g4, .inr ⟨by dsimp only; omega, eb⟩⟩
    · rintro ⟨c0, l, o⟩ st' ⟨rfl, rfl, g1, g2, g3, g4⟩
      dsimp only at g1 g2 g3 g4 ⊢
      exact ⟨rfl, rfl, g1, g2, g4, .inl (by omega)⟩
    · rintro ⟨c0, l, o⟩ st' ⟨rfl, rfl, g1, g2, g4, g5⟩
      dsimp only at g1 g2 g4 g5 ⊢
      have w4 : ∀ i, h + min o (n - h) ≤ i → i < n → β i = false := fun i hi hin' => by
        rcases g5 with g5 | ⟨g5, g6⟩
        · omega
        · cases e2 : β i with
          | false => rfl
          | true =>
            have := hm (h + o) i (by omega) hin' e2
            rw [g6] at this
            cases this
      obtain ⟨lo, hlo⟩ : ∃ lo, lo = h + l + 1 := ⟨_, rfl⟩
      obtain ⟨hi, hhi⟩ : ∃ hi, hi = h + min o (n - h) := ⟨_, rfl⟩
      have w1 : lo ≤ hi := by omega
      have w2 : hi ≤ n := by omega
      have w3 : ∀ i, i < lo → β i = true := fun i hi => hm i (h + l) (by omega) (by omega) g4
      have w4 : ∀ i, hi ≤ i → i < n → β i = false := by rw [hhi]; exact w4
      rw [← hlo, ← hhi]
      refine wpS_bind (wpS_mono (wpS_forRange (I := fun x c st'' => st'' = st' ∧ c.1 = none ∧ c.2.1 ≤ c.2.2 ∧ c.2.2 ≤ n ∧ c.2.2 - c.2.1 ≤ n - x ∧ (∀ i, i < c.2.1 → β i = true) ∧ (∀ i, c.2.2 ≤ i → i < n → β i = false))
        (Q := fun c st'' => st'' = st' ∧ c.1 = none ∧ c.2.2 ≤ n ∧ (∀ i, i < c.2.2 → β i = true) ∧ (∀ i, c.2.2 ≤ i → i < n → β i = false)) ?_ ?_ ⟨rfl, rfl, w1, w2, (by show hi - lo ≤ n - 0; omega), w3, w4⟩) ?_)
      · rintro x ⟨c0, l, r⟩ st'' _ hx ⟨rfl, rfl, g1, g2, g3, g4, g5⟩
        dsimp only at g1 g2 g3 g4 g5 ⊢
        by_cases hlr : l ≥ r
        · rw [if_pos hlr]
          have e : l = r := by omega
          exact wpS_pure ⟨rfl, rfl, g2, by rw [← e]; exact g4, g5⟩
        · rw [if_neg hlr]
          refine wpS_bind (hbey (l + (r - l) / 2) _ (by omega) ?_)
          cases eb : β (l + (r - l) / 2) with
          | true =>
            dsimp only
            rw [if_pos rfl]
            exact wpS_pure ⟨rfl, rfl, by dsimp only; omega, g2, by dsimp only; omega, fun i hi => hm i _ (by dsimp only at hi; omega) (by omega) eb, g5⟩
          | false =>
            dsimp only
            rw [if_neg (by decide)]
            refine wpS_pure ⟨rfl, rfl, by dsimp only; omega, by dsimp only; omega, by dsimp only; omega, g4, fun i hi hin' => ?_⟩
            cases e2 : β i with
            | false => rfl
            | true =>
              have := hm (l + (r - l) / 2) i hi hin' e2
              rw [eb] at this
              cases this
      · rintro ⟨c0, l, r⟩ st'' ⟨rfl, rfl, g1, g2, g3, g4, g5⟩
        dsimp only at g1 g2 g3 g4 g5 ⊢
        have e : l = r := by omega
        exact ⟨rfl, rfl, g2, by rw [← e]; exact g4, g5⟩
      · rintro ⟨c0, l, r⟩ st'' ⟨rfl, rfl, g1, g2, g3⟩
        exact wpS_pure (q _ g1 g2 g3)
  | false =>
    dsimp only
    rw [if_neg (by decide)]
    refine wpS_bind (wpS_mono (wpS_forRange (I := fun x c st' => st' = st ∧ c.1 = none ∧ c.2.1 < c.2.2 ∧ c.2.1 < h + 1 ∧ x < c.2.2 ∧ β (h - c.2.1) = false)
      (Q := fun c st' => st' = st ∧ c.1 = none ∧ c.2.1 < c.2.2 ∧ c.2.1 < h + 1 ∧ β (h - c.2.1) = false ∧ (c.2.2 ≥ h + 1 ∨ (c.2.2 < h + 1 ∧ β (h - c.2.2) = true))) ?_ ?_ ⟨rfl, rfl, (by show 0 < 1; decide), (by show 0 < h + 1; omega), (by show 0 < 1; decide), (show β (h - 0) = false from e0)⟩) ?_)
    · rintro x ⟨c0, l, o⟩ st' _ hx ⟨rfl, rfl, g1, g2, g3, g4⟩
      dsimp only at g1 g2 g3 g4 ⊢
      by_cases ho : o ≥ h + 1
      · rw [if_pos ho]
        exact wpS_pure ⟨rfl, rfl, g1, g2, g4, .inl ho⟩
      · rw [if_neg ho]
        refine wpS_bind (hbey (h - o) _ (by omega) ?_)
        cases eb : β (h - o) with
        | false =>
          dsimp only
          rw [if_neg (by decide)]
          exact wpS_pure ⟨rfl, rfl, by dsimp only; omega, by dsimp only; omega, by dsimp only; omega, eb⟩
        | true =>
          dsimp only
          rw [if_pos rfl]
          exact wpS_pure ⟨rfl, rfl, g1, g2, g4, .inr ⟨by dsimp only; omega, eb⟩⟩
    · rintro ⟨c0, l, o⟩ st' ⟨rfl, rfl, g1, g2, g3, g4⟩
      dsimp only at g1 g2 g3 g4 ⊢
      exact ⟨rfl, rfl, g1, g2, g4, .inl (by omega)⟩
    · rintro ⟨c0, l, o⟩ st' ⟨rfl, rfl, g1, g2, g4, g5⟩
      dsimp only at g1 g2 g4 g5 ⊢
      have w3 : ∀ i, i < h + 1 - min o (h + 1) → β i = true := fun i hi => by
        rcases g5 with g5 | ⟨g5, g6⟩
        · omega
        · exact hm i (h - o) (by omega) (by omega) g6
      have w4 : ∀ i, h - l ≤ i → i < n → β i = false := fun i hi hin' => by
        cases e2 : β i with
        | false => rfl
        | true =>
          have := hm (h - l) i hi hin' e2
          rw [g4] at this
          cases this
      obtain ⟨lo, hlo⟩ : ∃ lo, lo = h + 1 - min o (h + 1) := ⟨_, rfl⟩
      obtain ⟨hi, hhi⟩ : ∃ hi, hi = h - l := ⟨_, rfl⟩
      have w1 : lo ≤ hi := by omega
      have w2 : hi ≤ n := by omega
      have w3 : ∀ i, i < lo → β i = true := by rw [hlo]; exact w3
      have w4 : ∀ i, hi ≤ i → i < n → β i = false := by rw [hhi]; exact w4
      rw [← hlo, ← hhi]
      refine wpS_bind (wpS_mono (wpS_forRange (I := fun x c st'' => st'' = st' ∧ c.1 = none ∧ c.2.1 ≤ c.2.2 ∧ c.2.2 ≤ n ∧ c.2.2 - c.2.1 ≤ n - x ∧ (∀ i, i < c.2.1 → β i = true) ∧ (∀ i, c.2.2 ≤ i → i < n → β i = false))
        (Q := fun c st'' => st'' = st' ∧ c.1 = none ∧ c.2.2 ≤ n ∧ (∀ i, i < c.2.2 → β i = true) ∧ (∀ i, c.2.2 ≤ i → i < n → β i = false)) ?_ ?_ ⟨rfl, rfl, w1, w2, (by show hi - lo ≤ n - 0; omega), w3, w4⟩) ?_)
      · rintro x ⟨c0, l, r⟩ st'' _ hx ⟨rfl, rfl, g1, g2, g3, g4, g5⟩
        dsimp only at g1 g2 g3 g4 g5 ⊢
        by_cases hlr : l ≥ r
        · rw [if_pos hlr]
          have e : l = r := by omega
          exact wpS_pure ⟨rfl, rfl, g2, by rw [← e]; exact g4, g5⟩
        · rw [if_neg hlr]
          refine wpS_bind (hbey (l + (r - l) / 2) _ (by omega) ?_)
          cases eb : β (l + (r - l) / 2) with
          | true =>
            dsimp only
            rw [if_pos rfl]
            exact wpS_pure ⟨rfl, rfl, by dsimp only; omega, g2, by dsimp only; omega, fun i hi => hm i _ (by dsimp only at hi; omega) (by omega) eb, g5⟩
          | false =>
            dsimp only
            rw [if_neg (by decide)]
            refine wpS_pure ⟨rfl, rfl, by dsimp only; omega, by dsimp only; omega, by dsimp only; omega, g4, fun i hi hin' => ?_⟩
            cases e2 : β i with
            | false => rfl
            | true =>
              have := hm (l + (r - l) / 2) i hi hin' e2
              rw [eb] at this
              cases this
      · rintro ⟨c0, l, r⟩ st'' ⟨rfl, rfl, g1, g2, g3, g4, g5⟩
        dsimp only at g1 g2 g3 g4 g5 ⊢
        have e : l = r := by omega
        exact ⟨rfl, rfl, g2, by rw [← e]; exact g4, g5⟩
      · rintro ⟨c0, l, r⟩ st'' ⟨rfl, rfl, g1, g2, g3⟩
        exact wpS_pure (q _ g1 g2 g3)
end
end Srt

set_option Elab.async false
set_option linter.all false
set_option maxRecDepth 100000
namespace Srt
open PySem PyProof.Rows
section
variable {α : Type} {le : α → α → Prop}
/-- lo is the merge of what stands ahead of ia in la and ahead of ib in lb; the rest lies behind it -/
structure MI (le : α → α → Prop) (la lb lo : List α) (ia ib : Nat) : Prop where
  pm : lo.Perm (la.take ia ++ lb.take ib)
  sr : lo.Pairwise le
  be : ∀ x ∈ lo, ∀ y, y ∈ la.drop ia ∨ y ∈ lb.drop ib → le x y
theorem mem_drop_of {l : List α} {i j : Nat} {y : α} (hij : i ≤ j) (h : y ∈ l.drop j) : y ∈ l.drop i := by
  have : l.drop j = (l.drop i).drop (j - i) := by rw [List.drop_drop]; congr 1; omega
  rw [this] at h
  exact List.mem_of_mem_drop h
theorem pw_drop {l : List α} (h : l.Pairwise le) {i j : Nat} (hij : i ≤ j) : ∀ x ∈ (l.drop i).take (j - i), ∀ y ∈ l.drop j, le x y := by
  have e : l.drop i = (l.drop i).take (j - i) ++ l.drop j := by
    have := List.take_append_drop (j - i) (l.drop i)
    rw [List.drop_drop] at this
    rw [show i + (j - i) = j by omega] at this
    exact this.symm
  have hp : (l.drop i).Pairwise le := h.sublist (List.drop_sublist _ _)
  rw [e] at hp
  exact fun x hx y hy => (List.pairwise_append.mp hp).2.2 x hx y hy
theorem take_add' (l : List α) (i k : Nat) : l.take (i + k) = l.take i ++ (l.drop i).take k := List.take_add
theorem MI.segA {la lb lo : List α} {ia ib k : Nat} (m : MI le la lb lo ia ib) (sa : la.Pairwise le) (h : ∀ x ∈ (la.drop ia).take k, ∀ y ∈ lb.drop ib, le x y) : MI le la lb (lo ++ (la.drop ia).take k) (ia + k) ib := by
  refine ⟨?_, List.pairwise_append.mpr ⟨m.sr, (sa.sublist (List.drop_sublist _ _)).sublist (List.take_sublist _ _), fun x hx y hy => m.be x hx y (.inl (List.mem_of_mem_take hy))⟩, fun x hx y hy => ?_⟩
  · rw [take_add']
    refine (m.pm.append_right _).trans ?_
    rw [List.append_assoc, List.append_assoc]
    exact List.Perm.append_left _ (List.perm_append_comm)
  · rcases List.mem_append.mp hx with z | z
    · exact m.be x z y (hy.imp (mem_drop_of (by omega)) id)
    · rcases hy with hy | hy
      · have := pw_drop sa (i := ia) (j := ia + k) (by omega) x (by rw [show ia + k - ia = k by omega]; exact z) y hy
        exact this
      · exact h x z y hy
theorem MI.segB {la lb lo : List α} {ia ib k : Nat} (m : MI le la lb lo ia ib) (sb : lb.Pairwise le) (h : ∀ x ∈ (lb.drop ib).take k, ∀ y ∈ la.drop ia, le x y) : MI le la lb (lo ++ (lb.drop ib).take k) ia (ib + k) := by
  refine ⟨?_, List.pairwise_append.mpr ⟨m.sr, (sb.sublist (List.drop_sublist _ _)).sublist (List.take_sublist _ _), fun x hx y hy => m.be x hx y (.inr (List.mem_of_mem_take hy))⟩, fun x hx y hy => ?_⟩
  · rw [take_add']
    refine (m.pm.append_right _).trans ?_
    rw [List.append_assoc]
  · rcases List.mem_append.mp hx with z | z
    · exact m.be x z y (hy.imp id (mem_drop_of (by omega)))
    · rcases hy with hy | hy
      · exact h x z y hy
      · have := pw_drop sb (i := ib) (j := ib + k) (by omega) x (by rw [show ib + k - ib = k by omega]; exact z) y hy
        exact this
/-- what a merge tells: both, in order -/
structure Done (le : α → α → Prop) (la lb lo : List α) : Prop where
  pm : lo.Perm (la ++ lb)
  sr : lo.Pairwise le
theorem MI.endB {la lb lo : List α} {ia ib : Nat} (m : MI le la lb lo ia ib) (sa : la.Pairwise le) (hb : lb.length ≤ ib) : Done le la lb (lo ++ la.drop ia ++ lb.drop ib) := by
  have e : lb.drop ib = [] := List.drop_of_length_le hb
  have e2 : lb.take ib = lb := List.take_of_length_le hb
  rw [e, List.append_nil]
  refine ⟨?_, List.pairwise_append.mpr ⟨m.sr, sa.sublist (List.drop_sublist _ _), fun x hx y hy => m.be x hx y (.inl hy)⟩⟩
  have := m.pm
  rw [e2] at this
  refine (this.append_right _).trans ?_
  rw [List.append_assoc]
  refine (List.Perm.append_left _ List.perm_append_comm).trans ?_
  rw [← List.append_assoc, List.take_append_drop]
theorem MI.endA {la lb lo : List α} {ia ib : Nat} (m : MI le la lb lo ia ib) (sb : lb.Pairwise le) (ha : la.length ≤ ia) : Done le la lb (lo ++ la.drop ia ++ lb.drop ib) := by
  have e : la.drop ia = [] := List.drop_of_length_le ha
  have e2 : la.take ia = la := List.take_of_length_le ha
  rw [e, List.append_nil]
  refine ⟨?_, List.pairwise_append.mpr ⟨m.sr, sb.sublist (List.drop_sublist _ _), fun x hx y hy => m.be x hx y (.inr hy)⟩⟩
  have := m.pm
  rw [e2] at this
  refine (this.append_right _).trans ?_
  rw [List.append_assoc, List.take_append_drop]
theorem MI.last {la lb lo : List α} {ia ib : Nat} (m : MI le la lb lo ia ib) (sa : la.Pairwise le) (sb : lb.Pairwise le) (h : ∀ y ∈ lb.drop ib, ∀ x ∈ la.drop ia, le y x) : Done le la lb (lo ++ lb.drop ib ++ la.drop ia) := by
  refine ⟨?_, List.pairwise_append.mpr ⟨List.pairwise_append.mpr ⟨m.sr, sb.sublist (List.drop_sublist _ _), fun x hx y hy => m.be x hx y (.inr hy)⟩, sa.sublist (List.drop_sublist _ _), fun x hx y hy => ?_⟩⟩
  · refine ((m.pm.append_right _).append_right _).trans ?_
    have e : (la.take ia ++ lb.take ib ++ lb.drop ib ++ la.drop ia) = la.take ia ++ (lb ++ la.drop ia) := by
      rw [List.append_assoc (la.take ia), List.take_append_drop, List.append_assoc]
    rw [e]
    refine (List.Perm.append_left _ List.perm_append_comm).trans ?_
    rw [← List.append_assoc, List.take_append_drop]
  · rcases List.mem_append.mp hx with z | z
    · exact m.be x z y (.inl hy)
    · exact h x z y hy
end
end Srt

set_option Elab.async false
set_option linter.all false
set_option maxRecDepth 100000
/-! list.sort: a run counted, a run made longer, at any place. -/
namespace Srt
open PySem PyProof.Rows
abbrev Sm := StateT SortSt Sem
def ascL (lo a m : Nat) : Sm AscSt :=
  forIn [a:m] ((none, a) : AscSt) fun _ c => do
    let x ← ltAt' (lo + c.snd) (lo + c.snd - 1)
    match x with
    | some b => if b = true then pure (ForInStep.done (none, c.snd)) else pure (ForInStep.yield (none, c.snd + 1))
    | _ => pure (ForInStep.done (some none, c.snd))
def tailL (lo n m : Nat) : Sm (Option Nat) := do
  reverseSlice' lo (lo + n)
  let c ← ascL lo n m
  match c.fst with
  | some r => pure r
  | none => pure (some c.snd)
def descL (lo n m : Nat) : Sm DescSt :=
  forIn [n:m] ((none, n, 0) : DescSt) fun _ c => do
    let x ← ltAt' (lo + c.snd.fst) (lo + c.snd.fst - 1)
    match x with
    | some b =>
      if b = true then
        if c.snd.snd > 0 then do
          reverseSlice' (lo + c.snd.fst - (c.snd.snd + 1)) (lo + c.snd.fst)
          pure (ForInStep.yield (none, c.snd.fst + 1, 0))
        else pure (ForInStep.yield (none, c.snd.fst + 1, 0))
      else do
        let y ← ltAt' (lo + c.snd.fst - 1) (lo + c.snd.fst)
        match y with
        | some d =>
          if d = true then pure (ForInStep.done (none, c.snd.fst, c.snd.snd))
          else pure (ForInStep.yield (none, c.snd.fst + 1, c.snd.snd + 1))
        | _ => pure (ForInStep.done (some none, c.snd.fst, c.snd.snd))
    | _ => pure (ForInStep.done (some none, c.snd.fst, c.snd.snd))
def partL (lo n m : Nat) : Sm (Option Nat) := do
  liftM (rule "list.sort.descending-run")
  let c ← descL lo (n + 1) m
  match c.fst with
  | some r => pure r
  | none =>
    if c.snd.snd > 0 then do
      reverseSlice' (lo + c.snd.fst - (c.snd.snd + 1)) (lo + c.snd.fst)
      tailL lo c.snd.fst m
    else tailL lo c.snd.fst m
theorem bc {α β : Type} {m m' : Sm α} {f f' : α → Sm β} (h : m = m') (h' : f = f') : (m >>= f) = (m' >>= f') := by rw [h, h']
theorem countL_eq (lo m : Nat) : countRun' lo m = (do
    let c ← ascL lo 1 m
    match c.fst with
    | some r => pure r
    | none =>
      if (c.snd == m) = true then pure (some c.snd)
      else if c.snd > 1 then do
        let x ← ltAt' lo (lo + c.snd - 1)
        match x with
        | some b => if b = true then pure (some c.snd) else do
            reverseSlice' lo (lo + c.snd)
            partL lo c.snd m
        | _ => pure none
      else partL lo c.snd m) := by
  rw [countRun'_eq]
  have tl : ∀ n : Nat, ((do
      reverseSlice' lo (lo + n)
      let mut n := n
      for _ in [n:m] do
        let some smaller ← ltAt' (lo + n) (lo + n - 1) | return none
        if smaller then break
        n := n + 1
      return some n) : Sm (Option Nat)) = tailL lo n m := fun n => by
    unfold tailL ascL
    refine bc rfl (funext fun u => bc rfl (funext fun c => ?_))
    obtain ⟨r, n⟩ := c
    cases r <;> rfl
  have pl : ∀ n : Nat, ((do
      rule "list.sort.descending-run"
      let mut n := n + 1
      let mut neq := 0
      for _ in [n:m] do
        let some smaller ← ltAt' (lo + n) (lo + n - 1) | return none
        if smaller then
          if neq > 0 then reverseSlice' (lo + n - (neq + 1)) (lo + n)
          neq := 0
        else
          let some larger ← ltAt' (lo + n - 1) (lo + n) | return none
          if larger then break
          neq := neq + 1
        n := n + 1
      if neq > 0 then reverseSlice' (lo + n - (neq + 1)) (lo + n)
      reverseSlice' lo (lo + n)
      for _ in [n:m] do
        let some smaller ← ltAt' (lo + n) (lo + n - 1) | return none
        if smaller then break
        n := n + 1
      return some n) : Sm (Option Nat)) = partL lo n m := fun n => by
    unfold partL descL
    refine bc rfl (funext fun u => bc rfl (funext fun c => ?_))
    obtain ⟨r, n2, q2⟩ := c
    cases r with
    | some r => rfl
    | none =>
      dsimp only
      split
      · exact bc rfl (funext fun u => tl n2)
      · exact tl n2
  unfold ascL
  refine bc rfl (funext fun c => ?_)
  obtain ⟨r, n⟩ := c
  cases r with
  | some r => rfl
  | none =>
    dsimp only
    split
    · rfl
    · split
      · refine bc rfl (funext fun x => ?_)
        cases x with
        | none => rfl
        | some b =>
          dsimp only
          split
          · rfl
          · exact bc rfl (funext fun u => pl n)
      · exact pl n
/-- what stays through: the kind, no fault, the things -/
structure SB (ks : SortKind) (a₀ : Array Keyed) (st : SortSt) : Prop where
  kind : kindOf st = ks
  ok : failedOf st = none
  pm : (arrOf st).Perm a₀
def Seg (κ : PyProof.Rows.KeyKind) (xs : Array Keyed) (a b : Nat) : Prop := ∀ i j, a ≤ i → i ≤ j → j < b → κ.kle (KK κ xs i) (KK κ xs j)
def Non (κ : PyProof.Rows.KeyKind) (xs : Array Keyed) (a b : Nat) : Prop := ∀ i j, a ≤ i → i ≤ j → j < b → κ.kle (KK κ xs j) (KK κ xs i)
/-- outside of a .. b nothing is turned; the rest of the state as well -/
structure Out (st st' : SortSt) (a b : Nat) : Prop where
  out : ∀ k, (k < a ∨ b ≤ k) → (arrOf st')[k]? = (arrOf st)[k]?
  pend : pendingOf st' = pendingOf st
theorem Out.refl (st : SortSt) (a b : Nat) : Out st st a b := ⟨fun _ _ => rfl, rfl⟩
theorem Out.trans {st st1 st2 : SortSt} {a b : Nat} (h : Out st st1 a b) (h' : Out st1 st2 a b) : Out st st2 a b := ⟨fun k hk => (h'.out k hk).trans (h.out k hk), h'.pend.trans h.pend⟩
section
variable {prog : Program} {w : World} {A : Around} {E : Value → Shared → Prop} {s : Shared} {κ : PyProof.Rows.KeyKind} {ks : SortKind} {a₀ : Array Keyed}
def LtAll (prog : Program) (w : World) (A : Around) (E : Value → Shared → Prop) (s : Shared) (κ : PyProof.Rows.KeyKind) (ks : SortKind) : Prop := ∀ st, kindOf st = ks → LtOk prog w A E s κ st
theorem SB.size {st : SortSt} (B : SB ks a₀ st) : (arrOf st).size = a₀.size := B.pm.size_eq
theorem SB.item {st : SortSt} (B : SB ks a₀ st) (h0 : KeysOf κ a₀) {i : Nat} (hi : i < a₀.size) : ∃ p a, (arrOf st)[i]? = some p ∧ κ.keyOf p.1 = some a ∧ KK κ (arrOf st) i = a := by
  have hi' : i < (arrOf st).size := by rw [B.size]; exact hi
  have e : (arrOf st)[i]? = some (arrOf st)[i] := Array.getElem?_eq_getElem hi'
  have hm : (arrOf st)[i] ∈ a₀.toList := (Array.perm_iff_toList_perm.mp B.pm).mem_iff.mp (Array.mem_toList_iff.mpr (Array.getElem_mem hi'))
  obtain ⟨a, ha⟩ := h0 _ hm
  refine ⟨_, a, e, ha, ?_⟩
  unfold KK
  rw [e]
  dsimp only
  rw [ha]
  rfl
theorem SB.arr {st : SortSt} (B : SB ks a₀ st) {xs : Array Keyed} (h : xs.Perm (arrOf st)) : SB ks a₀ (setArr st xs) := ⟨B.kind, B.ok, h.trans B.pm⟩
theorem ltA (hL : LtAll prog w A E s κ ks) {st : SortSt} {i j : Nat} {Q : Option Bool → SortSt → Prop} (B : SB ks a₀ st) (h0 : KeysOf κ a₀) (hi : i < a₀.size) (hj : j < a₀.size) (h : Q (some (κ.blt (KK κ (arrOf st) i) (KK κ (arrOf st) j))) st) :
    wpS (model prog w) A E s (ltAt' i j) Q st := by
  obtain ⟨p, a, e1, ka, ea⟩ := B.item (κ := κ) h0 hi
  obtain ⟨q, b, e2, kb, eb⟩ := B.item (κ := κ) h0 hj
  rw [ea, eb] at h
  rw [ltAt'_eq]
  refine wpS_bind (wpS_get (wpS_bind (wpS_elem e1 (wpS_bind (wpS_elem e2 ?_)))))
  exact hL st B.kind p q a b Q ka kb h
theorem rev_wp {st : SortSt} {i j : Nat} {Q : Unit → SortSt → Prop} (h : Q () (setArr st (mirror (arrOf st) i j ((j - i) / 2)))) : wpS (model prog w) A E s (reverseSlice' i j) Q st := wpS_reverse h
theorem Out.rev {st : SortSt} {i j a b : Nat} (hj : j ≤ (arrOf st).size) (h1 : a ≤ i) (h2 : j ≤ b) : Out st (setArr st (mirror (arrOf st) i j ((j - i) / 2))) a b := by
  refine ⟨fun k hk => ?_, rfl⟩
  show (mirror (arrOf st) i j ((j - i) / 2))[k]? = _
  rw [getElem?_mirror_all hj, if_neg (by omega)]
theorem ascL_wp (hL : LtAll prog w A E s κ ks) (h0 : KeysOf κ a₀) {st : SortSt} {lo a m : Nat} {Q : AscSt → SortSt → Prop} (hn : lo + m ≤ a₀.size) (ha : 1 ≤ a) (ham : a ≤ m) (B : SB ks a₀ st) (hs : Seg κ (arrOf st) lo (lo + a))
    (h : ∀ n, a ≤ n → n ≤ m → Seg κ (arrOf st) lo (lo + n) → (n = m ∨ κ.klt (KK κ (arrOf st) (lo + n)) (KK κ (arrOf st) (lo + n - 1))) → Q (none, n) st) : wpS (model prog w) A E s (ascL lo a m) Q st := by
  unfold ascL
  refine wpS_forRange (I := fun x c st' => st' = st ∧ c = (none, x) ∧ Seg κ (arrOf st) lo (lo + x)) ?_ ?_ ⟨rfl, rfl, hs⟩
  · rintro x c st' hax hxm ⟨rfl, rfl, hs'⟩
    dsimp only
    refine wpS_bind (ltA hL B h0 (by omega) (by omega) ?_)
    cases e : κ.blt (KK κ (arrOf st') (lo + x)) (KK κ (arrOf st') (lo + x - 1)) with
    | true =>
      dsimp only
      rw [if_pos rfl]
      exact wpS_pure (h x hax (by omega) hs' (.inr e))
    | false =>
      dsimp only
      rw [if_neg (by decide)]
      refine wpS_pure ⟨rfl, rfl, fun i j hi hij hj => ?_⟩
      by_cases hjx : j < lo + x
      · exact hs' i j hi hij hjx
      · have ej : j = lo + x := by omega
        subst ej
        by_cases ei : i = lo + x
        · rw [ei]
          exact KeyOrd.kle_refl _
        · exact KeyOrd.kle_trans (hs' i (lo + x - 1) hi (by omega) (by omega)) e
  · rintro c st' ⟨rfl, rfl, hs'⟩
    rw [show max a m = m by omega] at hs' ⊢
    exact h m ham (Nat.le_refl _) hs' (.inl rfl)
theorem tailL_wp (hL : LtAll prog w A E s κ ks) (h0 : KeysOf κ a₀) {st : SortSt} {lo n m : Nat} {Q : Option Nat → SortSt → Prop} (hn : lo + m ≤ a₀.size) (h1 : 1 ≤ n) (hnm : n ≤ m) (B : SB ks a₀ st) (hs : Non κ (arrOf st) lo (lo + n))
    (h : ∀ k st', SB ks a₀ st' → Out st st' lo (lo + m) → 1 ≤ k → k ≤ m → Seg κ (arrOf st') lo (lo + k) → Q (some k) st') : wpS (model prog w) A E s (tailL lo n m) Q st := by
  unfold tailL
  have hsz : lo + n ≤ (arrOf st).size := by rw [B.size]; omega
  refine wpS_bind (rev_wp ?_)
  have B' := B.arr (mirror_perm (arrOf st) lo (lo + n) ((lo + n - lo) / 2))
  refine wpS_bind (ascL_wp hL h0 hn h1 hnm B' ?_ fun k hk1 hk2 hsk _ => wpS_pure (h k _ B' (Out.rev hsz (Nat.le_refl _) (by omega)) (by omega) hk2 hsk))
  intro i j hi hij hj
  show κ.kle (KK κ (mirror (arrOf st) lo (lo + n) ((lo + n - lo) / 2)) i) (KK κ (mirror (arrOf st) lo (lo + n) ((lo + n - lo) / 2)) j)
  rw [KK_mirror hsz, KK_mirror hsz, if_pos (by omega), if_pos (by omega)]
  exact hs _ _ (by omega) (by omega) (by omega)
theorem descL_wp (hL : LtAll prog w A E s κ ks) (h0 : KeysOf κ a₀) {st : SortSt} {lo n m : Nat} {Q : DescSt → SortSt → Prop} (hn : lo + m ≤ a₀.size) (h1 : 1 ≤ n) (hnm : n ≤ m) (B : SB ks a₀ st) (hs : Non κ (arrOf st) lo (lo + n))
    (h : ∀ k q st', SB ks a₀ st' → Out st st' lo (lo + m) → n ≤ k → k ≤ m → Non κ (arrOf st') lo (lo + k) → q + 1 ≤ k → (∀ i, lo + k - (q + 1) ≤ i → i < lo + k → KK κ (arrOf st') i = KK κ (arrOf st') (lo + k - 1)) → Q (none, k, q) st') :
    wpS (model prog w) A E s (descL lo n m) Q st := by
  unfold descL
  refine wpS_forRange (I := fun x c st' => ∃ q, c = (none, x, q) ∧ SB ks a₀ st' ∧ Out st st' lo (lo + m) ∧ Non κ (arrOf st') lo (lo + x) ∧ q + 1 ≤ x ∧ (∀ i, lo + x - (q + 1) ≤ i → i < lo + x → KK κ (arrOf st') i = KK κ (arrOf st') (lo + x - 1))) ?_ ?_
    ⟨0, rfl, B, Out.refl _ _ _, hs, by omega, fun i z1 z2 => by congr 1; omega⟩
  · rintro x c st' hax hxm ⟨q, rfl, B', O', hs', hq, he⟩
    dsimp only
    have hsz : lo + x ≤ (arrOf st').size := by rw [B'.size]; omega
    refine wpS_bind (ltA hL B' h0 (by omega) (by omega) ?_)
    cases e : κ.blt (KK κ (arrOf st') (lo + x)) (KK κ (arrOf st') (lo + x - 1)) with
    | true =>
      dsimp only
      rw [if_pos rfl]
      have more : ∀ xs : Array Keyed, (∀ k, KK κ xs k = KK κ (arrOf st') k) → Non κ xs lo (lo + (x + 1)) := fun xs hk i j hi hij hj => by
        rw [hk, hk]
        by_cases hjx : j < lo + x
        · exact hs' i j hi hij hjx
        · have ej : j = lo + x := by omega
          subst ej
          by_cases ei : i = lo + x
          · rw [ei]
            exact KeyOrd.kle_refl _
          · exact KeyOrd.kle_trans (KeyOrd.kle_of_klt e) (hs' i (lo + x - 1) hi (by omega) (by omega))
      by_cases hq0 : q > 0
      · rw [if_pos hq0]
        refine wpS_bind (rev_wp (wpS_pure ⟨0, rfl, B'.arr (mirror_perm _ _ _ _), O'.trans (Out.rev hsz (by omega) (by omega)), more _ (KK_mirror_equal hsz he), by omega, fun i z1 z2 => by congr 1; omega⟩))
      · rw [if_neg hq0]
        exact wpS_pure ⟨0, rfl, B', O', more _ (fun _ => rfl), by omega, fun i z1 z2 => by congr 1; omega⟩
    | false =>
      dsimp only
      rw [if_neg (by decide)]
      refine wpS_bind (ltA hL B' h0 (by omega) (by omega) ?_)
      cases e2 : κ.blt (KK κ (arrOf st') (lo + x - 1)) (KK κ (arrOf st') (lo + x)) with
      | true =>
        dsimp only
        rw [if_pos rfl]
        exact wpS_pure (h x q st' B' O' hax (by omega) hs' hq he)
      | false =>
        dsimp only
        rw [if_neg (by decide)]
        have ex : KK κ (arrOf st') (lo + x) = KK κ (arrOf st') (lo + x - 1) := KeyOrd.kle_antisymm e2 e
        refine wpS_pure ⟨q + 1, rfl, B', O', fun i j hi hij hj => ?_, by omega, fun i z1 z2 => ?_⟩
        · by_cases hjx : j < lo + x
          · exact hs' i j hi hij hjx
          · have ej : j = lo + x := by omega
            subst ej
            by_cases ei : i = lo + x
            · rw [ei]
              exact KeyOrd.kle_refl _
            · rw [ex]
              exact hs' i (lo + x - 1) hi (by omega) (by omega)
        · rw [show lo + (x + 1) - 1 = lo + x by omega]
          by_cases ei : i = lo + x
          · rw [ei]
          · rw [ex]
            exact he i (by omega) (by omega)
  · rintro c st' ⟨q, rfl, B', O', hs', hq, he⟩
    rw [show max n m = m by omega] at hs' hq he ⊢
    exact h m q st' B' O' hnm (Nat.le_refl _) hs' hq he
theorem partL_wp (hL : LtAll prog w A E s κ ks) (h0 : KeysOf κ a₀) {st : SortSt} {lo n m : Nat} {Q : Option Nat → SortSt → Prop} (hn : lo + m ≤ a₀.size) (hnm : n + 1 ≤ m) (B : SB ks a₀ st) (hs : Non κ (arrOf st) lo (lo + (n + 1)))
    (h : ∀ k st', SB ks a₀ st' → Out st st' lo (lo + m) → 1 ≤ k → k ≤ m → Seg κ (arrOf st') lo (lo + k) → Q (some k) st') : wpS (model prog w) A E s (partL lo n m) Q st := by
  unfold partL
  refine wpS_bind (wpS_lift (wpAny_rule ⟨rfl, ?_⟩))
  refine wpS_bind (descL_wp hL h0 hn (by omega) hnm B hs fun k q st' B' O' k1 k2 hs' hq he => ?_)
  dsimp only
  have hsz : lo + k ≤ (arrOf st').size := by rw [B'.size]; omega
  by_cases hq0 : q > 0
  · rw [if_pos hq0]
    refine wpS_bind (rev_wp (tailL_wp hL h0 hn (by omega) k2 (B'.arr (mirror_perm _ _ _ _)) ?_ fun k' st2 B2 O2 => h k' st2 B2 ((O'.trans (Out.rev hsz (by omega) (by omega))).trans O2)))
    intro i j hi hij hj
    show κ.kle (KK κ (mirror (arrOf st') _ _ _) j) (KK κ (mirror (arrOf st') _ _ _) i)
    rw [KK_mirror_equal hsz he, KK_mirror_equal hsz he]
    exact hs' i j hi hij hj
  · rw [if_neg hq0]
    exact tailL_wp hL h0 hn (by omega) k2 B' hs' fun k' st2 B2 O2 => h k' st2 B2 (O'.trans O2)
theorem count_wp (hL : LtAll prog w A E s κ ks) (h0 : KeysOf κ a₀) {st : SortSt} {lo m : Nat} {Q : Option Nat → SortSt → Prop} (hn : lo + m ≤ a₀.size) (h1 : 1 ≤ m) (B : SB ks a₀ st)
    (h : ∀ k st', SB ks a₀ st' → Out st st' lo (lo + m) → 1 ≤ k → k ≤ m → Seg κ (arrOf st') lo (lo + k) → Q (some k) st') : wpS (model prog w) A E s (countRun' lo m) Q st := by
  rw [countL_eq]
  refine wpS_bind (ascL_wp hL h0 hn (Nat.le_refl 1) h1 B (fun i j hi hij hj => by have : i = j := (by omega); rw [this]; exact KeyOrd.kle_refl _) fun n n1 n2 hsn hor => ?_)
  dsimp only
  by_cases hnm : n = m
  · rw [if_pos (by simpa using hnm)]
    exact wpS_pure (h n st B (Out.refl _ _ _) n1 n2 hsn)
  · rw [if_neg (by simpa using hnm)]
    have hlt := hor.resolve_left hnm
    by_cases hgt : n > 1
    · rw [if_pos hgt]
      refine wpS_bind (ltA hL B h0 (by omega) (by omega) ?_)
      cases e : κ.blt (KK κ (arrOf st) lo) (KK κ (arrOf st) (lo + n - 1)) with
      | true =>
        dsimp only
        rw [if_pos rfl]
        exact wpS_pure (h n st B (Out.refl _ _ _) n1 n2 hsn)
      | false =>
        dsimp only
        rw [if_neg (by decide)]
        have hsz : lo + n ≤ (arrOf st).size := by rw [B.size]; omega
        have hall : ∀ k, lo ≤ k → k < lo + n → KK κ (arrOf st) k = KK κ (arrOf st) (lo + n - 1) := fun k hk0 hk => by
          have a1 := hsn lo k (Nat.le_refl _) hk0 hk
          have a2 := hsn k (lo + n - 1) hk0 (by omega) (by omega)
          exact KeyOrd.kle_antisymm a2 (KeyOrd.kle_trans e a1)
        refine wpS_bind (rev_wp (partL_wp hL h0 hn (by omega) (B.arr (mirror_perm _ _ _ _)) ?_ fun k st2 B2 O2 => h k st2 B2 ((Out.rev hsz (Nat.le_refl _) (by omega)).trans O2)))
        intro i j hi hij hj
        show κ.kle (KK κ (mirror (arrOf st) _ _ _) j) (KK κ (mirror (arrOf st) _ _ _) i)
        rw [KK_mirror_equal hsz hall, KK_mirror_equal hsz hall]
        by_cases hjn : j < lo + n
        · rw [hall i hi (by omega), hall j (by omega) hjn]
          exact KeyOrd.kle_refl _
        · have ej : j = lo + n := by omega
          subst ej
          by_cases ei : i = lo + n
          · rw [ei]
            exact KeyOrd.kle_refl _
          · rw [hall i hi (by omega)]
            exact KeyOrd.kle_of_klt hlt
    · rw [if_neg hgt]
      have e1 : n = 1 := by omega
      subst e1
      refine partL_wp hL h0 hn (by omega) B ?_ h
      intro i j hi hij hj
      by_cases ei : i = j
      · rw [ei]
        exact KeyOrd.kle_refl _
      · have i0 : i = lo := by omega
        have j1 : j = lo + 1 := by omega
        rw [i0, j1]
        exact KeyOrd.kle_of_klt hlt
/-- binary insertion -/
theorem bin_wp (hL : LtAll prog w A E s κ ks) (h0 : KeysOf κ a₀) {st : SortSt} {lo n ok : Nat} {Q : Bool → SortSt → Prop} (hn : lo + n ≤ a₀.size) (hok : ok ≤ n) (B : SB ks a₀ st) (hs : Seg κ (arrOf st) lo (lo + ok))
    (h : ∀ st', SB ks a₀ st' → Out st st' lo (lo + n) → Seg κ (arrOf st') lo (lo + n) → Q true st') : wpS (model prog w) A E s (binarySort' lo n ok) Q st := by
  rw [binarySort'_eq]
  refine wpS_bind (wpS_mono (wpS_forRange (I := fun k c st' => c = (none, ()) ∧ SB ks a₀ st' ∧ Out st st' lo (lo + n) ∧ Seg κ (arrOf st') lo (lo + min k n))
    (Q := fun c st' => c = (none, ()) ∧ SB ks a₀ st' ∧ Out st st' lo (lo + n) ∧ Seg κ (arrOf st') lo (lo + n)) ?_ ?_ ?_) ?_)
  · rintro k c st' hk0 hkn ⟨rfl, B', O', hs'⟩
    rw [show min k n = k by omega] at hs'
    refine wpS_bind (wpS_mono (wpS_forRange (I := fun x c st2 => st2 = st' ∧ ∃ l r, c = (none, l, r) ∧ l ≤ r ∧ r ≤ k ∧ r - l ≤ k - x ∧ (∀ i, i < l → κ.kle (KK κ (arrOf st') (lo + i)) (KK κ (arrOf st') (lo + k))) ∧ (∀ i, r ≤ i → i < k → κ.klt (KK κ (arrOf st') (lo + k)) (KK κ (arrOf st') (lo + i))))
      (Q := fun c st2 => st2 = st' ∧ ∃ l r, c = (none, l, r) ∧ l ≤ k ∧ (∀ i, i < l → κ.kle (KK κ (arrOf st') (lo + i)) (KK κ (arrOf st') (lo + k))) ∧ (∀ i, l ≤ i → i < k → κ.klt (KK κ (arrOf st') (lo + k)) (KK κ (arrOf st') (lo + i)))) ?_ ?_ ?_) ?_)
    · rintro x c st2 _ hxk ⟨rfl, l, r, rfl, hlr, hrk, hm, hlo, hhi⟩
      dsimp only
      by_cases hge : l ≥ r
      · rw [if_pos hge]
        have e : l = r := by omega
        subst e
        exact wpS_pure ⟨rfl, l, l, rfl, hrk, hlo, hhi⟩
      · rw [if_neg hge]
        refine wpS_bind (ltA hL B' h0 (by omega) (by omega) ?_)
        cases e : κ.blt (KK κ (arrOf st2) (lo + k)) (KK κ (arrOf st2) (lo + (l + r) / 2)) with
        | true =>
          dsimp only
          rw [if_pos rfl]
          exact wpS_pure ⟨rfl, l, (l + r) / 2, rfl, by omega, by omega, by omega, hlo, fun i z1 z2 => KeyOrd.klt_of_klt_of_kle e (hs' (lo + (l + r) / 2) (lo + i) (by omega) (by omega) (by omega))⟩
        | false =>
          dsimp only
          rw [if_neg (by decide)]
          exact wpS_pure ⟨rfl, (l + r) / 2 + 1, r, rfl, by omega, by omega, by omega, fun i z1 => KeyOrd.kle_trans (hs' (lo + i) (lo + (l + r) / 2) (by omega) (by omega) (by omega)) (show κ.kle _ _ from e), hhi⟩
    · rintro c st2 ⟨rfl, l, r, rfl, hlr, hrk, hm, hlo, hhi⟩
      have e : l = r := by omega
      subst e
      exact ⟨rfl, l, l, rfl, hrk, hlo, hhi⟩
    · exact ⟨rfl, 0, k, rfl, by omega, by omega, by omega, fun i hi => by omega, fun i z1 z2 => by omega⟩
    · rintro c st2 ⟨rfl, l, r, rfl, hlk, hlo, hhi⟩
      show wpS _ _ _ _ (do moveDown' (lo + k) (lo + l); pure (ForInStep.yield (none, ()))) _ _
      rw [moveDown'_eq]
      have hks : lo + k < (arrOf st2).size := by rw [B'.size]; omega
      refine wpS_bind (wpS_modify (wpS_pure ⟨rfl, B'.arr (bubble_perm _ _ _), O'.trans ⟨fun z hz => ?_, rfl⟩, ?_⟩))
      · show (bubble (arrOf st2) (lo + k) (lo + k - (lo + l)))[z]? = _
        rw [getElem?_bubble hks _ (by omega), if_neg (by omega), if_neg (by omega)]
      · rw [show min (k + 1) n = k + 1 by omega]
        intro i j hi hij hj
        show κ.kle (KK κ (bubble (arrOf st2) (lo + k) (lo + k - (lo + l))) i) (KK κ (bubble (arrOf st2) (lo + k) (lo + k - (lo + l))) j)
        rw [KK_bubble hks (by omega), KK_bubble hks (by omega), show lo + k - (lo + k - (lo + l)) = lo + l by omega]
        have hlo' : ∀ z, lo ≤ z → z < lo + l → κ.kle (KK κ (arrOf st2) z) (KK κ (arrOf st2) (lo + k)) := fun z z1 z2 => by
          have := hlo (z - lo) (by omega)
          rw [show lo + (z - lo) = z by omega] at this
          exact this
        have hhi' : ∀ z, lo + l ≤ z → z < lo + k → κ.kle (KK κ (arrOf st2) (lo + k)) (KK κ (arrOf st2) z) := fun z z1 z2 => by
          have := hhi (z - lo) (by omega) (by omega)
          rw [show lo + (z - lo) = z by omega] at this
          exact KeyOrd.kle_of_klt this
        repeat' split
        all_goals first
          | (exfalso; omega)
          | exact KeyOrd.kle_refl _
          | exact hlo' _ (by omega) (by omega)
          | exact hhi' _ (by omega) (by omega)
          | exact hs' _ _ (by omega) (by omega) (by omega)
  · rintro c st' ⟨hc, B', O', hs'⟩
    refine ⟨hc, B', O', ?_⟩
    rwa [show min (max (max ok 1) n) n = n by omega] at hs'
  · refine ⟨rfl, B, Out.refl _ _ _, fun i j hi hij hj => ?_⟩
    by_cases z : ok = 0
    · have e : i = j := by omega
      rw [e]
      exact KeyOrd.kle_refl _
    · exact hs i j hi hij (by omega)
  · rintro c st' ⟨rfl, B', O', hs'⟩
    exact wpS_pure (h st' B' O' hs')
end
end Srt

set_option Elab.async false
set_option linter.all false
set_option maxRecDepth 100000
/-! list.sort: two runs merged from the left. -/
namespace Srt
open PySem PyProof.Rows
def mergeLoP : Array Keyed → Array Keyed → Sm (Array Keyed) := sortPriv% PySem.Builtin.mergeLo
def setMinP : Nat → Sm Unit := sortPriv% PySem.Builtin.setMinGallop
/-- told, out, ia, ib; the counts -/
abbrev C1 := Option (Array Keyed) × Array Keyed × Nat × Nat × Nat × Nat
abbrev C2 := Option (Array Keyed) × Array Keyed × Nat × Nat × Nat × Nat × Nat
abbrev C0 := Option (Array Keyed) × Array Keyed × Nat × Nat × Nat
def one (a b : Array Keyed) (g : Nat) (out : Array Keyed) (ia ib ac bc : Nat) : Sm (ForInStep C1) := do
  let y ← elem' b ib
  let x ← elem' a ia
  let r ← lt' y x
  match r with
  | some w =>
    if w = true then do
      let y ← elem' b ib
      if (ib + 1 == b.size) = true then pure (ForInStep.done (some (out.push y ++ a.extract ia a.size ++ b.extract (ib + 1) b.size), out.push y, ia, ib + 1, 0, bc + 1))
      else if bc + 1 ≥ g then pure (ForInStep.done (none, out.push y, ia, ib + 1, 0, bc + 1)) else pure (ForInStep.yield (none, out.push y, ia, ib + 1, 0, bc + 1))
    else do
      let x ← elem' a ia
      if (ia + 1 + 1 == a.size) = true then pure (ForInStep.done (some (out.push x ++ b.extract ib b.size ++ a.extract (ia + 1) a.size), out.push x, ia + 1, ib, ac + 1, 0))
      else if ac + 1 ≥ g then pure (ForInStep.done (none, out.push x, ia + 1, ib, ac + 1, 0)) else pure (ForInStep.yield (none, out.push x, ia + 1, ib, ac + 1, 0))
  | _ => pure (ForInStep.done (some (out ++ a.extract ia a.size ++ b.extract ib b.size), out, ia, ib, ac, bc))
def gl4 (a b : Array Keyed) (out : Array Keyed) (ia ib g k k1 : Nat) : Sm (ForInStep C2) := do
  let x ← elem' a ia
  if (ia + 1 + 1 == a.size) = true then pure (ForInStep.done (some (out.push x ++ b.extract ib b.size ++ a.extract (ia + 1) a.size), out.push x, ia + 1, ib, g, k, k1))
  else if (decide (k < 7) && decide (k1 < 7)) = true then pure (ForInStep.done (none, out.push x, ia + 1, ib, g, k, k1)) else pure (ForInStep.yield (none, out.push x, ia + 1, ib, g, k, k1))
def gl3 (a b : Array Keyed) (out : Array Keyed) (ia ib g k bc : Nat) : Sm (ForInStep C2) := do
  let x ← elem' a ia
  let r ← gallopP true x b ib (b.size - ib) 0
  match r with
  | some k1 =>
    if k1 > 0 then
      if (ib + k1 == b.size) = true then pure (ForInStep.done (some (out ++ b.extract ib (ib + k1) ++ a.extract ia a.size ++ b.extract (ib + k1) b.size), out ++ b.extract ib (ib + k1), ia, ib + k1, g, k, k1))
      else gl4 a b (out ++ b.extract ib (ib + k1)) ia (ib + k1) g k k1
    else gl4 a b out ia ib g k k1
  | _ => pure (ForInStep.done (some (out ++ a.extract ia a.size ++ b.extract ib b.size), out, ia, ib, g, k, bc))
def gl2 (a b : Array Keyed) (out : Array Keyed) (ia ib g k bc : Nat) : Sm (ForInStep C2) := do
  let y ← elem' b ib
  if (ib + 1 == b.size) = true then pure (ForInStep.done (some (out.push y ++ a.extract ia a.size ++ b.extract (ib + 1) b.size), out.push y, ia, ib + 1, g, k, bc))
  else gl3 a b (out.push y) ia (ib + 1) g k bc
def gl1 (a b : Array Keyed) (out : Array Keyed) (ia ib g ac bc : Nat) : Sm (ForInStep C2) := do
  setMinP g
  let y ← elem' b ib
  let r ← gallopP false y a ia (a.size - ia) 0
  match r with
  | some k =>
    if k > 0 then
      if (ia + k + 1 == a.size) = true then pure (ForInStep.done (some (out ++ a.extract ia (ia + k) ++ b.extract ib b.size ++ a.extract (ia + k) a.size), out ++ a.extract ia (ia + k), ia + k, ib, g, k, bc))
      else if (ia + k == a.size) = true then pure (ForInStep.done (some (out ++ a.extract ia (ia + k) ++ a.extract (ia + k) a.size ++ b.extract ib b.size), out ++ a.extract ia (ia + k), ia + k, ib, g, k, bc))
      else gl2 a b (out ++ a.extract ia (ia + k)) (ia + k) ib g k bc
    else gl2 a b out ia ib g k bc
  | _ => pure (ForInStep.done (some (out ++ a.extract ia a.size ++ b.extract ib b.size), out, ia, ib, g, ac, bc))
def gal (a b : Array Keyed) (out : Array Keyed) (ia ib g ac bc : Nat) : Sm (ForInStep C2) := if g > 1 then gl1 a b out ia ib (g - 1) ac bc else gl1 a b out ia ib g ac bc
def round (a b : Array Keyed) (out : Array Keyed) (ia ib g : Nat) : Sm (ForInStep C0) := do
  let c ← forIn [0:a.size + b.size] ((none, out, ia, ib, 0, 0) : C1) fun _ c => one a b g c.2.1 c.2.2.1 c.2.2.2.1 c.2.2.2.2.1 c.2.2.2.2.2
  match c.1 with
  | some r => pure (ForInStep.done (some r, c.2.1, c.2.2.1, c.2.2.2.1, g))
  | none => do
    liftM (rule "list.sort.gallop")
    let d ← forIn [0:a.size + b.size] ((none, c.2.1, c.2.2.1, c.2.2.2.1, g + 1, c.2.2.2.2.1, c.2.2.2.2.2) : C2) fun _ d => gal a b d.2.1 d.2.2.1 d.2.2.2.1 d.2.2.2.2.1 d.2.2.2.2.2.1 d.2.2.2.2.2.2
    match d.1 with
    | some r => pure (ForInStep.done (some r, d.2.1, d.2.2.1, d.2.2.2.1, d.2.2.2.2.1))
    | none => do
      setMinP (d.2.2.2.2.1 + 1)
      pure (ForInStep.yield (none, d.2.1, d.2.2.1, d.2.2.2.1, d.2.2.2.2.1 + 1))
theorem fi {β : Type} {r : Std.Legacy.Range} {c : β} {f f' : Nat → β → Sm (ForInStep β)} (h : f = f') : (forIn r c f : Sm β) = forIn r c f' := by rw [h]
theorem ic {α : Type} {c : Prop} [Decidable c] {x x' y y' : α} (h : x = x') (h' : y = y') : (if c then x else y) = if c then x' else y' := by rw [h, h']
theorem lo_eq (a b : Array Keyed) : mergeLoP a b = (do
    liftM (rule "list.sort.merge-lo")
    let e ← elem' b 0
    if (1 == b.size) = true then pure (#[e] ++ a.extract 0 a.size ++ b.extract 1 b.size)
    else if (0 + 1 == a.size) = true then pure (#[e] ++ b.extract 1 b.size ++ a.extract 0 a.size)
    else do
      let s ← get
      let c ← forIn [0:a.size + b.size] ((none, #[e], 0, 1, gallopOf s) : C0) fun _ c => round a b c.2.1 c.2.2.1 c.2.2.2.1 c.2.2.2.2
      match c.1 with
      | some r => pure r
      | none => liftM (unsupported "internal:list.sort.merge-bound")) := by
  delta mergeLoP
  refine bc rfl (funext fun u => bc rfl (funext fun e => ic rfl (ic rfl (bc rfl (funext fun s => bc (fi (funext fun x => funext fun c => ?_)) (funext fun c => ?_))))))
  · unfold round
    refine bc (fi (funext fun x => funext fun c1 => ?_)) (funext fun c1 => ?_)
    · unfold one
      refine bc rfl (funext fun y => bc rfl (funext fun x => bc rfl (funext fun r => ?_)))
      cases r with
      | none => rfl
      | some w => exact ic (bc rfl (funext fun y => ic rfl (ic rfl rfl))) (bc rfl (funext fun y => ic rfl (ic rfl rfl)))
    · obtain ⟨r, c1⟩ := c1
      cases r with
      | some r => rfl
      | none =>
        refine bc rfl (funext fun u => bc (fi (funext fun x => funext fun d => ?_)) (funext fun d => ?_))
        · unfold gal
          refine ic ?_ ?_
          · unfold gl1; exact bc rfl (funext fun u => bc rfl (funext fun y => bc rfl (funext fun r => by cases r with | none => rfl | some k => exact ic (ic rfl (ic rfl (by unfold gl2; exact bc rfl (funext fun y => ic rfl (by unfold gl3; exact bc rfl (funext fun x => bc rfl (funext fun r => by cases r with | none => rfl | some k1 => exact ic (ic rfl (by unfold gl4; exact bc rfl (funext fun x => ic rfl (ic rfl rfl)))) (by unfold gl4; exact bc rfl (funext fun x => ic rfl (ic rfl rfl)))))))))) (by unfold gl2; exact bc rfl (funext fun y => ic rfl (by unfold gl3; exact bc rfl (funext fun x => bc rfl (funext fun r => by cases r with | none => rfl | some k1 => exact ic (ic rfl (by unfold gl4; exact bc rfl (funext fun x => ic rfl (ic rfl rfl)))) (by unfold gl4; exact bc rfl (funext fun x => ic rfl (ic rfl rfl)))))))))))
          · unfold gl1; exact bc rfl (funext fun u => bc rfl (funext fun y => bc rfl (funext fun r => by cases r with | none => rfl | some k => exact ic (ic rfl (ic rfl (by unfold gl2; exact bc rfl (funext fun y => ic rfl (by unfold gl3; exact bc rfl (funext fun x => bc rfl (funext fun r => by cases r with | none => rfl | some k1 => exact ic (ic rfl (by unfold gl4; exact bc rfl (funext fun x => ic rfl (ic rfl rfl)))) (by unfold gl4; exact bc rfl (funext fun x => ic rfl (ic rfl rfl)))))))))) (by unfold gl2; exact bc rfl (funext fun y => ic rfl (by unfold gl3; exact bc rfl (funext fun x => bc rfl (funext fun r => by cases r with | none => rfl | some k1 => exact ic (ic rfl (by unfold gl4; exact bc rfl (funext fun x => ic rfl (ic rfl rfl)))) (by unfold gl4; exact bc rfl (funext fun x => ic rfl (ic rfl rfl)))))))))))
        · obtain ⟨r, d⟩ := d
          cases r <;> rfl
  · obtain ⟨r, c⟩ := c
    cases r <;> rfl
def key (κ : PyProof.Rows.KeyKind) (p : Keyed) : κ.α := (κ.keyOf p.1).getD κ.dflt
def leK (κ : PyProof.Rows.KeyKind) (x y : Keyed) : Prop := κ.kle (key κ x) (key κ y)
theorem leK_trans {κ : PyProof.Rows.KeyKind} {x y z : Keyed} (h : leK κ x y) (h' : leK κ y z) : leK κ x z := KeyOrd.kle_trans h h'
/-- only the gallop's number may be another one -/
structure SG (st st' : SortSt) : Prop where
  kind : kindOf st' = kindOf st
  arr : arrOf st' = arrOf st
  pend : pendingOf st' = pendingOf st
  fail : failedOf st' = failedOf st
theorem SG.refl (st : SortSt) : SG st st := ⟨rfl, rfl, rfl, rfl⟩
/-- two runs that may be merged -/
structure Two (κ : PyProof.Rows.KeyKind) (a b : Array Keyed) : Prop where
  ka : KeysOf κ a
  kb : KeysOf κ b
  sa : a.toList.Pairwise (leK κ)
  sb : b.toList.Pairwise (leK κ)
theorem item {κ : PyProof.Rows.KeyKind} {a : Array Keyed} (ka : KeysOf κ a) {i : Nat} (hi : i < a.size) : ∃ p, a[i]? = some p ∧ κ.keyOf p.1 = some (key κ p) ∧ KK κ a i = key κ p ∧ a.toList.drop i = p :: a.toList.drop (i + 1) := by
  have e : a[i]? = some a[i] := Array.getElem?_eq_getElem hi
  obtain ⟨k, hk⟩ := ka a[i] (Array.mem_toList_iff.mpr (Array.getElem_mem hi))
  have ek : key κ a[i] = k := by
    unfold key
    rw [hk]
    rfl
  refine ⟨a[i], e, by rw [ek]; exact hk, ?_, ?_⟩
  · unfold KK
    rw [e, ek]
    dsimp only
    rw [hk]
    rfl
  · have := List.drop_eq_getElem_cons (l := a.toList) (i := i) (by simpa using hi)
    rw [this]
    simp
theorem pw_head {κ : PyProof.Rows.KeyKind} {l r : List Keyed} {p : Keyed} {i : Nat} (h : l.Pairwise (leK κ)) (e : l.drop i = p :: r) : ∀ y ∈ l.drop i, leK κ p y := by
  have hp := h.sublist (List.drop_sublist i l)
  rw [e] at hp ⊢
  intro y hy
  rcases List.mem_cons.mp hy with z | z
  · rw [z]
    exact KeyOrd.kle_refl _
  · exact (List.pairwise_cons.mp hp).1 y z
theorem ext_list (a : Array Keyed) (i j : Nat) : (a.extract i j).toList = (a.toList.drop i).take (j - i) := by
  rw [Array.toList_extract]
theorem ext_all (a : Array Keyed) (i : Nat) : (a.extract i a.size).toList = a.toList.drop i := by
  rw [ext_list]
  refine List.take_of_length_le ?_
  rw [List.length_drop, Array.length_toList]
  exact Nat.le_refl _
theorem take_mem {κ : PyProof.Rows.KeyKind} {a : Array Keyed} (ka : KeysOf κ a) {i k : Nat} {x : Keyed} (h : x ∈ (a.toList.drop i).take k) : ∃ j, j < k ∧ i + j < a.size ∧ KK κ a (i + j) = key κ x := by
  obtain ⟨j, hj, rfl⟩ := List.getElem_of_mem h
  rw [List.length_take, List.length_drop, Array.length_toList] at hj
  refine ⟨j, by omega, by omega, ?_⟩
  obtain ⟨p, e1, e2, e3, e4⟩ := item ka (i := i + j) (by omega)
  rw [e3, List.getElem_take, List.getElem_drop]
  have : a.toList[i + j]? = some p := by
    rw [Array.getElem?_toList]
    exact e1
  rw [List.getElem?_eq_getElem (by rw [Array.length_toList]; omega)] at this
  rw [Option.some.inj this]
theorem drop_mem {κ : PyProof.Rows.KeyKind} {a : Array Keyed} (ka : KeysOf κ a) {i : Nat} {x : Keyed} (h : x ∈ a.toList.drop i) : ∃ j, i ≤ j ∧ j < a.size ∧ KK κ a j = key κ x := by
  have h' : x ∈ (a.toList.drop i).take (a.toList.drop i).length := by rw [List.take_length]; exact h
  obtain ⟨j, _, h2, h3⟩ := take_mem ka h'
  exact ⟨i + j, by omega, h2, h3⟩
theorem KK_mono {κ : PyProof.Rows.KeyKind} {a : Array Keyed} (ka : KeysOf κ a) (sa : a.toList.Pairwise (leK κ)) {i j : Nat} (hij : i ≤ j) (hj : j < a.size) : κ.kle (KK κ a i) (KK κ a j) := by
  obtain ⟨p, _, _, e3, e4⟩ := item ka (i := i) (by omega)
  obtain ⟨q, _, _, f3, f4⟩ := item ka (i := j) hj
  rw [e3, f3]
  refine pw_head sa e4 q ?_
  have : q ∈ a.toList.drop j := by rw [f4]; exact List.mem_cons_self
  exact mem_drop_of hij this
section
variable {prog : Program} {w : World} {A : Around} {E : Value → Shared → Prop} {s : Shared} {κ : PyProof.Rows.KeyKind} {ks : SortKind} {a b : Array Keyed}
theorem setMin_wp {g : Nat} {Q : Unit → SortSt → Prop} {st : SortSt} (h : ∀ st', SG st st' → Q () st') : wpS (model prog w) A E s (setMinP g) Q st := wpS_modify (h _ ⟨rfl, rfl, rfl, rfl⟩)
/-- the merge stands at ia, ib -/
structure At (κ : PyProof.Rows.KeyKind) (a b out : Array Keyed) (ia ib : Nat) : Prop where
  mi : MI (leK κ) a.toList b.toList out.toList ia ib
  ha : ia + 1 < a.size
  hb : ib < b.size
theorem At.pushA {out : Array Keyed} {ia ib : Nat} {x : Keyed} (T : Two κ a b) (m : MI (leK κ) a.toList b.toList out.toList ia ib) (e : a.toList.drop ia = x :: a.toList.drop (ia + 1)) (h : ∀ y ∈ b.toList.drop ib, leK κ x y) :
    MI (leK κ) a.toList b.toList (out.push x).toList (ia + 1) ib := by
  have := m.segA (k := 1) T.sa fun z hz y hy => by
    rw [e] at hz
    have : z = x := by simpa using hz
    rw [this]
    exact h y hy
  rw [e] at this
  rw [Array.toList_push]
  exact this
theorem At.pushB {out : Array Keyed} {ia ib : Nat} {x : Keyed} (T : Two κ a b) (m : MI (leK κ) a.toList b.toList out.toList ia ib) (e : b.toList.drop ib = x :: b.toList.drop (ib + 1)) (h : ∀ y ∈ a.toList.drop ia, leK κ x y) :
    MI (leK κ) a.toList b.toList (out.push x).toList ia (ib + 1) := by
  have := m.segB (k := 1) T.sb fun z hz y hy => by
    rw [e] at hz
    have : z = x := by simpa using hz
    rw [this]
    exact h y hy
  rw [e] at this
  rw [Array.toList_push]
  exact this
theorem At.segA {out : Array Keyed} {ia ib k : Nat} (T : Two κ a b) (m : MI (leK κ) a.toList b.toList out.toList ia ib) (h : ∀ x ∈ (a.toList.drop ia).take k, ∀ y ∈ b.toList.drop ib, leK κ x y) : MI (leK κ) a.toList b.toList (out ++ a.extract ia (ia + k)).toList (ia + k) ib := by
  have := m.segA (k := k) T.sa h
  rw [Array.toList_append, ext_list, show ia + k - ia = k by omega]
  exact this
theorem At.segB {out : Array Keyed} {ia ib k : Nat} (T : Two κ a b) (m : MI (leK κ) a.toList b.toList out.toList ia ib) (h : ∀ x ∈ (b.toList.drop ib).take k, ∀ y ∈ a.toList.drop ia, leK κ x y) : MI (leK κ) a.toList b.toList (out ++ b.extract ib (ib + k)).toList ia (ib + k) := by
  have := m.segB (k := k) T.sb h
  rw [Array.toList_append, ext_list, show ib + k - ib = k by omega]
  exact this
abbrev Rs (κ : PyProof.Rows.KeyKind) (a b : Array Keyed) (r : Array Keyed) : Prop := Done (leK κ) a.toList b.toList r.toList
/-- nothing of b is greater than the last of a -/
def LastA (κ : PyProof.Rows.KeyKind) (a b : Array Keyed) : Prop := ∀ y ∈ b.toList, ∀ x ∈ a.toList.drop (a.size - 1), leK κ y x
theorem end_b {out : Array Keyed} {ia ib : Nat} (T : Two κ a b) (m : MI (leK κ) a.toList b.toList out.toList ia ib) (h : ib = b.size) : Rs κ a b (out ++ a.extract ia a.size ++ b.extract ib b.size) := by
  have := m.endB T.sa (by rw [Array.length_toList]; omega)
  unfold Rs
  rw [Array.toList_append, Array.toList_append, ext_all, ext_all]
  exact this
theorem end_a {out : Array Keyed} {ia ib : Nat} (T : Two κ a b) (m : MI (leK κ) a.toList b.toList out.toList ia ib) (h : ia = a.size) : Rs κ a b (out ++ a.extract ia a.size ++ b.extract ib b.size) := by
  have := m.endA T.sb (by rw [Array.length_toList]; omega)
  unfold Rs
  rw [Array.toList_append, Array.toList_append, ext_all, ext_all]
  exact this
theorem end_l {out : Array Keyed} {ia ib : Nat} (T : Two κ a b) (L : LastA κ a b) (m : MI (leK κ) a.toList b.toList out.toList ia ib) (h : ia + 1 = a.size) : Rs κ a b (out ++ b.extract ib b.size ++ a.extract ia a.size) := by
  have := m.last T.sa T.sb fun y hy x hx => L y (List.mem_of_mem_drop hy) x (by rw [show a.size - 1 = ia by omega]; exact hx)
  unfold Rs
  rw [Array.toList_append, Array.toList_append, ext_all, ext_all]
  exact this
theorem one_wp (hL : LtAll prog w A E s κ ks) (T : Two κ a b) (L : LastA κ a b) {g ia ib ac bc : Nat} {out : Array Keyed} {st : SortSt} (hk : kindOf st = ks) (m : At κ a b out ia ib) :
    wpS (model prog w) A E s (one a b g out ia ib ac bc) (fun r st' => st' = st ∧ match r with
      | .done c => (∃ z, c.1 = some z ∧ Rs κ a b z) ∨ (c.1 = none ∧ At κ a b c.2.1 c.2.2.1 c.2.2.2.1 ∧ ia + ib + 1 = c.2.2.1 + c.2.2.2.1)
      | .yield c => c.1 = none ∧ At κ a b c.2.1 c.2.2.1 c.2.2.2.1 ∧ ia + ib + 1 = c.2.2.1 + c.2.2.2.1) st := by
  obtain ⟨x, x1, x2, x3, x4⟩ := item T.ka (i := ia) (by have := m.ha; omega)
  obtain ⟨y, y1, y2, y3, y4⟩ := item T.kb m.hb
  unfold one
  refine wpS_bind (wpS_elem y1 (wpS_bind (wpS_elem x1 (wpS_bind (hL st hk _ _ _ _ _ y2 x2 ?_)))))
  cases e : κ.blt (key κ y) (key κ x) with
  | true =>
    dsimp only
    rw [if_pos rfl]
    refine wpS_bind (wpS_elem y1 ?_)
    have m' := At.pushB T m.mi y4 fun z hz => leK_trans (KeyOrd.kle_of_klt e) (pw_head T.sa x4 z hz)
    by_cases hb : ib + 1 = b.size
    · rw [if_pos (by simpa using hb)]
      exact wpS_pure ⟨rfl, .inl ⟨_, rfl, end_b T m' hb⟩⟩
    · rw [if_neg (by simpa using hb)]
      have at' : At κ a b (out.push y) ia (ib + 1) := ⟨m', m.ha, by have := m.hb; omega⟩
      split
      · exact wpS_pure ⟨rfl, .inr ⟨rfl, at', by dsimp only; omega⟩⟩
      · exact wpS_pure ⟨rfl, rfl, at', by dsimp only; omega⟩
  | false =>
    dsimp only
    rw [if_neg (by decide)]
    refine wpS_bind (wpS_elem x1 ?_)
    have m' := At.pushA T m.mi x4 fun z hz => leK_trans (show leK κ x y from e) (pw_head T.sb y4 z hz)
    by_cases ha : ia + 1 + 1 = a.size
    · rw [if_pos (by simpa using ha)]
      exact wpS_pure ⟨rfl, .inl ⟨_, rfl, end_l T L m' ha⟩⟩
    · rw [if_neg (by simpa using ha)]
      have at' : At κ a b (out.push x) (ia + 1) ib := ⟨m', by have := m.ha; omega, m.hb⟩
      split
      · exact wpS_pure ⟨rfl, .inr ⟨rfl, at', by dsimp only; omega⟩⟩
      · exact wpS_pure ⟨rfl, rfl, at', by dsimp only; omega⟩
/-- the end of a turn of the gallop -/
def G2 (κ : PyProof.Rows.KeyKind) (a b : Array Keyed) (n : Nat) (st : SortSt) (r : ForInStep C2) (st' : SortSt) : Prop := SG st st' ∧ match r with
  | .done c => (∃ z, c.1 = some z ∧ Rs κ a b z) ∨ (c.1 = none ∧ At κ a b c.2.1 c.2.2.1 c.2.2.2.1 ∧ n ≤ c.2.2.1 + c.2.2.2.1)
  | .yield c => c.1 = none ∧ At κ a b c.2.1 c.2.2.1 c.2.2.2.1 ∧ n ≤ c.2.2.1 + c.2.2.2.1
theorem gl4_wp (T : Two κ a b) (L : LastA κ a b) {g ia ib k k1 n : Nat} {out : Array Keyed} {st0 st : SortSt} (sg : SG st0 st) (m : At κ a b out ia ib) (hn : n ≤ ia + ib + 1) (h : ∀ y ∈ b.toList.drop ib, ∀ x, a[ia]? = some x → leK κ x y) :
    wpS (model prog w) A E s (gl4 a b out ia ib g k k1) (G2 κ a b n st0) st := by
  obtain ⟨x, x1, x2, x3, x4⟩ := item T.ka (i := ia) (by have := m.ha; omega)
  unfold gl4
  refine wpS_bind (wpS_elem x1 ?_)
  have m' := At.pushA T m.mi x4 fun z hz => h z hz x x1
  by_cases ha : ia + 1 + 1 = a.size
  · rw [if_pos (by simpa using ha)]
    exact wpS_pure ⟨sg, .inl ⟨_, rfl, end_l T L m' ha⟩⟩
  · rw [if_neg (by simpa using ha)]
    have at' : At κ a b (out.push x) (ia + 1) ib := ⟨m', by have := m.ha; omega, m.hb⟩
    split
    · exact wpS_pure ⟨sg, .inr ⟨rfl, at', by dsimp only; omega⟩⟩
    · exact wpS_pure ⟨sg, rfl, at', by dsimp only; omega⟩
theorem gl3_wp (hL : LtAll prog w A E s κ ks) (T : Two κ a b) (L : LastA κ a b) {g ia ib k bc n : Nat} {out : Array Keyed} {st0 st : SortSt} (hk : kindOf st = ks) (sg : SG st0 st) (m : At κ a b out ia ib) (hn : n ≤ ia + ib + 1) :
    wpS (model prog w) A E s (gl3 a b out ia ib g k bc) (G2 κ a b n st0) st := by
  obtain ⟨x, x1, x2, x3, x4⟩ := item T.ka (i := ia) (by have := m.ha; omega)
  have hb := m.hb
  unfold gl3
  refine wpS_bind (wpS_elem x1 ?_)
  refine wpS_bind (wpS_gallop (κ := κ) (kk := key κ x) (hL st hk) x2 (by omega) (fun i hi => ?_) (fun i j hij hj hbj => ?_) fun k1 kn kt kf => ?_)
  · obtain ⟨p, p1, p2, p3, _⟩ := item T.kb (i := ib + i) (by omega)
    exact ⟨p, _, p1, p2, p3⟩
  · have mono := KK_mono T.kb T.sb (i := ib + i) (j := ib + j) (by omega) (by omega)
    exact KeyOrd.klt_of_kle_of_klt mono hbj
  · have late : ∀ y ∈ b.toList.drop (ib + k1), ∀ z, a[ia]? = some z → leK κ z y := fun y hy z hz => by
      rw [x1] at hz
      cases hz
      obtain ⟨j, j1, j2, j3⟩ := drop_mem T.kb hy
      have := kf (j - ib) (by omega) (by omega)
      rw [show ib + (j - ib) = j by omega, j3] at this
      exact this
    by_cases h0 : k1 > 0
    · dsimp only
      rw [if_pos h0]
      have m' := At.segB (k := k1) T m.mi fun z hz y hy => by
        obtain ⟨j, j1, j2, j3⟩ := take_mem T.kb hz
        have := kt j j1
        rw [j3] at this
        exact leK_trans (KeyOrd.kle_of_klt this) (pw_head T.sa x4 y hy)
      by_cases e : ib + k1 = b.size
      · rw [if_pos (by simpa using e)]
        exact wpS_pure ⟨sg, .inl ⟨_, rfl, end_b T m' e⟩⟩
      · rw [if_neg (by simpa using e)]
        exact gl4_wp T L sg ⟨m', m.ha, by omega⟩ (by omega) late
    · dsimp only
      rw [if_neg h0]
      have e : k1 = 0 := by omega
      rw [e] at late
      exact gl4_wp T L sg m hn late
theorem gl2_wp (hL : LtAll prog w A E s κ ks) (T : Two κ a b) (L : LastA κ a b) {g ia ib k bc n : Nat} {out : Array Keyed} {st0 st : SortSt} (hk : kindOf st = ks) (sg : SG st0 st) (m : At κ a b out ia ib) (hn : n ≤ ia + ib + 1) (h : ∀ x ∈ a.toList.drop ia, ∀ y, b[ib]? = some y → leK κ y x) :
    wpS (model prog w) A E s (gl2 a b out ia ib g k bc) (G2 κ a b n st0) st := by
  obtain ⟨y, y1, y2, y3, y4⟩ := item T.kb m.hb
  unfold gl2
  refine wpS_bind (wpS_elem y1 ?_)
  have m' := At.pushB T m.mi y4 fun z hz => h z hz y y1
  by_cases hb : ib + 1 = b.size
  · rw [if_pos (by simpa using hb)]
    exact wpS_pure ⟨sg, .inl ⟨_, rfl, end_b T m' hb⟩⟩
  · rw [if_neg (by simpa using hb)]
    exact gl3_wp hL T L hk sg ⟨m', m.ha, by have := m.hb; omega⟩ (by omega)
theorem gl1_wp (hL : LtAll prog w A E s κ ks) (T : Two κ a b) (L : LastA κ a b) {g ia ib ac bc n : Nat} {out : Array Keyed} {st0 st : SortSt} (hk : kindOf st = ks) (sg : SG st0 st) (m : At κ a b out ia ib) (hn : n ≤ ia + ib + 1) :
    wpS (model prog w) A E s (gl1 a b out ia ib g ac bc) (G2 κ a b n st0) st := by
  obtain ⟨y, y1, y2, y3, y4⟩ := item T.kb m.hb
  have ha := m.ha
  unfold gl1
  refine wpS_bind (setMin_wp fun st' sg' => ?_)
  have hk' : kindOf st' = ks := sg'.kind.trans hk
  have sg2 : SG st0 st' := ⟨sg'.kind.trans sg.kind, sg'.arr.trans sg.arr, sg'.pend.trans sg.pend, sg'.fail.trans sg.fail⟩
  refine wpS_bind (wpS_elem y1 ?_)
  refine wpS_bind (wpS_gallop (κ := κ) (kk := key κ y) (hL st' hk') y2 (by omega) (fun i hi => ?_) (fun i j hij hj hbj => ?_) fun k kn kt kf => ?_)
  · obtain ⟨p, p1, p2, p3, _⟩ := item T.ka (i := ia + i) (by omega)
    exact ⟨p, _, p1, p2, p3⟩
  · have mono := KK_mono T.ka T.sa (i := ia + i) (j := ia + j) (by omega) (by omega)
    have hbj : (!κ.blt (key κ y) (KK κ a (ia + j))) = true := hbj
    show (!κ.blt (key κ y) (KK κ a (ia + i))) = true
    rw [Bool.not_eq_true'] at hbj ⊢
    exact KeyOrd.kle_trans mono hbj
  · have late : ∀ x ∈ a.toList.drop (ia + k), ∀ z, b[ib]? = some z → leK κ z x := fun x hx z hz => by
      rw [y1] at hz
      cases hz
      obtain ⟨j, j1, j2, j3⟩ := drop_mem T.ka hx
      have := kf (j - ia) (by omega) (by omega)
      rw [show ia + (j - ia) = j by omega, j3] at this
      have this : (!κ.blt (key κ y) (key κ x)) = false := this
      rw [Bool.not_eq_false'] at this
      exact KeyOrd.kle_of_klt this
    by_cases h0 : k > 0
    · dsimp only
      rw [if_pos h0]
      have m' := At.segA (k := k) T m.mi fun z hz x hx => by
        obtain ⟨j, j1, j2, j3⟩ := take_mem T.ka hz
        have := kt j j1
        rw [j3] at this
        have this : (!κ.blt (key κ y) (key κ z)) = true := this
        rw [Bool.not_eq_true'] at this
        exact leK_trans (show leK κ z y from this) (pw_head T.sb y4 x hx)
      by_cases e : ia + k + 1 = a.size
      · rw [if_pos (by simpa using e)]
        exact wpS_pure ⟨sg2, .inl ⟨_, rfl, end_l T L m' e⟩⟩
      · rw [if_neg (by simpa using e)]
        by_cases e2 : ia + k = a.size
        · rw [if_pos (by simpa using e2)]
          exact wpS_pure ⟨sg2, .inl ⟨_, rfl, end_a T m' e2⟩⟩
        · rw [if_neg (by simpa using e2)]
          exact gl2_wp hL T L hk' sg2 ⟨m', by omega, m.hb⟩ (by omega) late
    · dsimp only
      rw [if_neg h0]
      have e : k = 0 := by omega
      rw [e] at late
      exact gl2_wp hL T L hk' sg2 m hn late
theorem round_wp (hL : LtAll prog w A E s κ ks) (T : Two κ a b) (L : LastA κ a b) {g ia ib : Nat} {out : Array Keyed} {st0 st : SortSt} (hk : kindOf st = ks) (sg : SG st0 st) (m : At κ a b out ia ib) :
    wpS (model prog w) A E s (round a b out ia ib g) (fun r st' => SG st0 st' ∧ match r with
      | .done c => ∃ z, c.1 = some z ∧ Rs κ a b z
      | .yield c => c.1 = none ∧ At κ a b c.2.1 c.2.2.1 c.2.2.2.1 ∧ ia + ib + 1 ≤ c.2.2.1 + c.2.2.2.1) st := by
  unfold round
  have tot : 0 < a.size + b.size := by have := m.ha; omega
  refine wpS_bind (wpS_mono (wpS_forRange (I := fun x c st' => st' = st ∧ c.1 = none ∧ At κ a b c.2.1 c.2.2.1 c.2.2.2.1 ∧ ia + ib + x = c.2.2.1 + c.2.2.2.1)
    (Q := fun c st' => st' = st ∧ ((∃ z, c.1 = some z ∧ Rs κ a b z) ∨ (c.1 = none ∧ At κ a b c.2.1 c.2.2.1 c.2.2.2.1 ∧ ia + ib + 1 ≤ c.2.2.1 + c.2.2.2.1))) ?_ ?_ ⟨rfl, rfl, m, rfl⟩) ?_)
  · rintro x ⟨c0, o, i, j, ac, bc⟩ st' _ hx ⟨rfl, rfl, m', e⟩
    dsimp only at m' e ⊢
    refine wpS_mono (one_wp hL T L hk m') fun r st2 h2 => ?_
    obtain ⟨rfl, h2⟩ := h2
    cases r with
    | done c =>
      rcases h2 with h2 | ⟨h2, h3, h4⟩
      · exact ⟨rfl, .inl h2⟩
      · exact ⟨rfl, .inr ⟨h2, h3, by omega⟩⟩
    | yield c =>
      obtain ⟨h2, h3, h4⟩ := h2
      exact ⟨rfl, h2, h3, by omega⟩
  · rintro c st' ⟨rfl, h1, h2, h3⟩
    exact ⟨rfl, .inr ⟨h1, h2, by omega⟩⟩
  · rintro ⟨c0, o, i, j, ac, bc⟩ st' ⟨rfl, h⟩
    dsimp only at h ⊢
    rcases h with ⟨z, rfl, hz⟩ | ⟨rfl, m', hij⟩
    · exact wpS_pure ⟨sg, z, rfl, hz⟩
    · dsimp only
      refine wpS_bind (wpS_lift (wpAny_rule ⟨rfl, ?_⟩))
      refine wpS_bind (wpS_mono (wpS_forRange (I := fun x c st2 => SG st0 st2 ∧ c.1 = none ∧ At κ a b c.2.1 c.2.2.1 c.2.2.2.1 ∧ ia + ib + 1 ≤ c.2.2.1 + c.2.2.2.1)
        (Q := fun c st2 => SG st0 st2 ∧ ((∃ z, c.1 = some z ∧ Rs κ a b z) ∨ (c.1 = none ∧ At κ a b c.2.1 c.2.2.1 c.2.2.2.1 ∧ ia + ib + 1 ≤ c.2.2.1 + c.2.2.2.1))) ?_ ?_ ⟨sg, rfl, m', hij⟩) ?_)
      · rintro x ⟨c0, o, i, j, g2, ac, bc⟩ st2 _ hx ⟨sg2, rfl, m2, e2⟩
        dsimp only at m2 e2 ⊢
        have hk2 : kindOf st2 = ks := sg2.kind.trans (sg.kind.symm.trans hk)
        have go : ∀ g', wpS (model prog w) A E s (gl1 a b o i j g' ac bc) (G2 κ a b (ia + ib + 1) st0) st2 := fun g' => gl1_wp hL T L hk2 sg2 m2 (by omega)
        unfold gal
        split
        · refine wpS_mono (go _) fun r st3 h3 => ?_
          obtain ⟨h3, h4⟩ := h3
          cases r with
          | done c => exact ⟨h3, h4⟩
          | yield c => exact ⟨h3, h4⟩
        · refine wpS_mono (go _) fun r st3 h3 => ?_
          obtain ⟨h3, h4⟩ := h3
          cases r with
          | done c => exact ⟨h3, h4⟩
          | yield c => exact ⟨h3, h4⟩
      · rintro c st2 ⟨h0, h1, h2, h3⟩
        exact ⟨h0, .inr ⟨h1, h2, h3⟩⟩
      · rintro ⟨c0, o, i, j, g2, ac, bc⟩ st2 ⟨sg2, h⟩
        dsimp only at h ⊢
        rcases h with ⟨z, rfl, hz⟩ | ⟨rfl, m2, hij2⟩
        · exact wpS_pure ⟨sg2, z, rfl, hz⟩
        · dsimp only
          refine wpS_bind (setMin_wp fun st3 sg3 => wpS_pure ⟨⟨sg3.kind.trans sg2.kind, sg3.arr.trans sg2.arr, sg3.pend.trans sg2.pend, sg3.fail.trans sg2.fail⟩, rfl, m2, hij2⟩)
/-- the merge from the left -/
theorem lo_wp (hL : LtAll prog w A E s κ ks) (T : Two κ a b) (L : LastA κ a b) (ha : 0 < a.size) (hb : 0 < b.size) (F : ∀ x ∈ a.toList, ∀ y, b[0]? = some y → leK κ y x) {st : SortSt} (hk : kindOf st = ks) {Q : Array Keyed → SortSt → Prop}
    (h : ∀ r st', SG st st' → Rs κ a b r → Q r st') : wpS (model prog w) A E s (mergeLoP a b) Q st := by
  rw [lo_eq]
  obtain ⟨y, y1, y2, y3, y4⟩ := item T.kb hb
  refine wpS_bind (wpS_lift (wpAny_rule ⟨rfl, ?_⟩))
  refine wpS_bind (wpS_elem y1 ?_)
  have m0 : MI (leK κ) a.toList b.toList ([] : List Keyed) 0 0 := ⟨by simp, .nil, fun x hx => absurd hx (by simp)⟩
  have m : MI (leK κ) a.toList b.toList (#[y] : Array Keyed).toList 0 1 := by
    have := At.pushB (out := #[]) T m0 y4 fun z hz => F z hz y y1
    exact this
  by_cases e1 : 1 = b.size
  · rw [if_pos (by simpa using e1)]
    exact wpS_pure (h _ st (SG.refl _) (end_b T m e1))
  · rw [if_neg (by simpa using e1)]
    by_cases e2 : 0 + 1 = a.size
    · rw [if_pos (by simpa using e2)]
      exact wpS_pure (h _ st (SG.refl _) (end_l T L m e2))
    · rw [if_neg (by simpa using e2)]
      refine wpS_bind (wpS_get ?_)
      refine wpS_bind (wpS_mono (wpS_forRange (I := fun x c st' => SG st st' ∧ c.1 = none ∧ At κ a b c.2.1 c.2.2.1 c.2.2.2.1 ∧ 1 + x ≤ c.2.2.1 + c.2.2.2.1)
        (Q := fun c st' => SG st st' ∧ ∃ z, c.1 = some z ∧ Rs κ a b z) ?_ ?_ ⟨SG.refl _, rfl, ⟨m, by dsimp only; omega, by dsimp only; omega⟩, by dsimp only; omega⟩) ?_)
      · rintro x ⟨c0, o, i, j, g⟩ st' _ hx ⟨sg, rfl, m', e⟩
        dsimp only at m' e ⊢
        refine wpS_mono (round_wp hL T L (sg.kind.trans hk) sg m') fun r st2 h2 => ?_
        obtain ⟨sg2, h2⟩ := h2
        cases r with
        | done c => exact ⟨sg2, h2⟩
        | yield c =>
          obtain ⟨h2, h3, h4⟩ := h2
          exact ⟨sg2, h2, h3, by omega⟩
      · rintro c st' ⟨sg, h1, m', e⟩
        have := m'.ha
        have := m'.hb
        exact absurd e (by omega)
      · rintro ⟨c0, o, i, j, g⟩ st' ⟨sg, z, e, hz⟩
        dsimp only at e
        rw [e]
        exact wpS_pure (h z st' sg hz)
end
end Srt

set_option Elab.async false
set_option linter.all false
set_option maxRecDepth 100000
/-! list.sort: two runs merged from the right. -/
namespace Srt
open PySem PyProof.Rows
def mergeHiP : Array Keyed → Array Keyed → Sm (Array Keyed) := sortPriv% PySem.Builtin.mergeHi
namespace Hi
abbrev dn (a b out : Array Keyed) (na nb : Nat) : Array Keyed := a.extract 0 na ++ b.extract 0 nb ++ out.reverse
abbrev fb (a b out : Array Keyed) (na nb : Nat) : Array Keyed := b.extract 0 nb ++ a.extract 0 na ++ out.reverse
abbrev H1 := Option (Array Keyed) × Nat × Nat × Array Keyed × Nat × Nat
abbrev H2 := Option (Array Keyed) × Nat × Nat × Array Keyed × Nat × Nat × Nat
abbrev H0 := Option (Array Keyed) × Nat × Nat × Array Keyed × Nat
def one (a b : Array Keyed) (g : Nat) (na nb : Nat) (out : Array Keyed) (ac bc : Nat) : Sm (ForInStep H1) := do
  let y ← elem' b (nb - 1)
  let x ← elem' a (na - 1)
  let r ← lt' y x
  match r with
  | some w =>
    if w = true then do
      let x ← elem' a (na - 1)
      if (na - 1 == 0) = true then pure (ForInStep.done (some (dn a b (out.push x) (na - 1) nb), na - 1, nb, out.push x, ac + 1, 0))
      else if ac + 1 ≥ g then pure (ForInStep.done (none, na - 1, nb, out.push x, ac + 1, 0)) else pure (ForInStep.yield (none, na - 1, nb, out.push x, ac + 1, 0))
    else do
      let y ← elem' b (nb - 1)
      if (nb - 1 == 1) = true then pure (ForInStep.done (some (fb a b (out.push y) na (nb - 1)), na, nb - 1, out.push y, 0, bc + 1))
      else if bc + 1 ≥ g then pure (ForInStep.done (none, na, nb - 1, out.push y, 0, bc + 1)) else pure (ForInStep.yield (none, na, nb - 1, out.push y, 0, bc + 1))
  | _ => pure (ForInStep.done (some (dn a b out na nb), na, nb, out, ac, bc))
def gl4 (a b : Array Keyed) (na nb : Nat) (out : Array Keyed) (g k k1 : Nat) : Sm (ForInStep H2) := do
  let x ← elem' a (na - 1)
  if (na - 1 == 0) = true then pure (ForInStep.done (some (dn a b (out.push x) (na - 1) nb), na - 1, nb, out.push x, g, k, k1))
  else if (decide (k < 7) && decide (k1 < 7)) = true then pure (ForInStep.done (none, na - 1, nb, out.push x, g, k, k1)) else pure (ForInStep.yield (none, na - 1, nb, out.push x, g, k, k1))
def gl3 (a b : Array Keyed) (na nb : Nat) (out : Array Keyed) (g k bc : Nat) : Sm (ForInStep H2) := do
  let x ← elem' a (na - 1)
  let r ← gallopP true x b 0 nb (nb - 1)
  match r with
  | some t =>
    if nb - t > 0 then
      if (t == 1) = true then pure (ForInStep.done (some (fb a b (out ++ (b.extract t nb).reverse) na t), na, t, out ++ (b.extract t nb).reverse, g, k, nb - t))
      else if (t == 0) = true then pure (ForInStep.done (some (dn a b (out ++ (b.extract t nb).reverse) na t), na, t, out ++ (b.extract t nb).reverse, g, k, nb - t))
      else gl4 a b na t (out ++ (b.extract t nb).reverse) g k (nb - t)
    else gl4 a b na nb out g k (nb - t)
  | _ => pure (ForInStep.done (some (dn a b out na nb), na, nb, out, g, k, bc))
def gl2 (a b : Array Keyed) (na nb : Nat) (out : Array Keyed) (g k bc : Nat) : Sm (ForInStep H2) := do
  let y ← elem' b (nb - 1)
  if (nb - 1 == 1) = true then pure (ForInStep.done (some (fb a b (out.push y) na (nb - 1)), na, nb - 1, out.push y, g, k, bc))
  else gl3 a b na (nb - 1) (out.push y) g k bc
def gl1 (a b : Array Keyed) (na nb : Nat) (out : Array Keyed) (g ac bc : Nat) : Sm (ForInStep H2) := do
  setMinP g
  let y ← elem' b (nb - 1)
  let r ← gallopP false y a 0 na (na - 1)
  match r with
  | some t =>
    if na - t > 0 then
      if (t == 0) = true then pure (ForInStep.done (some (dn a b (out ++ (a.extract t na).reverse) t nb), t, nb, out ++ (a.extract t na).reverse, g, na - t, bc))
      else gl2 a b t nb (out ++ (a.extract t na).reverse) g (na - t) bc
    else gl2 a b na nb out g (na - t) bc
  | _ => pure (ForInStep.done (some (dn a b out na nb), na, nb, out, g, ac, bc))
def gal (a b : Array Keyed) (na nb : Nat) (out : Array Keyed) (g ac bc : Nat) : Sm (ForInStep H2) := if g > 1 then gl1 a b na nb out (g - 1) ac bc else gl1 a b na nb out g ac bc
def round (a b : Array Keyed) (na nb : Nat) (out : Array Keyed) (g : Nat) : Sm (ForInStep H0) := do
  let c ← forIn [0:a.size + b.size] ((none, na, nb, out, 0, 0) : H1) fun _ c => one a b g c.2.1 c.2.2.1 c.2.2.2.1 c.2.2.2.2.1 c.2.2.2.2.2
  match c.1 with
  | some r => pure (ForInStep.done (some r, c.2.1, c.2.2.1, c.2.2.2.1, g))
  | none => do
    liftM (rule "list.sort.gallop")
    let d ← forIn [0:a.size + b.size] ((none, c.2.1, c.2.2.1, c.2.2.2.1, g + 1, c.2.2.2.2.1, c.2.2.2.2.2) : H2) fun _ d => gal a b d.2.1 d.2.2.1 d.2.2.2.1 d.2.2.2.2.1 d.2.2.2.2.2.1 d.2.2.2.2.2.2
    match d.1 with
    | some r => pure (ForInStep.done (some r, d.2.1, d.2.2.1, d.2.2.2.1, d.2.2.2.2.1))
    | none => do
      setMinP (d.2.2.2.2.1 + 1)
      pure (ForInStep.yield (none, d.2.1, d.2.2.1, d.2.2.2.1, d.2.2.2.2.1 + 1))
theorem hi_eq (a b : Array Keyed) : mergeHiP a b = (do
    liftM (rule "list.sort.merge-hi")
    let e ← elem' a (a.size - 1)
    if (a.size - 1 == 0) = true then pure (dn a b #[e] (a.size - 1) b.size)
    else if (b.size == 1) = true then pure (fb a b #[e] (a.size - 1) b.size)
    else do
      let s ← get
      let c ← forIn [0:a.size + b.size] ((none, a.size - 1, b.size, #[e], gallopOf s) : H0) fun _ c => round a b c.2.1 c.2.2.1 c.2.2.2.1 c.2.2.2.2
      match c.1 with
      | some r => pure r
      | none => liftM (unsupported "internal:list.sort.merge-bound")) := by
  delta mergeHiP
  refine bc rfl (funext fun u => bc rfl (funext fun e => ic rfl (ic rfl (bc rfl (funext fun s => bc (fi (funext fun x => funext fun c => ?_)) (funext fun c => ?_))))))
  · unfold round
    refine bc (fi (funext fun x => funext fun c1 => ?_)) (funext fun c1 => ?_)
    · unfold one
      refine bc rfl (funext fun y => bc rfl (funext fun x => bc rfl (funext fun r => ?_)))
      cases r with
      | none => rfl
      | some w => exact ic (bc rfl (funext fun y => ic rfl (ic rfl rfl))) (bc rfl (funext fun y => ic rfl (ic rfl rfl)))
    · obtain ⟨r, c1⟩ := c1
      cases r with
      | some r => rfl
      | none =>
        refine bc rfl (funext fun u => bc (fi (funext fun x => funext fun d => ?_)) (funext fun d => ?_))
        · unfold gal
          refine ic ?_ ?_
          · unfold gl1; exact bc rfl (funext fun u => bc rfl (funext fun y => bc rfl (funext fun r => by cases r with | none => rfl | some k => exact ic (ic rfl (by unfold gl2; exact bc rfl (funext fun y => ic rfl (by unfold gl3; exact bc rfl (funext fun x => bc rfl (funext fun r => by cases r with | none => rfl | some k1 => exact ic (ic rfl (ic rfl (by unfold gl4; exact bc rfl (funext fun x => ic rfl (ic rfl rfl))))) (by unfold gl4; exact bc rfl (funext fun x => ic rfl (ic rfl rfl))))))))) (by unfold gl2; exact bc rfl (funext fun y => ic rfl (by unfold gl3; exact bc rfl (funext fun x => bc rfl (funext fun r => by cases r with | none => rfl | some k1 => exact ic (ic rfl (ic rfl (by unfold gl4; exact bc rfl (funext fun x => ic rfl (ic rfl rfl))))) (by unfold gl4; exact bc rfl (funext fun x => ic rfl (ic rfl rfl)))))))))))
          · unfold gl1; exact bc rfl (funext fun u => bc rfl (funext fun y => bc rfl (funext fun r => by cases r with | none => rfl | some k => exact ic (ic rfl (by unfold gl2; exact bc rfl (funext fun y => ic rfl (by unfold gl3; exact bc rfl (funext fun x => bc rfl (funext fun r => by cases r with | none => rfl | some k1 => exact ic (ic rfl (ic rfl (by unfold gl4; exact bc rfl (funext fun x => ic rfl (ic rfl rfl))))) (by unfold gl4; exact bc rfl (funext fun x => ic rfl (ic rfl rfl))))))))) (by unfold gl2; exact bc rfl (funext fun y => ic rfl (by unfold gl3; exact bc rfl (funext fun x => bc rfl (funext fun r => by cases r with | none => rfl | some k1 => exact ic (ic rfl (ic rfl (by unfold gl4; exact bc rfl (funext fun x => ic rfl (ic rfl rfl))))) (by unfold gl4; exact bc rfl (funext fun x => ic rfl (ic rfl rfl)))))))))))
        · obtain ⟨r, d⟩ := d
          cases r <;> rfl
  · obtain ⟨r, c⟩ := c
    cases r <;> rfl
section
variable {α : Type} {le : α → α → Prop}
/-- lo is the merge of what stands from na on in la and from nb on in lb; the rest lies ahead of it -/
structure MH (le : α → α → Prop) (la lb lo : List α) (na nb : Nat) : Prop where
  pm : lo.Perm (la.drop na ++ lb.drop nb)
  sr : lo.Pairwise le
  be : ∀ x ∈ lo, ∀ y, y ∈ la.take na ∨ y ∈ lb.take nb → le y x
theorem take_le {l : List α} {i j : Nat} {y : α} (h : i ≤ j) (hy : y ∈ l.take i) : y ∈ l.take j := by
  rw [show i = min i j by omega, ← List.take_take] at hy
  exact List.mem_of_mem_take hy
theorem cut_drop {l : List α} {t n : Nat} (h : t ≤ n) (hn : n ≤ l.length) : (l.take n).drop t ++ l.drop n = l.drop t := by
  have e := List.take_append_drop n l
  have : (l.take n ++ l.drop n).drop t = (l.take n).drop t ++ l.drop n := List.drop_append_of_le_length (by rw [List.length_take]; omega)
  rw [e] at this
  exact this.symm
theorem cut_pw {l : List α} (hp : l.Pairwise le) {t n : Nat} (h : t ≤ n) : ∀ y ∈ l.take t, ∀ x ∈ (l.take n).drop t, le y x := by
  have h2 : (l.take n).Pairwise le := hp.sublist (List.take_sublist _ _)
  have e := List.take_append_drop t (l.take n)
  rw [← e] at h2
  rw [List.take_take, show min t n = t by omega] at h2
  exact fun y hy x hx => (List.pairwise_append.mp h2).2.2 y hy x hx
theorem MH.segA {la lb lo : List α} {na nb t : Nat} (m : MH le la lb lo na nb) (sa : la.Pairwise le) (ht : t ≤ na) (hn : na ≤ la.length) (h : ∀ x ∈ (la.take na).drop t, ∀ y ∈ lb.take nb, le y x) : MH le la lb ((la.take na).drop t ++ lo) t nb := by
  refine ⟨?_, List.pairwise_append.mpr ⟨(sa.sublist (List.take_sublist _ _)).sublist (List.drop_sublist _ _), m.sr, fun x hx y hy => m.be y hy x (.inl (List.mem_of_mem_drop hx))⟩, fun x hx y hy => ?_⟩
  · refine (List.Perm.append_left _ m.pm).trans ?_
    rw [← List.append_assoc, cut_drop ht hn]
  · rcases List.mem_append.mp hx with z | z
    · rcases hy with hy | hy
      · exact cut_pw sa ht y hy x z
      · exact h x z y hy
    · exact m.be x z y (hy.imp (take_le ht) id)
theorem MH.segB {la lb lo : List α} {na nb t : Nat} (m : MH le la lb lo na nb) (sb : lb.Pairwise le) (ht : t ≤ nb) (hn : nb ≤ lb.length) (h : ∀ x ∈ (lb.take nb).drop t, ∀ y ∈ la.take na, le y x) : MH le la lb ((lb.take nb).drop t ++ lo) na t := by
  refine ⟨?_, List.pairwise_append.mpr ⟨(sb.sublist (List.take_sublist _ _)).sublist (List.drop_sublist _ _), m.sr, fun x hx y hy => m.be y hy x (.inr (List.mem_of_mem_drop hx))⟩, fun x hx y hy => ?_⟩
  · refine (List.Perm.append_left _ m.pm).trans ?_
    refine (List.perm_append_comm_assoc _ _ _).trans ?_
    rw [cut_drop ht hn]
  · rcases List.mem_append.mp hx with z | z
    · rcases hy with hy | hy
      · exact h x z y hy
      · exact cut_pw sb ht y hy x z
    · exact m.be x z y (hy.imp id (take_le ht))
theorem MH.first {la lb lo : List α} {na nb : Nat} (m : MH le la lb lo na nb) (sa : la.Pairwise le) (sb : lb.Pairwise le) (h : ∀ y ∈ lb.take nb, ∀ x ∈ la.take na, le y x) : Done le la lb (lb.take nb ++ la.take na ++ lo) := by
  refine ⟨?_, List.pairwise_append.mpr ⟨List.pairwise_append.mpr ⟨sb.sublist (List.take_sublist _ _), sa.sublist (List.take_sublist _ _), h⟩, m.sr, fun x hx y hy => m.be y hy x ((List.mem_append.mp hx).symm)⟩⟩
  refine (List.Perm.append_left _ m.pm).trans ?_
  have e : lb.take nb ++ la.take na ++ (la.drop na ++ lb.drop nb) = lb.take nb ++ (la ++ lb.drop nb) := by
    rw [List.append_assoc, ← List.append_assoc (la.take na), List.take_append_drop]
  rw [e]
  refine (List.perm_append_comm_assoc _ _ _).trans ?_
  rw [List.take_append_drop]
theorem MH.endA {la lb lo : List α} {nb : Nat} (m : MH le la lb lo 0 nb) (sa : la.Pairwise le) (sb : lb.Pairwise le) : Done le la lb (la.take 0 ++ lb.take nb ++ lo) := by
  have := m.first sa sb fun y _ x hx => absurd hx (by simp)
  rw [List.take_zero, List.append_nil] at this
  rw [List.take_zero, List.nil_append]
  exact this
theorem MH.endB {la lb lo : List α} {na : Nat} (m : MH le la lb lo na 0) (sa : la.Pairwise le) (sb : lb.Pairwise le) : Done le la lb (la.take na ++ lb.take 0 ++ lo) := by
  have := m.first sa sb fun y hy x _ => absurd hy (by simp)
  rw [List.take_zero, List.nil_append] at this
  rw [List.take_zero, List.append_nil]
  exact this
end
section
variable {prog : Program} {w : World} {A : Around} {E : Value → Shared → Prop} {s : Shared} {κ : PyProof.Rows.KeyKind} {ks : SortKind} {a b : Array Keyed}
theorem ext0 (a : Array Keyed) (n : Nat) : (a.extract 0 n).toList = a.toList.take n := by
  rw [ext_list]
  simp
theorem ext_cut (a : Array Keyed) (t n : Nat) : (a.extract t n).toList = (a.toList.take n).drop t := by
  rw [ext_list, List.drop_take]
theorem rev_push (out : Array Keyed) (x : Keyed) : (out.push x).reverse.toList = x :: out.reverse.toList := by simp
theorem rev_seg (out seg : Array Keyed) : (out ++ seg.reverse).reverse.toList = seg.toList ++ out.reverse.toList := by simp
abbrev Mh (κ : PyProof.Rows.KeyKind) (a b out : Array Keyed) (na nb : Nat) : Prop := MH (leK κ) a.toList b.toList out.reverse.toList na nb
structure At (κ : PyProof.Rows.KeyKind) (a b out : Array Keyed) (na nb : Nat) : Prop where
  mi : Mh κ a b out na nb
  a1 : 1 ≤ na
  a2 : na ≤ a.size
  b1 : 2 ≤ nb
  b2 : nb ≤ b.size
/-- the last of the first n -/
theorem last_of {κ : PyProof.Rows.KeyKind} {a : Array Keyed} (ka : KeysOf κ a) {n : Nat} (h1 : 1 ≤ n) (h2 : n ≤ a.size) : ∃ p, a[n - 1]? = some p ∧ κ.keyOf p.1 = some (key κ p) ∧ KK κ a (n - 1) = key κ p ∧ (a.toList.take n).drop (n - 1) = [p] := by
  obtain ⟨p, p1, p2, p3, p4⟩ := item ka (i := n - 1) (by omega)
  refine ⟨p, p1, p2, p3, ?_⟩
  rw [List.drop_take, p4, show n - (n - 1) = 1 by omega]
  rfl
theorem take_key {κ : PyProof.Rows.KeyKind} {a : Array Keyed} (ka : KeysOf κ a) {n t : Nat} {x : Keyed} (h : x ∈ (a.toList.take n).drop t) : ∃ j, t ≤ j ∧ j < n ∧ j < a.size ∧ KK κ a j = key κ x := by
  rw [List.drop_take] at h
  obtain ⟨j, j1, j2, j3⟩ := take_mem ka h
  exact ⟨t + j, by omega, by omega, j2, j3⟩
theorem take_key0 {κ : PyProof.Rows.KeyKind} {a : Array Keyed} (ka : KeysOf κ a) {n : Nat} {x : Keyed} (h : x ∈ a.toList.take n) : ∃ j, j < n ∧ j < a.size ∧ KK κ a j = key κ x := by
  have h' : x ∈ (a.toList.take n).drop 0 := by rw [List.drop_zero]; exact h
  obtain ⟨j, _, j1, j2, j3⟩ := take_key ka h'
  exact ⟨j, j1, j2, j3⟩
theorem up_to {κ : PyProof.Rows.KeyKind} {a : Array Keyed} (ka : KeysOf κ a) (sa : a.toList.Pairwise (leK κ)) {n : Nat} {p : Keyed} (h1 : 1 ≤ n) (h2 : n ≤ a.size) (e : KK κ a (n - 1) = key κ p) : ∀ y ∈ a.toList.take n, leK κ y p := fun y hy => by
  obtain ⟨j, j1, j2, j3⟩ := take_key0 ka hy
  have := KK_mono ka sa (i := j) (j := n - 1) (by omega) (by omega)
  rw [j3, e] at this
  exact this
theorem pushA {out : Array Keyed} {na nb : Nat} {x : Keyed} (T : Two κ a b) (m : Mh κ a b out na nb) (h1 : 1 ≤ na) (h2 : na ≤ a.size) (e : (a.toList.take na).drop (na - 1) = [x]) (h : ∀ y ∈ b.toList.take nb, leK κ y x) : Mh κ a b (out.push x) (na - 1) nb := by
  have := MH.segA (t := na - 1) m T.sa (by omega) (by rw [Array.length_toList]; exact h2) fun z hz y hy => by
    rw [e] at hz
    rw [List.mem_singleton.mp hz]
    exact h y hy
  rw [e] at this
  unfold Mh
  rw [rev_push]
  exact this
theorem pushB {out : Array Keyed} {na nb : Nat} {x : Keyed} (T : Two κ a b) (m : Mh κ a b out na nb) (h1 : 1 ≤ nb) (h2 : nb ≤ b.size) (e : (b.toList.take nb).drop (nb - 1) = [x]) (h : ∀ y ∈ a.toList.take na, leK κ y x) : Mh κ a b (out.push x) na (nb - 1) := by
  have := MH.segB (t := nb - 1) m T.sb (by omega) (by rw [Array.length_toList]; exact h2) fun z hz y hy => by
    rw [e] at hz
    rw [List.mem_singleton.mp hz]
    exact h y hy
  rw [e] at this
  unfold Mh
  rw [rev_push]
  exact this
theorem segA' {out : Array Keyed} {na nb t : Nat} (T : Two κ a b) (m : Mh κ a b out na nb) (ht : t ≤ na) (h2 : na ≤ a.size) (h : ∀ x ∈ (a.toList.take na).drop t, ∀ y ∈ b.toList.take nb, leK κ y x) : Mh κ a b (out ++ (a.extract t na).reverse) t nb := by
  have := MH.segA m T.sa ht (by rw [Array.length_toList]; exact h2) h
  unfold Mh
  rw [rev_seg, ext_cut]
  exact this
theorem segB' {out : Array Keyed} {na nb t : Nat} (T : Two κ a b) (m : Mh κ a b out na nb) (ht : t ≤ nb) (h2 : nb ≤ b.size) (h : ∀ x ∈ (b.toList.take nb).drop t, ∀ y ∈ a.toList.take na, leK κ y x) : Mh κ a b (out ++ (b.extract t nb).reverse) na t := by
  have := MH.segB m T.sb ht (by rw [Array.length_toList]; exact h2) h
  unfold Mh
  rw [rev_seg, ext_cut]
  exact this
/-- the first of b is not greater than any of a -/
def FirstB (κ : PyProof.Rows.KeyKind) (a b : Array Keyed) : Prop := ∀ y ∈ b.toList.take 1, ∀ x ∈ a.toList, leK κ y x
theorem e_a {out : Array Keyed} {na nb : Nat} (T : Two κ a b) (m : Mh κ a b out na nb) (h : na = 0) : Rs κ a b (dn a b out na nb) := by
  subst h
  have := MH.endA m T.sa T.sb
  unfold Rs dn
  rw [Array.toList_append, Array.toList_append, ext0, ext0]
  exact this
theorem e_b {out : Array Keyed} {na nb : Nat} (T : Two κ a b) (m : Mh κ a b out na nb) (h : nb = 0) : Rs κ a b (dn a b out na nb) := by
  subst h
  have := MH.endB m T.sa T.sb
  unfold Rs dn
  rw [Array.toList_append, Array.toList_append, ext0, ext0]
  exact this
theorem e_f {out : Array Keyed} {na nb : Nat} (T : Two κ a b) (F : FirstB κ a b) (m : Mh κ a b out na nb) (h : nb = 1) : Rs κ a b (fb a b out na nb) := by
  subst h
  have := MH.first m T.sa T.sb fun y hy x hx => F y hy x (List.mem_of_mem_take hx)
  unfold Rs fb
  rw [Array.toList_append, Array.toList_append, ext0, ext0]
  exact this
theorem one_wp (hL : LtAll prog w A E s κ ks) (T : Two κ a b) (F : FirstB κ a b) {g na nb ac bc : Nat} {out : Array Keyed} {st : SortSt} (hk : kindOf st = ks) (m : At κ a b out na nb) :
    wpS (model prog w) A E s (one a b g na nb out ac bc) (fun r st' => st' = st ∧ match r with
      | .done c => (∃ z, c.1 = some z ∧ Rs κ a b z) ∨ (c.1 = none ∧ At κ a b c.2.2.2.1 c.2.1 c.2.2.1 ∧ c.2.1 + c.2.2.1 + 1 = na + nb)
      | .yield c => c.1 = none ∧ At κ a b c.2.2.2.1 c.2.1 c.2.2.1 ∧ c.2.1 + c.2.2.1 + 1 = na + nb) st := by
  obtain ⟨mi, a1, a2, b1, b2⟩ := m
  obtain ⟨x, x1, x2, x3, x4⟩ := last_of T.ka a1 a2
  obtain ⟨y, y1, y2, y3, y4⟩ := last_of T.kb (show 1 ≤ nb by omega) b2
  unfold one
  refine wpS_bind (wpS_elem y1 (wpS_bind (wpS_elem x1 (wpS_bind (hL st hk _ _ _ _ _ y2 x2 ?_)))))
  cases e : κ.blt (key κ y) (key κ x) with
  | true =>
    dsimp only
    rw [if_pos rfl]
    refine wpS_bind (wpS_elem x1 ?_)
    have m' := pushA T mi a1 a2 x4 fun z hz => leK_trans (up_to T.kb T.sb (by omega) b2 y3 z hz) (KeyOrd.kle_of_klt e)
    by_cases h0 : na - 1 = 0
    · rw [if_pos (by simpa using h0)]
      exact wpS_pure ⟨rfl, .inl ⟨_, rfl, e_a T m' h0⟩⟩
    · rw [if_neg (by simpa using h0)]
      have at' : At κ a b (out.push x) (na - 1) nb := ⟨m', by omega, by omega, b1, b2⟩
      split
      · exact wpS_pure ⟨rfl, .inr ⟨rfl, at', by dsimp only; omega⟩⟩
      · exact wpS_pure ⟨rfl, rfl, at', by dsimp only; omega⟩
  | false =>
    dsimp only
    rw [if_neg (by decide)]
    refine wpS_bind (wpS_elem y1 ?_)
    have m' := pushB T mi (by omega) b2 y4 fun z hz => leK_trans (up_to T.ka T.sa a1 a2 x3 z hz) (show leK κ x y from e)
    by_cases h0 : nb - 1 = 1
    · rw [if_pos (by simpa using h0)]
      exact wpS_pure ⟨rfl, .inl ⟨_, rfl, e_f T F m' h0⟩⟩
    · rw [if_neg (by simpa using h0)]
      have at' : At κ a b (out.push y) na (nb - 1) := ⟨m', a1, a2, by omega, by omega⟩
      split
      · exact wpS_pure ⟨rfl, .inr ⟨rfl, at', by dsimp only; omega⟩⟩
      · exact wpS_pure ⟨rfl, rfl, at', by dsimp only; omega⟩
def G2 (κ : PyProof.Rows.KeyKind) (a b : Array Keyed) (n : Nat) (st : SortSt) (r : ForInStep H2) (st' : SortSt) : Prop := SG st st' ∧ match r with
  | .done c => (∃ z, c.1 = some z ∧ Rs κ a b z) ∨ (c.1 = none ∧ At κ a b c.2.2.2.1 c.2.1 c.2.2.1 ∧ c.2.1 + c.2.2.1 < n)
  | .yield c => c.1 = none ∧ At κ a b c.2.2.2.1 c.2.1 c.2.2.1 ∧ c.2.1 + c.2.2.1 < n
theorem gl4_wp (T : Two κ a b) {g na nb k k1 n : Nat} {out : Array Keyed} {st0 st : SortSt} (sg : SG st0 st) (m : At κ a b out na nb) (hn : na + nb ≤ n) (h : ∀ y ∈ b.toList.take nb, ∀ x, a[na - 1]? = some x → leK κ y x) :
    wpS (model prog w) A E s (gl4 a b na nb out g k k1) (G2 κ a b n st0) st := by
  obtain ⟨mi, a1, a2, b1, b2⟩ := m
  obtain ⟨x, x1, x2, x3, x4⟩ := last_of T.ka a1 a2
  unfold gl4
  refine wpS_bind (wpS_elem x1 ?_)
  have m' := pushA T mi a1 a2 x4 fun z hz => h z hz x x1
  by_cases h0 : na - 1 = 0
  · rw [if_pos (by simpa using h0)]
    exact wpS_pure ⟨sg, .inl ⟨_, rfl, e_a T m' h0⟩⟩
  · rw [if_neg (by simpa using h0)]
    have at' : At κ a b (out.push x) (na - 1) nb := ⟨m', by omega, by omega, b1, b2⟩
    split
    · exact wpS_pure ⟨sg, .inr ⟨rfl, at', by dsimp only; omega⟩⟩
    · exact wpS_pure ⟨sg, rfl, at', by dsimp only; omega⟩
theorem gl3_wp (hL : LtAll prog w A E s κ ks) (T : Two κ a b) (F : FirstB κ a b) {g na nb k bc n : Nat} {out : Array Keyed} {st0 st : SortSt} (hk : kindOf st = ks) (sg : SG st0 st) (m : At κ a b out na nb) (hn : na + nb ≤ n) :
    wpS (model prog w) A E s (gl3 a b na nb out g k bc) (G2 κ a b n st0) st := by
  obtain ⟨mi, a1, a2, b1, b2⟩ := id m
  obtain ⟨x, x1, x2, x3, x4⟩ := last_of T.ka a1 a2
  unfold gl3
  refine wpS_bind (wpS_elem x1 ?_)
  refine wpS_bind (wpS_gallop (κ := κ) (kk := key κ x) (hL st hk) x2 (by omega) (fun i hi => ?_) (fun i j hij hj hbj => ?_) fun t kn kt kf => ?_)
  · obtain ⟨p, p1, p2, p3, _⟩ := item T.kb (i := 0 + i) (by omega)
    exact ⟨p, _, p1, p2, p3⟩
  · have mono := KK_mono T.kb T.sb (i := 0 + i) (j := 0 + j) (by omega) (by omega)
    exact KeyOrd.klt_of_kle_of_klt mono hbj
  · have early : ∀ y ∈ b.toList.take t, ∀ z, a[na - 1]? = some z → leK κ y z := fun y hy z hz => by
      rw [x1] at hz
      cases hz
      obtain ⟨j, j1, j2, j3⟩ := take_key0 T.kb hy
      have := kt j j1
      rw [Nat.zero_add, j3] at this
      exact KeyOrd.kle_of_klt this
    by_cases h0 : nb - t > 0
    · dsimp only
      rw [if_pos h0]
      have m' := segB' T mi (show t ≤ nb by omega) b2 fun z hz y hy => by
        obtain ⟨j, j1, j2, j3, j4⟩ := take_key T.kb hz
        have := kf j j1 j2
        rw [Nat.zero_add, j4] at this
        exact leK_trans (up_to T.ka T.sa a1 a2 x3 y hy) (show leK κ x z from this)
      by_cases e : t = 1
      · rw [if_pos (by simpa using e)]
        exact wpS_pure ⟨sg, .inl ⟨_, rfl, e_f T F m' e⟩⟩
      · rw [if_neg (by simpa using e)]
        by_cases e2 : t = 0
        · rw [if_pos (by simpa using e2)]
          exact wpS_pure ⟨sg, .inl ⟨_, rfl, e_b T m' e2⟩⟩
        · rw [if_neg (by simpa using e2)]
          exact gl4_wp T sg ⟨m', a1, a2, by omega, by omega⟩ (by omega) early
    · dsimp only
      rw [if_neg h0]
      have e : t = nb := by omega
      rw [e] at early
      exact gl4_wp T sg m hn early
theorem gl2_wp (hL : LtAll prog w A E s κ ks) (T : Two κ a b) (F : FirstB κ a b) {g na nb k bc n : Nat} {out : Array Keyed} {st0 st : SortSt} (hk : kindOf st = ks) (sg : SG st0 st) (m : At κ a b out na nb) (hn : na + nb ≤ n) (h : ∀ x ∈ a.toList.take na, ∀ y, b[nb - 1]? = some y → leK κ x y) :
    wpS (model prog w) A E s (gl2 a b na nb out g k bc) (G2 κ a b n st0) st := by
  obtain ⟨mi, a1, a2, b1, b2⟩ := m
  obtain ⟨y, y1, y2, y3, y4⟩ := last_of T.kb (show 1 ≤ nb by omega) b2
  unfold gl2
  refine wpS_bind (wpS_elem y1 ?_)
  have m' := pushB T mi (by omega) b2 y4 fun z hz => h z hz y y1
  by_cases h0 : nb - 1 = 1
  · rw [if_pos (by simpa using h0)]
    exact wpS_pure ⟨sg, .inl ⟨_, rfl, e_f T F m' h0⟩⟩
  · rw [if_neg (by simpa using h0)]
    exact gl3_wp hL T F hk sg ⟨m', a1, a2, by omega, by omega⟩ (by omega)
theorem gl1_wp (hL : LtAll prog w A E s κ ks) (T : Two κ a b) (F : FirstB κ a b) {g na nb ac bc n : Nat} {out : Array Keyed} {st0 st : SortSt} (hk : kindOf st = ks) (sg : SG st0 st) (m : At κ a b out na nb) (hn : na + nb ≤ n) :
    wpS (model prog w) A E s (gl1 a b na nb out g ac bc) (G2 κ a b n st0) st := by
  obtain ⟨mi, a1, a2, b1, b2⟩ := id m
  obtain ⟨y, y1, y2, y3, y4⟩ := last_of T.kb (show 1 ≤ nb by omega) b2
  unfold gl1
  refine wpS_bind (setMin_wp fun st' sg' => ?_)
  have hk' : kindOf st' = ks := sg'.kind.trans hk
  have sg2 : SG st0 st' := ⟨sg'.kind.trans sg.kind, sg'.arr.trans sg.arr, sg'.pend.trans sg.pend, sg'.fail.trans sg.fail⟩
  refine wpS_bind (wpS_elem y1 ?_)
  refine wpS_bind (wpS_gallop (κ := κ) (kk := key κ y) (hL st' hk') y2 (by omega) (fun i hi => ?_) (fun i j hij hj hbj => ?_) fun t kn kt kf => ?_)
  · obtain ⟨p, p1, p2, p3, _⟩ := item T.ka (i := 0 + i) (by omega)
    exact ⟨p, _, p1, p2, p3⟩
  · have mono := KK_mono T.ka T.sa (i := 0 + i) (j := 0 + j) (by omega) (by omega)
    have hbj : (!κ.blt (key κ y) (KK κ a (0 + j))) = true := hbj
    show (!κ.blt (key κ y) (KK κ a (0 + i))) = true
    rw [Bool.not_eq_true'] at hbj ⊢
    exact KeyOrd.kle_trans mono hbj
  · have early : ∀ x ∈ a.toList.take t, ∀ z, b[nb - 1]? = some z → leK κ x z := fun x hx z hz => by
      rw [y1] at hz
      cases hz
      obtain ⟨j, j1, j2, j3⟩ := take_key0 T.ka hx
      have := kt j j1
      rw [Nat.zero_add, j3] at this
      have this : (!κ.blt (key κ y) (key κ x)) = true := this
      rw [Bool.not_eq_true'] at this
      exact this
    by_cases h0 : na - t > 0
    · dsimp only
      rw [if_pos h0]
      have m' := segA' T mi (show t ≤ na by omega) a2 fun z hz x hx => by
        obtain ⟨j, j1, j2, j3, j4⟩ := take_key T.ka hz
        have := kf j j1 j2
        rw [Nat.zero_add, j4] at this
        have this : (!κ.blt (key κ y) (key κ z)) = false := this
        rw [Bool.not_eq_false'] at this
        exact leK_trans (up_to T.kb T.sb (by omega) b2 y3 x hx) (KeyOrd.kle_of_klt this)
      by_cases e : t = 0
      · rw [if_pos (by simpa using e)]
        exact wpS_pure ⟨sg2, .inl ⟨_, rfl, e_a T m' e⟩⟩
      · rw [if_neg (by simpa using e)]
        exact gl2_wp hL T F hk' sg2 ⟨m', by omega, by omega, b1, b2⟩ (by omega) early
    · dsimp only
      rw [if_neg h0]
      have e : t = na := by omega
      rw [e] at early
      exact gl2_wp hL T F hk' sg2 m hn early
theorem round_wp (hL : LtAll prog w A E s κ ks) (T : Two κ a b) (F : FirstB κ a b) {g na nb : Nat} {out : Array Keyed} {st0 st : SortSt} (hk : kindOf st = ks) (sg : SG st0 st) (m : At κ a b out na nb) :
    wpS (model prog w) A E s (round a b na nb out g) (fun r st' => SG st0 st' ∧ match r with
      | .done c => ∃ z, c.1 = some z ∧ Rs κ a b z
      | .yield c => c.1 = none ∧ At κ a b c.2.2.2.1 c.2.1 c.2.2.1 ∧ c.2.1 + c.2.2.1 < na + nb) st := by
  unfold round
  have tot : 0 < a.size + b.size := by
    have := m.a1
    have := m.a2
    omega
  refine wpS_bind (wpS_mono (wpS_forRange (I := fun x c st' => st' = st ∧ c.1 = none ∧ At κ a b c.2.2.2.1 c.2.1 c.2.2.1 ∧ c.2.1 + c.2.2.1 + x = na + nb)
    (Q := fun c st' => st' = st ∧ ((∃ z, c.1 = some z ∧ Rs κ a b z) ∨ (c.1 = none ∧ At κ a b c.2.2.2.1 c.2.1 c.2.2.1 ∧ c.2.1 + c.2.2.1 < na + nb))) ?_ ?_ ⟨rfl, rfl, m, rfl⟩) ?_)
  · rintro x ⟨c0, i, j, o, ac, bc⟩ st' _ hx ⟨rfl, rfl, m', e⟩
    dsimp only at m' e ⊢
    refine wpS_mono (one_wp hL T F hk m') fun r st2 h2 => ?_
    obtain ⟨rfl, h2⟩ := h2
    cases r with
    | done c =>
      rcases h2 with h2 | ⟨h2, h3, h4⟩
      · exact ⟨rfl, .inl h2⟩
      · exact ⟨rfl, .inr ⟨h2, h3, by omega⟩⟩
    | yield c =>
      obtain ⟨h2, h3, h4⟩ := h2
      exact ⟨rfl, h2, h3, by omega⟩
  · rintro c st' ⟨rfl, h1, h2, h3⟩
    exact ⟨rfl, .inr ⟨h1, h2, by omega⟩⟩
  · rintro ⟨c0, i, j, o, ac, bc⟩ st' ⟨rfl, h⟩
    dsimp only at h ⊢
    rcases h with ⟨z, rfl, hz⟩ | ⟨rfl, m', hij⟩
    · exact wpS_pure ⟨sg, z, rfl, hz⟩
    · dsimp only
      refine wpS_bind (wpS_lift (wpAny_rule ⟨rfl, ?_⟩))
      refine wpS_bind (wpS_mono (wpS_forRange (I := fun x c st2 => SG st0 st2 ∧ c.1 = none ∧ At κ a b c.2.2.2.1 c.2.1 c.2.2.1 ∧ c.2.1 + c.2.2.1 < na + nb)
        (Q := fun c st2 => SG st0 st2 ∧ ((∃ z, c.1 = some z ∧ Rs κ a b z) ∨ (c.1 = none ∧ At κ a b c.2.2.2.1 c.2.1 c.2.2.1 ∧ c.2.1 + c.2.2.1 < na + nb))) ?_ ?_ ⟨sg, rfl, m', hij⟩) ?_)
      · rintro x ⟨c0, i, j, o, g2, ac, bc⟩ st2 _ hx ⟨sg2, rfl, m2, e2⟩
        dsimp only at m2 e2 ⊢
        have hk2 : kindOf st2 = ks := sg2.kind.trans (sg.kind.symm.trans hk)
        have go : ∀ g', wpS (model prog w) A E s (gl1 a b i j o g' ac bc) (G2 κ a b (na + nb) st0) st2 := fun g' => gl1_wp hL T F hk2 sg2 m2 (by omega)
        unfold gal
        split
        · refine wpS_mono (go _) fun r st3 h3 => ?_
          obtain ⟨h3, h4⟩ := h3
          cases r with
          | done c => exact ⟨h3, h4⟩
          | yield c => exact ⟨h3, h4⟩
        · refine wpS_mono (go _) fun r st3 h3 => ?_
          obtain ⟨h3, h4⟩ := h3
          cases r with
          | done c => exact ⟨h3, h4⟩
          | yield c => exact ⟨h3, h4⟩
      · rintro c st2 ⟨h0, h1, h2, h3⟩
        exact ⟨h0, .inr ⟨h1, h2, h3⟩⟩
      · rintro ⟨c0, i, j, o, g2, ac, bc⟩ st2 ⟨sg2, h⟩
        dsimp only at h ⊢
        rcases h with ⟨z, rfl, hz⟩ | ⟨rfl, m2, hij2⟩
        · exact wpS_pure ⟨sg2, z, rfl, hz⟩
        · dsimp only
          refine wpS_bind (setMin_wp fun st3 sg3 => wpS_pure ⟨⟨sg3.kind.trans sg2.kind, sg3.arr.trans sg2.arr, sg3.pend.trans sg2.pend, sg3.fail.trans sg2.fail⟩, rfl, m2, hij2⟩)
/-- the merge from the right -/
theorem hi_wp (hL : LtAll prog w A E s κ ks) (T : Two κ a b) (L : LastA κ a b) (F : FirstB κ a b) (ha : 0 < a.size) (hb : 0 < b.size) {st : SortSt} (hk : kindOf st = ks) {Q : Array Keyed → SortSt → Prop}
    (h : ∀ r st', SG st st' → Rs κ a b r → Q r st') : wpS (model prog w) A E s (mergeHiP a b) Q st := by
  rw [hi_eq]
  obtain ⟨x, x1, x2, x3, x4⟩ := last_of T.ka (n := a.size) ha (Nat.le_refl _)
  refine wpS_bind (wpS_lift (wpAny_rule ⟨rfl, ?_⟩))
  refine wpS_bind (wpS_elem x1 ?_)
  have m0 : Mh κ a b #[] a.size b.size := by
    refine ⟨?_, List.Pairwise.nil, fun x hx => absurd hx (by simp)⟩
    rw [List.drop_of_length_le (by rw [Array.length_toList]; exact Nat.le_refl _), List.drop_of_length_le (by rw [Array.length_toList]; exact Nat.le_refl _)]
    exact List.Perm.nil
  have m : Mh κ a b #[x] (a.size - 1) b.size := pushA (out := #[]) T m0 ha (Nat.le_refl _) x4 fun y hy => L y (List.mem_of_mem_take hy) x (by
    rw [← Array.length_toList, List.take_length, Array.length_toList] at x4
    rw [x4]
    exact List.mem_cons_self)
  by_cases e1 : a.size - 1 = 0
  · rw [if_pos (by simpa using e1)]
    exact wpS_pure (h _ st (SG.refl _) (e_a T m e1))
  · rw [if_neg (by simpa using e1)]
    by_cases e2 : b.size = 1
    · rw [if_pos (by simpa using e2)]
      exact wpS_pure (h _ st (SG.refl _) (e_f T F m e2))
    · rw [if_neg (by simpa using e2)]
      refine wpS_bind (wpS_get ?_)
      refine wpS_bind (wpS_mono (wpS_forRange (I := fun x c st' => SG st st' ∧ c.1 = none ∧ At κ a b c.2.2.2.1 c.2.1 c.2.2.1 ∧ c.2.1 + c.2.2.1 + x < a.size + b.size)
        (Q := fun c st' => SG st st' ∧ ∃ z, c.1 = some z ∧ Rs κ a b z) ?_ ?_ ⟨SG.refl _, rfl, ⟨m, by dsimp only; omega, by dsimp only; omega, by dsimp only; omega, Nat.le_refl _⟩, by dsimp only; omega⟩) ?_)
      · rintro x ⟨c0, i, j, o, g⟩ st' _ hx ⟨sg, rfl, m', e⟩
        dsimp only at m' e ⊢
        refine wpS_mono (round_wp hL T F (sg.kind.trans hk) sg m') fun r st2 h2 => ?_
        obtain ⟨sg2, h2⟩ := h2
        cases r with
        | done c => exact ⟨sg2, h2⟩
        | yield c =>
          obtain ⟨h2, h3, h4⟩ := h2
          exact ⟨sg2, h2, h3, by omega⟩
      · rintro c st' ⟨sg, h1, m', e⟩
        exact absurd e (by omega)
      · rintro ⟨c0, i, j, o, g⟩ st' ⟨sg, z, e, hz⟩
        dsimp only at e
        rw [e]
        exact wpS_pure (h z st' sg hz)
end
end Hi
end Srt

set_option Elab.async false
set_option linter.all false
set_option maxRecDepth 100000
/-! list.sort: two neighbour runs made one. -/
namespace Srt
open PySem PyProof.Rows
/-- l written over arr from n on -/
def over (arr : Array Keyed) (n : Nat) (l : List Keyed) : Array Keyed := l.zipIdx.foldl (fun a p => a.setIfInBounds (n + p.2) p.1) arr
theorem over_go : ∀ (l : List Keyed) (j n : Nat) (arr : Array Keyed), n + j + l.length ≤ arr.size →
    (((l.zipIdx j).foldl (fun a p => a.setIfInBounds (n + p.2) p.1) arr).size = arr.size ∧ ∀ i, ((l.zipIdx j).foldl (fun a p => a.setIfInBounds (n + p.2) p.1) arr)[i]? = if n + j ≤ i ∧ i < n + j + l.length then l[i - (n + j)]? else arr[i]?)
  | [], j, n, arr, _ => by
    refine ⟨rfl, fun i => ?_⟩
    rw [if_neg (by rw [List.length_nil]; omega)]
    rfl
  | p :: l, j, n, arr, h => by
    rw [List.length_cons] at h
    rw [List.zipIdx_cons, List.foldl_cons]
    obtain ⟨h1, h2⟩ := over_go l (j + 1) n (arr.setIfInBounds (n + j) p) (by rw [Array.size_setIfInBounds]; omega)
    refine ⟨by rw [h1, Array.size_setIfInBounds], fun i => ?_⟩
    rw [h2 i, List.length_cons, Array.getElem?_setIfInBounds]
    by_cases e : n + j = i
    · subst e
      rw [if_neg (by omega), if_pos rfl, if_pos (by omega), if_pos (by omega)]
      simp
    · rw [if_neg e]
      by_cases e2 : n + (j + 1) ≤ i ∧ i < n + (j + 1) + l.length
      · rw [if_pos e2, if_pos (by omega), show i - (n + j) = (i - (n + (j + 1))) + 1 by omega]
        rfl
      · rw [if_neg e2, if_neg (by omega)]
theorem over_list {arr : Array Keyed} {n : Nat} {l : List Keyed} (h : n + l.length ≤ arr.size) : (over arr n l).toList = arr.toList.take n ++ l ++ arr.toList.drop (n + l.length) := by
  obtain ⟨h1, h2⟩ := over_go l 0 n arr (by omega)
  refine List.ext_getElem? fun i => ?_
  rw [Array.getElem?_toList]
  show ((l.zipIdx 0).foldl (fun a p => a.setIfInBounds (n + p.2) p.1) arr)[i]? = _
  have hl : arr.toList.length = arr.size := Array.length_toList
  rw [h2 i, List.append_assoc, List.getElem?_append, List.length_take, hl, show min n arr.size = n by omega, List.getElem?_append]
  by_cases e1 : i < n
  · rw [if_neg (by omega), if_pos e1, List.getElem?_take, if_pos e1, Array.getElem?_toList]
  · rw [if_neg e1]
    by_cases e2 : i < n + l.length
    · rw [if_pos (by omega), if_pos (by omega)]
      rfl
    · rw [if_neg (by omega), if_neg (by omega), List.getElem?_drop, Array.getElem?_toList]
      congr 1
      omega
theorem pw_of_seg {κ : PyProof.Rows.KeyKind} {arr : Array Keyed} (ka : KeysOf κ arr) {lo hi : Nat} (hh : hi ≤ arr.size) (h : Seg κ arr lo hi) : ((arr.toList.take hi).drop lo).Pairwise (leK κ) := by
  rw [List.pairwise_iff_getElem]
  intro i j hi' hj' hij
  rw [List.length_drop, List.length_take, Array.length_toList] at hi' hj'
  rw [List.getElem_drop, List.getElem_drop, List.getElem_take, List.getElem_take]
  have key_at : ∀ k, (hk : k < arr.toList.length) → k < arr.size → key κ arr.toList[k] = KK κ arr k := fun k hk hk' => by
    obtain ⟨p, p1, p2, p3, p4⟩ := item ka hk'
    rw [p3]
    have e : arr.toList[k]? = some p := by
      rw [Array.getElem?_toList]
      exact p1
    rw [List.getElem?_eq_getElem hk] at e
    rw [Option.some.inj e]
  unfold leK
  rw [key_at _ _ (by omega), key_at _ _ (by omega)]
  exact h _ _ (by omega) (by omega) (by omega)
theorem seg_of_pw {κ : PyProof.Rows.KeyKind} {arr : Array Keyed} (ka : KeysOf κ arr) {lo hi : Nat} (hh : hi ≤ arr.size) (h : ((arr.toList.take hi).drop lo).Pairwise (leK κ)) : Seg κ arr lo hi := by
  intro i j h1 h2 h3
  by_cases e : i = j
  · rw [e]
    exact KeyOrd.kle_refl _
  · rw [List.pairwise_iff_getElem] at h
    have key_at : ∀ k, (hk : k < arr.toList.length) → k < arr.size → key κ arr.toList[k] = KK κ arr k := fun k hk hk' => by
      obtain ⟨p, p1, p2, p3, p4⟩ := item ka hk'
      rw [p3]
      have e : arr.toList[k]? = some p := by
        rw [Array.getElem?_toList]
        exact p1
      rw [List.getElem?_eq_getElem hk] at e
      rw [Option.some.inj e]
    have := h (i - lo) (j - lo) (by rw [List.length_drop, List.length_take, Array.length_toList]; omega) (by rw [List.length_drop, List.length_take, Array.length_toList]; omega) (by omega)
    rw [List.getElem_drop, List.getElem_drop, List.getElem_take, List.getElem_take] at this
    unfold leK at this
    rw [key_at _ _ (by omega), key_at _ _ (by omega)] at this
    rw [show lo + (i - lo) = i by omega, show lo + (j - lo) = j by omega] at this
    exact this
theorem at_eq (i : Nat) : mergeAt' i = (do
    let s ← get
    match (pendingOf s)[i]?, (pendingOf s)[i + 1]? with
    | some p, some q => do
      set (setPending s (((pendingOf s).setIfInBounds i (p.1, p.2.1 + q.2.1, p.2.2)).eraseIdxIfInBounds (i + 1)))
      let y ← elem' (arrOf s) q.1
      let r ← gallopP false y (arrOf s) p.1 p.2.1 0
      match r with
      | some k =>
        if (p.2.1 - k == 0) = true then pure true
        else do
          let x ← elem' (arrOf s) (p.1 + k + (p.2.1 - k) - 1)
          let r ← gallopP true x (arrOf s) q.1 q.2.1 (q.2.1 - 1)
          match r with
          | some n =>
            if (n == 0) = true then pure true
            else do
              let m ← if p.2.1 - k ≤ n then mergeLoP ((arrOf s).extract (p.1 + k) q.1) ((arrOf s).extract q.1 (q.1 + n)) else mergeHiP ((arrOf s).extract (p.1 + k) q.1) ((arrOf s).extract q.1 (q.1 + n))
              modify fun s' => setArr s' (over (arrOf s') (p.1 + k) m.toList)
              let s' ← get
              pure (failedOf s').isNone
          | _ => pure false
      | _ => pure false
    | _, _ => liftM (unsupported "internal:list.sort.pending")) := by
  delta mergeAt'
  refine bc rfl (funext fun s => ?_)
  generalize e1 : (pendingOf s)[i]? = o1
  generalize e2 : (pendingOf s)[i + 1]? = o2
  cases o1 with
  | none => cases o2 <;> rfl
  | some p =>
    obtain ⟨sa, na, pw⟩ := p
    cases o2 with
    | none => rfl
    | some q =>
      obtain ⟨sb, nb, pw2⟩ := q
      refine bc rfl (funext fun u => bc rfl (funext fun y => bc rfl (funext fun r => ?_)))
      cases r with
      | none => rfl
      | some k =>
        refine ic rfl (bc rfl (funext fun x => bc rfl (funext fun r => ?_)))
        cases r with
        | none => rfl
        | some n => exact ic rfl (ic (bc rfl (funext fun m => rfl)) (bc rfl (funext fun m => rfl)))
theorem keys_perm {κ : PyProof.Rows.KeyKind} {a₀ xs : Array Keyed} (h0 : KeysOf κ a₀) (h : xs.Perm a₀) : KeysOf κ xs := fun p hp => h0 p ((Array.perm_iff_toList_perm.mp h).mem_iff.mp hp)
theorem keys_ext {κ : PyProof.Rows.KeyKind} {xs : Array Keyed} (h0 : KeysOf κ xs) (i j : Nat) : KeysOf κ (xs.extract i j) := fun p hp => by
  rw [ext_list] at hp
  exact h0 p (List.mem_of_mem_drop (List.mem_of_mem_take hp))
section
variable {prog : Program} {w : World} {A : Around} {E : Value → Shared → Prop} {s : Shared} {κ : PyProof.Rows.KeyKind} {ks : SortKind} {a₀ : Array Keyed}
/-- what mergeAt leaves -/
structure Mg (κ : PyProof.Rows.KeyKind) (ks : SortKind) (a₀ : Array Keyed) (st st' : SortSt) (sa hi : Nat) (pend : Array (Nat × Nat × Nat)) : Prop where
  base : SB ks a₀ st'
  out : ∀ k, (k < sa ∨ hi ≤ k) → (arrOf st')[k]? = (arrOf st)[k]?
  seg : Seg κ (arrOf st') sa hi
  pend : pendingOf st' = pend
theorem split4 {l : List Keyed} {i j k m : Nat} (h1 : i ≤ j) (h2 : j ≤ k) (h3 : k ≤ m) (h4 : m ≤ l.length) : (l.take m).drop i = (l.take j).drop i ++ ((l.take k).drop j ++ (l.take m).drop k) := by
  have c : ∀ {x y z : Nat}, x ≤ y → y ≤ z → z ≤ l.length → (l.take z).drop x = (l.take y).drop x ++ (l.take z).drop y := fun {x y z} a b d => by
    have := Hi.cut_drop (l := l.take z) (t := x) (n := y) a (by rw [List.length_take]; omega)
    rw [List.take_take, show min y z = y by omega] at this
    exact this.symm
  rw [c h1 (by omega) h4, c h2 h3 h4]
theorem at_wp (hL : LtAll prog w A E s κ ks) (h0 : KeysOf κ a₀) {st : SortSt} (B : SB ks a₀ st) {i sa na pw nb pw2 : Nat} (e1 : (pendingOf st)[i]? = some (sa, na, pw)) (e2 : (pendingOf st)[i + 1]? = some (sa + na, nb, pw2))
    (n1 : 1 ≤ na) (n2 : 1 ≤ nb) (hz : sa + na + nb ≤ a₀.size) (s1 : Seg κ (arrOf st) sa (sa + na)) (s2 : Seg κ (arrOf st) (sa + na) (sa + na + nb)) {Q : Bool → SortSt → Prop}
    (h : ∀ st', Mg κ ks a₀ st st' sa (sa + na + nb) (((pendingOf st).setIfInBounds i (sa, na + nb, pw)).eraseIdxIfInBounds (i + 1)) → Q true st') : wpS (model prog w) A E s (mergeAt' i) Q st := by
  rw [at_eq]
  refine wpS_bind (wpS_get ?_)
  rw [e1, e2]
  dsimp only
  have kA : KeysOf κ (arrOf st) := keys_perm h0 B.pm
  have hsz : (arrOf st).size = a₀.size := B.size
  have hll : (arrOf st).toList.length = a₀.size := by rw [Array.length_toList, hsz]
  obtain ⟨P, eP⟩ : ∃ P, P = ((pendingOf st).setIfInBounds i (sa, na + nb, pw)).eraseIdxIfInBounds (i + 1) := ⟨_, rfl⟩
  rw [← eP] at h ⊢
  have setw : ∀ {R : PUnit → SortSt → Prop}, R ⟨⟩ (setPending st P) → wpS (model prog w) A E s (set (setPending st P) : Sm PUnit) R st := fun hR => by
    unfold wpS
    rw [StateT.run_set]
    exact wpAny_pure ⟨rfl, hR⟩
  refine wpS_bind (setw ?_)
  obtain ⟨st1, es1⟩ : ∃ st1, st1 = setPending st P := ⟨_, rfl⟩
  have k1 : kindOf st1 = ks := by rw [es1]; exact B.kind
  have a1 : arrOf st1 = arrOf st := by rw [es1]
  have p1 : pendingOf st1 = P := by rw [es1]
  have f1 : failedOf st1 = none := by rw [es1]; exact B.ok
  rw [← es1]
  have all : Seg κ (arrOf st) sa (sa + na + nb) → Mg κ ks a₀ st st1 sa (sa + na + nb) P := fun sg => ⟨⟨k1, f1, by rw [a1]; exact B.pm⟩, fun k _ => by rw [a1], by rw [a1]; exact sg, p1⟩
  obtain ⟨y, y1, y2, y3, y4⟩ := item kA (i := sa + na) (by omega)
  refine wpS_bind (wpS_elem y1 ?_)
  refine wpS_bind (wpS_gallop (κ := κ) (kk := key κ y) (hL st1 k1) y2 (by omega) (fun j hj => ?_) (fun j j' hjj hj' hb => ?_) fun k kn kt kf => ?_)
  · obtain ⟨p, q1, q2, q3, _⟩ := item kA (i := sa + j) (by omega)
    exact ⟨p, _, q1, q2, q3⟩
  · have mono := s1 (sa + j) (sa + j') (by omega) (by omega) (by omega)
    have hb : (!κ.blt (key κ y) (KK κ (arrOf st) (sa + j'))) = true := hb
    show (!κ.blt (key κ y) (KK κ (arrOf st) (sa + j))) = true
    rw [Bool.not_eq_true'] at hb ⊢
    exact KeyOrd.kle_trans mono hb
  · have kt' : ∀ j, sa ≤ j → j < sa + k → κ.kle (KK κ (arrOf st) j) (KK κ (arrOf st) (sa + na)) := fun j j1 j2 => by
      have := kt (j - sa) (by omega)
      rw [show sa + (j - sa) = j by omega] at this
      have this : (!κ.blt (key κ y) (KK κ (arrOf st) j)) = true := this
      rw [Bool.not_eq_true'] at this
      rw [y3]
      exact this
    have kf' : ∀ j, sa + k ≤ j → j < sa + na → κ.kle (KK κ (arrOf st) (sa + na)) (KK κ (arrOf st) j) := fun j j1 j2 => by
      have := kf (j - sa) (by omega) (by omega)
      rw [show sa + (j - sa) = j by omega] at this
      have this : (!κ.blt (key κ y) (KK κ (arrOf st) j)) = false := this
      rw [Bool.not_eq_false'] at this
      rw [y3]
      exact KeyOrd.kle_of_klt this
    dsimp only
    by_cases hk0 : na - k = 0
    · rw [if_pos (by simpa using hk0)]
      refine wpS_pure (h st1 (all fun u v hu huv hv => ?_))
      by_cases c1 : v < sa + na
      · exact s1 u v hu huv c1
      · by_cases c2 : u < sa + na
        · exact KeyOrd.kle_trans (kt' u hu (by omega)) (s2 (sa + na) v (Nat.le_refl _) (by omega) hv)
        · exact s2 u v (by omega) huv hv
    · rw [if_neg (by simpa using hk0)]
      rw [show sa + k + (na - k) - 1 = sa + na - 1 by omega]
      obtain ⟨x, x1, x2, x3, x4⟩ := item kA (i := sa + na - 1) (by omega)
      refine wpS_bind (wpS_elem x1 ?_)
      refine wpS_bind (wpS_gallop (κ := κ) (kk := key κ x) (hL st1 k1) x2 (by omega) (fun j hj => ?_) (fun j j' hjj hj' hb => ?_) fun n nn nt nf => ?_)
      · obtain ⟨p, q1, q2, q3, _⟩ := item kA (i := sa + na + j) (by omega)
        exact ⟨p, _, q1, q2, q3⟩
      · exact KeyOrd.klt_of_kle_of_klt (s2 (sa + na + j) (sa + na + j') (by omega) (by omega) (by omega)) hb
      · have nt' : ∀ j, sa + na ≤ j → j < sa + na + n → κ.kle (KK κ (arrOf st) j) (KK κ (arrOf st) (sa + na - 1)) := fun j j1 j2 => by
          have := nt (j - (sa + na)) (by omega)
          rw [show sa + na + (j - (sa + na)) = j by omega] at this
          rw [x3]
          exact KeyOrd.kle_of_klt this
        have nf' : ∀ j, sa + na + n ≤ j → j < sa + na + nb → κ.kle (KK κ (arrOf st) (sa + na - 1)) (KK κ (arrOf st) j) := fun j j1 j2 => by
          have := nf (j - (sa + na)) (by omega) (by omega)
          rw [show sa + na + (j - (sa + na)) = j by omega] at this
          rw [x3]
          exact this
        dsimp only
        by_cases hn0 : n = 0
        · rw [if_pos (by simpa using hn0)]
          refine wpS_pure (h st1 (all fun u v hu huv hv => ?_))
          by_cases c1 : v < sa + na
          · exact s1 u v hu huv c1
          · by_cases c2 : u < sa + na
            · exact KeyOrd.kle_trans (s1 u (sa + na - 1) hu (by omega) (by omega)) (nf' v (by omega) hv)
            · exact s2 u v (by omega) huv hv
        · rw [if_neg (by simpa using hn0)]
          -- the two that are merged
          obtain ⟨X, eX⟩ : ∃ X, X = (arrOf st).extract (sa + k) (sa + na) := ⟨_, rfl⟩
          obtain ⟨Y, eY⟩ : ∃ Y, Y = (arrOf st).extract (sa + na) (sa + na + n) := ⟨_, rfl⟩
          rw [← eX, ← eY]
          have lX : X.toList = ((arrOf st).toList.take (sa + na)).drop (sa + k) := by rw [eX, Hi.ext_cut]
          have lY : Y.toList = ((arrOf st).toList.take (sa + na + n)).drop (sa + na) := by rw [eY, Hi.ext_cut]
          have zX : X.size = na - k := by rw [← Array.length_toList, lX, List.length_drop, List.length_take, hll]; omega
          have zY : Y.size = n := by rw [← Array.length_toList, lY, List.length_drop, List.length_take, hll]; omega
          have pA := pw_of_seg kA (by omega) s1
          have pB := pw_of_seg kA (by omega) s2
          have eA := split4 (l := (arrOf st).toList) (i := sa) (j := sa + k) (k := sa + na) (m := sa + na) (by omega) (by omega) (Nat.le_refl _) (by rw [hll]; omega)
          have eB := split4 (l := (arrOf st).toList) (i := sa + na) (j := sa + na + n) (k := sa + na + nb) (m := sa + na + nb) (by omega) (by omega) (Nat.le_refl _) (by rw [hll]; omega)
          have nilA : ((arrOf st).toList.take (sa + na)).drop (sa + na) = [] := List.drop_of_length_le (by rw [List.length_take]; omega)
          have nilB : ((arrOf st).toList.take (sa + na + nb)).drop (sa + na + nb) = [] := List.drop_of_length_le (by rw [List.length_take]; omega)
          rw [nilA, List.append_nil, ← lX] at eA
          rw [nilB, List.append_nil, ← lY] at eB
          obtain ⟨A1, eA1⟩ : ∃ A1, A1 = ((arrOf st).toList.take (sa + k)).drop sa := ⟨_, rfl⟩
          obtain ⟨B2, eB2⟩ : ∃ B2, B2 = ((arrOf st).toList.take (sa + na + nb)).drop (sa + na + n) := ⟨_, rfl⟩
          rw [← eA1] at eA
          rw [← eB2] at eB
          rw [eA] at pA
          rw [eB] at pB
          obtain ⟨pA1, pX, pAX⟩ := List.pairwise_append.mp pA
          obtain ⟨pY, pB2, pYB⟩ := List.pairwise_append.mp pB
          have inX : ∀ z ∈ X.toList, ∃ j, sa + k ≤ j ∧ j < sa + na ∧ KK κ (arrOf st) j = key κ z := fun z hz' => by
            rw [lX] at hz'
            obtain ⟨j, j1, j2, _, j4⟩ := Hi.take_key kA hz'
            exact ⟨j, j1, j2, j4⟩
          have inY : ∀ z ∈ Y.toList, ∃ j, sa + na ≤ j ∧ j < sa + na + n ∧ KK κ (arrOf st) j = key κ z := fun z hz' => by
            rw [lY] at hz'
            obtain ⟨j, j1, j2, _, j4⟩ := Hi.take_key kA hz'
            exact ⟨j, j1, j2, j4⟩
          have inA : ∀ z ∈ A1, ∃ j, sa ≤ j ∧ j < sa + k ∧ KK κ (arrOf st) j = key κ z := fun z hz' => by
            rw [eA1] at hz'
            obtain ⟨j, j1, j2, _, j4⟩ := Hi.take_key kA hz'
            exact ⟨j, j1, j2, j4⟩
          have inB : ∀ z ∈ B2, ∃ j, sa + na + n ≤ j ∧ j < sa + na + nb ∧ KK κ (arrOf st) j = key κ z := fun z hz' => by
            rw [eB2] at hz'
            obtain ⟨j, j1, j2, _, j4⟩ := Hi.take_key kA hz'
            exact ⟨j, j1, j2, j4⟩
          have TT : Two κ X Y := ⟨by rw [eX]; exact keys_ext kA _ _, by rw [eY]; exact keys_ext kA _ _, pX, pY⟩
          have LL : LastA κ X Y := fun z hz' v hv => by
            obtain ⟨j, j1, j2, j3⟩ := inY z hz'
            obtain ⟨j', j1', j2', j3'⟩ := drop_mem TT.ka hv
            have ej : j' = X.size - 1 := by omega
            have e : KK κ X j' = KK κ (arrOf st) (sa + na - 1) := by
              refine KK_congr ?_
              rw [eX, Array.getElem?_extract, if_pos (by omega)]
              congr 1
              omega
            show κ.kle (key κ z) (key κ v)
            rw [← j3, ← j3', e]
            exact nt' j j1 j2
          have F0 : ∀ v ∈ X.toList, ∀ z, Y[0]? = some z → leK κ z v := fun v hv z hz' => by
            obtain ⟨j, j1, j2, j3⟩ := inX v hv
            have ez : z = y := by
              rw [eY, Array.getElem?_extract, if_pos (by omega), Nat.add_zero, y1] at hz'
              exact (Option.some.inj hz').symm
            show κ.kle (key κ z) (key κ v)
            rw [ez, ← y3, ← j3]
            exact kf' j j1 j2
          have FB : Hi.FirstB κ X Y := fun z hz' v hv => by
            obtain ⟨j, j1, j2, j3⟩ := Hi.take_key0 TT.kb hz'
            obtain ⟨q, q1, q2, q3, _⟩ := item TT.kb (i := 0) (by omega)
            have e0 : j = 0 := by omega
            rw [e0, q3] at j3
            have := F0 v hv q q1
            unfold leK at this ⊢
            rw [← j3]
            exact this
          have fin : ∀ m st2, SG st1 st2 → Rs κ X Y m → wpS (model prog w) A E s (do
              modify fun s' => setArr s' (over (arrOf s') (sa + k) m.toList)
              let s' ← get
              pure (failedOf s').isNone) Q st2 := fun m st2 sg D => by
            refine wpS_bind (wpS_modify (wpS_bind (wpS_get (wpS_pure ?_))))
            have ft : (failedOf (setArr st2 (over (arrOf st2) (sa + k) m.toList))).isNone = true := by
              show (failedOf st2).isNone = true
              rw [sg.fail, f1]
              rfl
            rw [ft]
            have am : arrOf st2 = arrOf st := sg.arr.trans a1
            have lm : m.toList.length = na - k + n := by
              rw [D.pm.length_eq, List.length_append, Array.length_toList, Array.length_toList, zX, zY]
            have ol : (over (arrOf st) (sa + k) m.toList).toList = (arrOf st).toList.take (sa + k) ++ m.toList ++ (arrOf st).toList.drop (sa + na + n) := by
              rw [over_list (by rw [lm, hsz]; omega), lm, show sa + k + (na - k + n) = sa + na + n by omega]
            have permL : (over (arrOf st) (sa + k) m.toList).toList.Perm (arrOf st).toList := by
              rw [ol]
              have e : (arrOf st).toList = (arrOf st).toList.take (sa + k) ++ (X.toList ++ Y.toList) ++ (arrOf st).toList.drop (sa + na + n) := by
                rw [lX, lY]
                have c1 := Hi.cut_drop (l := (arrOf st).toList) (t := sa + na) (n := sa + na + n) (by omega) (by rw [hll]; omega)
                have c2 := Hi.cut_drop (l := (arrOf st).toList) (t := sa + k) (n := sa + na) (by omega) (by rw [hll]; omega)
                rw [List.append_assoc, List.append_assoc, c1, c2, List.take_append_drop]
              conv => rhs; rw [e]
              exact List.Perm.append_right _ (List.Perm.append_left _ D.pm)
            have permA : (over (arrOf st) (sa + k) m.toList).Perm (arrOf st) := Array.perm_iff_toList_perm.mpr permL
            have kO : KeysOf κ (over (arrOf st) (sa + k) m.toList) := keys_perm kA permA
            have zO : (over (arrOf st) (sa + k) m.toList).size = a₀.size := permA.size_eq.trans hsz
            have og : ∀ j, (over (arrOf st) (sa + k) m.toList)[j]? = if sa + k + 0 ≤ j ∧ j < sa + k + 0 + m.toList.length then m.toList[j - (sa + k + 0)]? else (arrOf st)[j]? := (over_go m.toList 0 (sa + k) (arrOf st) (by rw [lm, hsz]; omega)).2
            refine h _ ⟨⟨sg.kind.trans k1, by show failedOf st2 = none; rw [sg.fail, f1], ?_⟩, fun j hj => ?_, ?_, ?_⟩
            · show (over (arrOf st2) (sa + k) m.toList).Perm a₀
              rw [am]
              exact permA.trans B.pm
            · show (over (arrOf st2) (sa + k) m.toList)[j]? = _
              rw [am, og j, if_neg (by rw [lm]; omega)]
            · show Seg κ (over (arrOf st2) (sa + k) m.toList) sa (sa + na + nb)
              rw [am]
              refine seg_of_pw kO (by rw [zO]; exact hz) ?_
              have cut : ((over (arrOf st) (sa + k) m.toList).toList.take (sa + na + nb)).drop sa = A1 ++ (m.toList ++ B2) := by
                rw [ol, eA1, eB2]
                have tl : ((arrOf st).toList.take (sa + k)).length = sa + k := by rw [List.length_take, hll]; omega
                rw [List.append_assoc, List.take_append, tl, List.take_of_length_le (l := (arrOf st).toList.take (sa + k)) (by rw [tl]; omega), List.take_append, lm, List.take_of_length_le (l := m.toList) (by rw [lm]; omega)]
                rw [List.drop_append_of_le_length (by rw [tl]; omega)]
                congr 2
                rw [List.drop_take]
                congr 1
                omega
              rw [cut]
              refine List.pairwise_append.mpr ⟨pA1, List.pairwise_append.mpr ⟨D.sr, pB2, fun u hu v hv => ?_⟩, fun u hu v hv => ?_⟩
              · rcases List.mem_append.mp (D.pm.mem_iff.mp hu) with c | c
                · obtain ⟨j, j1, j2, j3⟩ := inX u c
                  obtain ⟨j', j1', j2', j3'⟩ := inB v hv
                  show κ.kle (key κ u) (key κ v)
                  rw [← j3, ← j3']
                  exact KeyOrd.kle_trans (s1 j (sa + na - 1) (by omega) (by omega) (by omega)) (nf' j' j1' j2')
                · exact pYB u c v hv
              · obtain ⟨j, j1, j2, j3⟩ := inA u hu
                rcases List.mem_append.mp hv with c | c
                · rcases List.mem_append.mp (D.pm.mem_iff.mp c) with c | c
                  · exact pAX u hu v c
                  · obtain ⟨j', j1', j2', j3'⟩ := inY v c
                    show κ.kle (key κ u) (key κ v)
                    rw [← j3, ← j3']
                    exact KeyOrd.kle_trans (kt' j j1 j2) (s2 (sa + na) j' (Nat.le_refl _) j1' (by omega))
                · obtain ⟨j', j1', j2', j3'⟩ := inB v c
                  show κ.kle (key κ u) (key κ v)
                  rw [← j3, ← j3']
                  exact KeyOrd.kle_trans (kt' j j1 j2) (s2 (sa + na) j' (Nat.le_refl _) (by omega) j2')
            · show pendingOf st2 = P
              rw [sg.pend, p1]
          by_cases hc : na - k ≤ n
          · rw [if_pos hc]
            exact wpS_bind (lo_wp hL TT LL (by omega) (by omega) F0 k1 fun m st2 sg D => fin m st2 sg D)
          · rw [if_neg hc]
            exact wpS_bind (Hi.hi_wp hL TT LL FB (by omega) (by omega) k1 fun m st2 sg D => fin m st2 sg D)
end
end Srt

set_option Elab.async false
set_option linter.all false
set_option maxRecDepth 100000
/-! list.sort: the whole of it. -/
namespace Srt
open PySem PyProof.Rows
abbrev Run := Nat × Nat × Nat
/-- runs that stand one behind the other, from a to b, each in order -/
def Ch (κ : PyProof.Rows.KeyKind) (arr : Array Keyed) : List Run → Nat → Nat → Prop
  | [], a, b => a = b
  | r :: l, a, b => r.1 = a ∧ 1 ≤ r.2.1 ∧ Seg κ arr a (a + r.2.1) ∧ Ch κ arr l (a + r.2.1) b
theorem Ch.le {κ : PyProof.Rows.KeyKind} {arr : Array Keyed} : ∀ {l : List Run} {a b : Nat}, Ch κ arr l a b → a + l.length ≤ b
  | [], a, b, h => by
    have h : a = b := h
    simp [h]
  | r :: l, a, b, h => by
    have := Ch.le h.2.2.2
    have := h.2.1
    rw [List.length_cons]
    omega
theorem Ch.split {κ : PyProof.Rows.KeyKind} {arr : Array Keyed} : ∀ {l1 l2 : List Run} {a b : Nat}, Ch κ arr (l1 ++ l2) a b ↔ ∃ m, Ch κ arr l1 a m ∧ Ch κ arr l2 m b
  | [], l2, a, b => ⟨fun h => ⟨a, rfl, h⟩, fun ⟨m, h1, h2⟩ => by
    have h1 : a = m := h1
    rw [h1]
    exact h2⟩
  | r :: l1, l2, a, b => by
    constructor
    · intro h
      obtain ⟨m, h1, h2⟩ := Ch.split.mp h.2.2.2
      exact ⟨m, ⟨h.1, h.2.1, h.2.2.1, h1⟩, h2⟩
    · rintro ⟨m, h1, h2⟩
      exact ⟨h1.1, h1.2.1, h1.2.2.1, Ch.split.mpr ⟨m, h1.2.2.2, h2⟩⟩
theorem seg_same {κ : PyProof.Rows.KeyKind} {arr arr' : Array Keyed} {a b : Nat} (h : Seg κ arr a b) (e : ∀ k, a ≤ k → k < b → arr'[k]? = arr[k]?) : Seg κ arr' a b := fun i j h1 h2 h3 => by
  rw [KK_congr (e i h1 (by omega)), KK_congr (e j (by omega) h3)]
  exact h i j h1 h2 h3
theorem Ch.same {κ : PyProof.Rows.KeyKind} {arr arr' : Array Keyed} : ∀ {l : List Run} {a b : Nat}, Ch κ arr l a b → (∀ k, a ≤ k → k < b → arr'[k]? = arr[k]?) → Ch κ arr' l a b
  | [], _, _, h, _ => h
  | r :: l, a, b, h, e => by
    have := Ch.le h.2.2.2
    exact ⟨h.1, h.2.1, seg_same h.2.2.1 fun k k1 k2 => e k k1 (by omega), h.2.2.2.same fun k k1 k2 => e k (by omega) k2⟩
theorem pend_list {p : Array Run} {i : Nat} {v : Run} (h : i + 1 < p.size) : ((p.setIfInBounds i v).eraseIdxIfInBounds (i + 1)).toList = p.toList.take i ++ v :: p.toList.drop (i + 2) := by
  have hl : p.toList.length = p.size := Array.length_toList
  have e1 : (p.setIfInBounds i v).eraseIdxIfInBounds (i + 1) = (p.setIfInBounds i v).eraseIdx (i + 1) (by rw [Array.size_setIfInBounds]; exact h) := by
    rw [Array.eraseIdxIfInBounds, dif_pos (by rw [Array.size_setIfInBounds]; exact h)]
  rw [e1, Array.toList_eraseIdx, Array.toList_setIfInBounds, List.eraseIdx_eq_take_drop_succ, List.take_set, List.drop_set, if_pos (by omega)]
  have e2 : p.toList.take (i + 1) = p.toList.take i ++ [p.toList[i]'(by omega)] := by
    rw [List.take_add_one, List.getElem?_eq_getElem (by omega)]
    rfl
  rw [e2, List.set_append_right _ _ (by rw [List.length_take]; omega)]
  rw [List.length_take, show i - min i p.toList.length = 0 by omega]
  simp
section
variable {prog : Program} {w : World} {A : Around} {E : Value → Shared → Prop} {s : Shared} {κ : PyProof.Rows.KeyKind} {ks : SortKind} {a₀ : Array Keyed}
/-- what holds between two steps: all to lo lies in runs -/
structure St (κ : PyProof.Rows.KeyKind) (ks : SortKind) (a₀ : Array Keyed) (st : SortSt) (lo : Nat) : Prop where
  base : SB ks a₀ st
  ch : Ch κ (arrOf st) (pendingOf st).toList 0 lo
  le : lo ≤ a₀.size
theorem merge_wp (hL : LtAll prog w A E s κ ks) (h0 : KeysOf κ a₀) {st : SortSt} {lo i : Nat} (S : St κ ks a₀ st lo) (hi : i + 1 < (pendingOf st).size) {Q : Bool → SortSt → Prop}
    (h : ∀ st', St κ ks a₀ st' lo → (pendingOf st').size + 1 = (pendingOf st).size → (∀ k, lo ≤ k → (arrOf st')[k]? = (arrOf st)[k]?) → Q true st') : wpS (model prog w) A E s (mergeAt' i) Q st := by
  have hl : (pendingOf st).toList.length = (pendingOf st).size := Array.length_toList
  have d1 : (pendingOf st).toList.drop i = (pendingOf st).toList[i]'(by omega) :: (pendingOf st).toList.drop (i + 1) := List.drop_eq_getElem_cons (by omega)
  have d2 : (pendingOf st).toList.drop (i + 1) = (pendingOf st).toList[i + 1]'(by omega) :: (pendingOf st).toList.drop (i + 2) := List.drop_eq_getElem_cons (by omega)
  have g1 : (pendingOf st)[i]? = some ((pendingOf st).toList[i]'(by omega)) := by rw [← Array.getElem?_toList, List.getElem?_eq_getElem (by omega)]
  have g2 : (pendingOf st)[i + 1]? = some ((pendingOf st).toList[i + 1]'(by omega)) := by rw [← Array.getElem?_toList, List.getElem?_eq_getElem (by omega)]
  obtain ⟨⟨sa, na, pw⟩, ep⟩ : ∃ r, r = (pendingOf st).toList[i]'(by omega) := ⟨_, rfl⟩
  obtain ⟨⟨sb, nb, pw2⟩, eq⟩ : ∃ r, r = (pendingOf st).toList[i + 1]'(by omega) := ⟨_, rfl⟩
  rw [← ep] at d1 g1
  rw [← eq] at d2 g2
  have c := S.ch
  rw [← List.take_append_drop i (pendingOf st).toList, d1, d2] at c
  obtain ⟨m, c1, c2⟩ := Ch.split.mp c
  obtain ⟨q1, q2, q3, q4, q5, q6, q7⟩ := c2
  dsimp only at q1 q2 q3 q4 q5 q6 q7
  subst q1
  subst q4
  have lb := Ch.le q7
  have lm := Ch.le c1
  refine at_wp hL h0 S.base g1 g2 q2 q5 (by have := S.le; omega) q3 q6 fun st' M => ?_
  have pl : (pendingOf st').toList = (pendingOf st).toList.take i ++ (sa, na + nb, pw) :: (pendingOf st).toList.drop (i + 2) := by rw [M.pend, pend_list hi]
  refine h st' ⟨M.base, ?_, S.le⟩ ?_ fun k hk => M.out k (.inr (by omega))
  · rw [pl]
    refine Ch.split.mpr ⟨sa, c1.same fun k _ k2 => M.out k (.inl k2), rfl, by dsimp only; omega, ?_, ?_⟩
    · dsimp only
      rw [← Nat.add_assoc]
      exact M.seg
    · dsimp only
      rw [← Nat.add_assoc]
      exact q7.same fun k k1 _ => M.out k (.inr k1)
  · rw [← Array.length_toList, pl, List.length_append, List.length_cons, List.length_take, List.length_drop]
    omega
def rest (z lo n : Nat) : Sm (ForInStep (Option Unit × Nat)) := do
  let s ← get
  match (pendingOf s).back? with
  | some (s1, n1, _) => do
    let c ← forIn [0:z] ((none, ()) : Option Unit × Unit) fun _ _ => do
        let s ← get
        match (if (pendingOf s).size > 1 then (pendingOf s)[(pendingOf s).size - 2]? else none) with
        | some (_, _, older) =>
          if older ≤ power' z (2 * s1 + n1) (2 * s1 + n1 + n1 + n) z then pure (ForInStep.done (none, ()))
          else do
            let b ← mergeAt' ((pendingOf s).size - 2)
            if (!b) = true then pure (ForInStep.done (some (), ())) else pure (ForInStep.yield (none, ()))
        | _ => pure (ForInStep.done (none, ()))
    match c.1 with
    | some r => pure (ForInStep.done (some r, lo))
    | none => do
      modify fun s => setPending s ((pendingOf s).modify ((pendingOf s).size - 1) fun x => (x.1, x.2.1, power' z (2 * s1 + n1) (2 * s1 + n1 + n1 + n) z))
      modify fun s => setPending s ((pendingOf s).push (lo, n, 0))
      pure (ForInStep.yield (none, lo + n))
  | _ => do
    modify fun s => setPending s ((pendingOf s).push (lo, n, 0))
    pure (ForInStep.yield (none, lo + n))
theorem Ch.pw {κ : PyProof.Rows.KeyKind} {arr : Array Keyed} (f : Run → Run) (hf : ∀ r, (f r).1 = r.1 ∧ (f r).2.1 = r.2.1) : ∀ {l : List Run} {a b i : Nat}, Ch κ arr l a b → Ch κ arr (l.modify i f) a b
  | [], a, b, i, h => by
    cases i <;> exact h
  | r :: l, a, b, 0, h => by
    obtain ⟨e1, e2⟩ := hf r
    refine ⟨e1.trans h.1, by rw [e2]; exact h.2.1, by rw [e2]; exact h.2.2.1, ?_⟩
    rw [e2]
    exact h.2.2.2
  | r :: l, a, b, i + 1, h => ⟨h.1, h.2.1, h.2.2.1, Ch.pw f hf h.2.2.2⟩
theorem St.push {st : SortSt} {lo n : Nat} (S : St κ ks a₀ st lo) (n1 : 1 ≤ n) (hn : lo + n ≤ a₀.size) (sg : Seg κ (arrOf st) lo (lo + n)) : St κ ks a₀ (setPending st ((pendingOf st).push (lo, n, 0))) (lo + n) := by
  refine ⟨⟨S.base.kind, S.base.ok, S.base.pm⟩, ?_, hn⟩
  show Ch κ (arrOf st) ((pendingOf st).push (lo, n, 0)).toList 0 (lo + n)
  rw [Array.toList_push]
  exact Ch.split.mpr ⟨lo, S.ch, rfl, n1, sg, rfl⟩
theorem St.pw {st : SortSt} {lo i : Nat} (S : St κ ks a₀ st lo) (f : Run → Run) (hf : ∀ r, (f r).1 = r.1 ∧ (f r).2.1 = r.2.1) : St κ ks a₀ (setPending st ((pendingOf st).modify i f)) lo := by
  refine ⟨⟨S.base.kind, S.base.ok, S.base.pm⟩, ?_, S.le⟩
  show Ch κ (arrOf st) ((pendingOf st).modify i f).toList 0 lo
  rw [Array.toList_modify]
  exact S.ch.pw f hf
theorem rest_wp (hL : LtAll prog w A E s κ ks) (h0 : KeysOf κ a₀) {st : SortSt} {lo n x : Nat} (S : St κ ks a₀ st lo) (n1 : 1 ≤ n) (hn : lo + n ≤ a₀.size) (sg : Seg κ (arrOf st) lo (lo + n)) (hx : x ≤ lo) {Q : ForInStep (Option Unit × Nat) → SortSt → Prop}
    (h : ∀ st', St κ ks a₀ st' (lo + n) → Q (.yield (none, lo + n)) st') : wpS (model prog w) A E s (rest a₀.size lo n) Q st := by
  unfold rest
  refine wpS_bind (wpS_get ?_)
  cases (pendingOf st).back? with
  | none => exact wpS_bind (wpS_modify (wpS_pure (h _ (S.push n1 hn sg))))
  | some q =>
    obtain ⟨s1, n1', p1⟩ := q
    dsimp only
    refine wpS_bind (wpS_mono (wpS_forRange (I := fun _ c st' => c = (none, ()) ∧ St κ ks a₀ st' lo ∧ Seg κ (arrOf st') lo (lo + n)) (Q := fun c st' => c = (none, ()) ∧ St κ ks a₀ st' lo ∧ Seg κ (arrOf st') lo (lo + n)) ?_ (fun _ _ z => z) ⟨rfl, S, sg⟩) ?_)
    · rintro y c st' _ _ ⟨rfl, S', sg'⟩
      refine wpS_bind (wpS_get ?_)
      by_cases h1 : (pendingOf st').size > 1
      · rw [if_pos h1]
        have hl : (pendingOf st').size - 2 < (pendingOf st').size := by omega
        rw [Array.getElem?_eq_getElem hl]
        obtain ⟨⟨a1, a2, older⟩, eo⟩ : ∃ r, r = (pendingOf st')[(pendingOf st').size - 2] := ⟨_, rfl⟩
        rw [← eo]
        dsimp only
        split
        · exact wpS_pure ⟨rfl, S', sg'⟩
        · refine wpS_bind (merge_wp hL h0 S' (by omega) fun st2 S2 _ o2 => ?_)
          rw [if_neg (by decide)]
          exact wpS_pure ⟨rfl, S2, seg_same sg' fun k k1 _ => o2 k k1⟩
      · rw [if_neg h1]
        exact wpS_pure ⟨rfl, S', sg'⟩
    · rintro c st' ⟨rfl, S', sg'⟩
      dsimp only
      refine wpS_bind (wpS_modify (wpS_bind (wpS_modify (wpS_pure (h _ ?_)))))
      exact (S'.pw (fun x => (x.1, x.2.1, power' a₀.size (2 * s1 + n1') (2 * s1 + n1' + n1' + n) a₀.size)) fun _ => ⟨rfl, rfl⟩).push n1 hn sg'
theorem ifl (c : Prop) [Decidable c] (n : Nat) : (if c then n - 1 else n) ≤ n := by split <;> omega
theorem runs_wp (hL : LtAll prog w A E s κ ks) (h0 : KeysOf κ a₀) {st : SortSt} (B : SB ks a₀ st) (hp : pendingOf st = #[]) {Q : Unit → SortSt → Prop}
    (h : ∀ st', SB ks a₀ st' → Seg κ (arrOf st') 0 a₀.size → Q () st') : wpS (model prog w) A E s sortRuns' Q st := by
  rw [sortRuns'_eq]
  refine wpS_bind (wpS_get ?_)
  dsimp only
  rw [B.size]
  generalize minRun' a₀.size a₀.size 0 = mr
  refine wpS_bind (wpS_mono (wpS_forRange (I := fun x c st' => c.1 = none ∧ St κ ks a₀ st' c.2 ∧ x ≤ c.2) (Q := fun c st' => c.1 = none ∧ St κ ks a₀ st' a₀.size) ?_ ?_ ⟨rfl, ⟨B, by rw [hp]; rfl, Nat.zero_le _⟩, Nat.le_refl _⟩) ?_)
  · rintro x ⟨c0, lo⟩ st' _ hx ⟨rfl, S, hlo⟩
    dsimp only at S hlo ⊢
    by_cases hge : lo ≥ a₀.size
    · rw [if_pos hge]
      have e : lo = a₀.size := by
        have := S.le
        omega
      refine wpS_pure ⟨rfl, ?_⟩
      rw [← e]
      exact S
    · rw [if_neg hge]
      refine wpS_bind (count_wp hL h0 (by omega) (by omega) S.base fun n st1 B1 O1 n1 n2 sg1 => ?_)
      dsimp only
      have S1 : St κ ks a₀ st1 lo := ⟨B1, by rw [O1.pend]; exact S.ch.same fun k _ k2 => O1.out k (.inl k2), S.le⟩
      have tr : ∀ {m m' : Sm (ForInStep (Option Unit × Nat))} {R : ForInStep (Option Unit × Nat) → SortSt → Prop} {st2 : SortSt}, m = m' → wpS (model prog w) A E s m' R st2 → wpS (model prog w) A E s m R st2 := fun e h => e ▸ h
      by_cases hm : n < mr
      · rw [if_pos hm]
        refine wpS_bind (wpS_lift (wpAny_rule ⟨rfl, ?_⟩))
        refine wpS_bind (bin_wp hL h0 (by omega) (by omega) B1 sg1 fun st2 B2 O2 sg2 => ?_)
        rw [if_neg (by decide)]
        refine tr ?_ (rest_wp hL h0 ⟨B2, by rw [O2.pend]; exact S1.ch.same fun k _ k2 => O2.out k (.inl k2), S.le⟩ (by omega) (by omega) sg2 hlo fun st3 S3 => ⟨rfl, S3, by dsimp only; omega⟩)
        · skip
          unfold rest
          refine bc rfl (funext fun s => ?_)
          cases (pendingOf s).back? with
          | none => rfl
          | some q =>
            obtain ⟨s1, n1, p⟩ := q
            refine bc (fi (funext fun x => funext fun c => bc rfl (funext fun s => ?_))) (funext fun c => ?_)
            · generalize (if (pendingOf s).size > 1 then (pendingOf s)[(pendingOf s).size - 2]? else none) = o
              cases o with
              | none => rfl
              | some r =>
                obtain ⟨r1, r2, r3⟩ := r
                exact ic rfl (bc rfl (funext fun b => rfl))
            · obtain ⟨r, u⟩ := c
              cases r <;> rfl
      · rw [if_neg hm]
        refine tr ?_ (rest_wp hL h0 S1 n1 (by omega) sg1 hlo fun st3 S3 => ⟨rfl, S3, by dsimp only; omega⟩)
        · skip
          unfold rest
          refine bc rfl (funext fun s => ?_)
          cases (pendingOf s).back? with
          | none => rfl
          | some q =>
            obtain ⟨s1, n1, p⟩ := q
            refine bc (fi (funext fun x => funext fun c => bc rfl (funext fun s => ?_))) (funext fun c => ?_)
            · generalize (if (pendingOf s).size > 1 then (pendingOf s)[(pendingOf s).size - 2]? else none) = o
              cases o with
              | none => rfl
              | some r =>
                obtain ⟨r1, r2, r3⟩ := r
                exact ic rfl (bc rfl (funext fun b => rfl))
            · obtain ⟨r, u⟩ := c
              cases r <;> rfl
  · rintro ⟨c0, lo⟩ st' ⟨h1, S, h2⟩
    dsimp only at h1 S h2 ⊢
    have e : lo = a₀.size := by
      have := S.le
      omega
    rw [← e]
    exact ⟨h1, S⟩
  · rintro ⟨c0, lo⟩ st' ⟨h1, S⟩
    dsimp only at h1
    subst h1
    dsimp only
    have one : ∀ {st' : SortSt}, St κ ks a₀ st' a₀.size → (pendingOf st').size ≤ 1 → Seg κ (arrOf st') 0 a₀.size := fun {st'} S hs => by
      have c := S.ch
      rw [← Array.length_toList] at hs
      cases e : (pendingOf st').toList with
      | nil =>
        rw [e] at c
        have c : 0 = a₀.size := c
        intro i j _ _ h3
        omega
      | cons r l =>
        rw [e] at c hs
        have l0 : l = [] := by
          cases l with
          | nil => rfl
          | cons _ _ => rw [List.length_cons, List.length_cons] at hs; omega
        rw [l0] at c
        obtain ⟨_, _, sg, c4⟩ := c
        have c4 : 0 + r.2.1 = a₀.size := c4
        rw [c4] at sg
        exact sg
    have p0 : (pendingOf st').size ≤ a₀.size := by
      have := Ch.le S.ch
      rw [Array.length_toList] at this
      omega
    refine wpS_bind (wpS_mono (wpS_forRange (I := fun x c st2 => c = (none, ()) ∧ St κ ks a₀ st2 a₀.size ∧ (pendingOf st2).size + x ≤ a₀.size) (Q := fun c st2 => c = (none, ()) ∧ St κ ks a₀ st2 a₀.size ∧ (pendingOf st2).size ≤ 1) ?_ ?_ ⟨rfl, S, by omega⟩) ?_)
    · rintro x c st2 _ hx ⟨rfl, S2, hp2⟩
      refine wpS_bind (wpS_get ?_)
      by_cases h1 : (pendingOf st2).size ≤ 1
      · rw [if_pos h1]
        exact wpS_pure ⟨rfl, S2, h1⟩
      · rw [if_neg h1]
        have hz : 2 ≤ (pendingOf st2).size := by omega
        refine wpS_bind (merge_wp hL h0 S2 (Nat.lt_of_le_of_lt (Nat.succ_le_succ (ifl _ _)) (show (pendingOf st2).size - 2 + 1 < (pendingOf st2).size by omega)) fun st3 S3 z3 _ => ?_)
        rw [if_neg (by decide)]
        exact wpS_pure ⟨rfl, S3, by omega⟩
    · rintro c st2 ⟨rfl, S2, hp2⟩
      exact ⟨rfl, S2, by omega⟩
    · rintro c st2 ⟨rfl, S2, hp2⟩
      exact wpS_pure (h st2 S2.base (one S2 hp2))
end
end Srt

set_option Elab.async false
set_option linter.all false
set_option maxRecDepth 100000
/-! sorted of a list of tuples of ints. -/
namespace L2
open PySem PySem.Spec PyProof.Rows PySem.Calls
theorem lex_irr : ∀ a : List Int, HT.lexLt a a = false
  | [] => rfl
  | x :: xs => by
    rw [HT.lexLt_cons, if_pos rfl]
    exact lex_irr xs
theorem lex_tot : ∀ a b : List Int, HT.lexLt a b = false → HT.lexLt b a = false → a = b
  | [], [], _, _ => rfl
  | [], _ :: _, h, _ => by cases h
  | _ :: _, [], _, h => by cases h
  | x :: xs, y :: ys, h1, h2 => by
    rw [HT.lexLt_cons] at h1 h2
    by_cases e : x = y
    · subst e
      rw [if_pos rfl] at h1 h2
      rw [lex_tot xs ys h1 h2]
    · rw [if_neg e] at h1
      rw [if_neg (Ne.symm e)] at h2
      have h1 := of_decide_eq_false h1
      have h2 := of_decide_eq_false h2
      omega
theorem lex_tr : ∀ a b c : List Int, HT.lexLt a b = true → HT.lexLt b c = true → HT.lexLt a c = true
  | [], [], _, h, _ => by cases h
  | [], _ :: _, [], _, h => by cases h
  | [], _ :: _, _ :: _, _, _ => rfl
  | _ :: _, [], _, h, _ => by cases h
  | _ :: _, _ :: _, [], _, h => by cases h
  | x :: xs, y :: ys, z :: zs, h1, h2 => by
    rw [HT.lexLt_cons] at h1 h2 ⊢
    by_cases e1 : x = y
    · subst e1
      rw [if_pos rfl] at h1
      by_cases e2 : x = z
      · subst e2
        rw [if_pos rfl] at h2 ⊢
        exact lex_tr xs ys zs h1 h2
      · rw [if_neg e2] at h2 ⊢
        exact h2
    · rw [if_neg e1] at h1
      have h1 := of_decide_eq_true h1
      by_cases e2 : y = z
      · subst e2
        rw [if_neg e1]
        exact decide_eq_true h1
      · rw [if_neg e2] at h2
        have h2 := of_decide_eq_true h2
        rw [if_neg (by omega)]
        exact decide_eq_true (by omega)
theorem lex_neg (a b c : List Int) (h : HT.lexLt a c = true) : HT.lexLt a b = true ∨ HT.lexLt b c = true := by
  cases e1 : HT.lexLt a b with
  | true => exact .inl rfl
  | false =>
    cases e2 : HT.lexLt b a with
    | true => exact .inr (lex_tr b a c e2 h)
    | false => exact .inr (by rw [← lex_tot a b e1 e2]; exact h)
/-- keys: the rows of the tuples at these places -/
def kRow (ads : List Addr) (row : Addr → List Int) : PyProof.Rows.KeyKind where
  α := List Int
  blt := HT.lexLt
  irrefl := lex_irr
  trans := lex_tr
  negTrans := lex_neg
  total := lex_tot
  keyOf := fun u => match u with
    | .ref a => if ads.contains a = true then some (row a) else none
    | _ => none
  dflt := []
section
open PySem.W
variable {prog : Program} {w : World} {A : Around} {E : Value → Shared → Prop} {s : Shared}
theorem lex_wp {Q : Bool → Shared → Prop} : ∀ {ns ms : List Int} {us vs : List Value} {i : Nat}, Vals (ns.map V.int) us → Vals (ms.map V.int) vs → Q (HT.lexLt ns ms) s → KatLex prog w A true (decide (ns.length < ms.length)) Q (us.zip vs) i s
  | [], [], _, _, _, .nil, .nil, h => h
  | [], _ :: _, _, _, _, .nil, .cons _ _, h => by
    refine kat_nil ?_
    rw [decide_eq_true (by simp)]
    exact h
  | _ :: _, [], _, _, _, .cons _ _, .nil, h => by
    refine kat_nil ?_
    rw [decide_eq_false (by simp)]
    exact h
  | x :: ns, y :: ms, _, _, i, .cons r1 t1, .cons r2 t2, h => by
    obtain ⟨k1, rfl⟩ := r1
    obtain ⟨k2, rfl⟩ := r2
    rw [HT.lexLt_cons] at h
    refine kat_cons (wpAny_eqBool_int ?_)
    by_cases e : x = y
    · subst e
      rw [if_pos rfl] at h
      rw [show (x == x) = true from beq_self_eq_true x]
      refine kat_yes ?_
      have := lex_wp (i := i + 1) t1 t2 h
      rw [show decide ((x :: ns).length < (x :: ms).length) = decide (ns.length < ms.length) by rw [List.length_cons, List.length_cons]; exact decide_eq_decide.mpr (by omega)]
      exact this
    · rw [if_neg e] at h
      rw [show (x == y) = false from beq_false_of_ne e]
      refine kat_no ?_
      cases hi : (true && i == 0) with
      | true => exact oneLt_int h
      | false => exact kat_one _ _ (lt_int h)
theorem lt_rows {x y : Addr} {ox oy : Obj} {nx ny : Nat} {ns ms : List Int} {us vs : List Value} {Q : Bool → Shared → Prop} (hx : s.heap.get? x = some ox) (dx : ox.data = .seq us.toArray nx) (hy : s.heap.get? y = some oy) (dy : oy.data = .seq vs.toArray ny)
    (r1 : Vals (ns.map V.int) us) (r2 : Vals (ms.map V.int) vs) (h : Q (HT.lexLt ns ms) s) : wpAny (model prog w) A (keyLt' (tuples' true) (.ref x) (.ref y)) Q E s := by
  refine kat_lt hx dx hy dy ?_
  have l1 := r1.length
  have l2 := r2.length
  rw [List.length_map] at l1 l2
  have := lex_wp (prog := prog) (w := w) (A := A) (s := s) (Q := Q) (i := 0) r1 r2 h
  rw [List.size_toArray, List.size_toArray, ← l1, ← l2]
  exact this
/-- sorted(l): what list.sort leaves, told -/
theorem srt_all {l : Addr} {vs : List Value} {Q : Value → Shared → Prop} {R : List Value → Prop} (lst : s.heap.IsList l vs.toArray) (fits : vs.length ≤ sizeLine) (small : vs.length < 2 → R vs)
    (big : 2 ≤ vs.length → ∀ g, (∀ b o, s.heap.get? b = some o → g.get? b = some o) → wpAny (model prog w) A.in1.in1 (keyKind' vs.toArray) (fun κ s1 => s1 = { s with heap := g } ∧
        wpS (model prog w) A.in1.in1 (fun _ _ => False) { s with heap := g } sortRuns' (fun _ st => failedOf st = none ∧ ∃ out, (arrOf st).map (·.2) = List.toArray out ∧ R out) (SortSt.mk' κ (vs.toArray.zip vs.toArray) #[] 7 none)) (fun _ _ => False) { s with heap := g })
    (len : ∀ out, R out → out.length = vs.length)
    (fin : ∀ out, R out → ∀ h2 c, (∀ b o, s.heap.get? b = some o → h2.get? b = some o) → h2.get? (s.heap.objs.size + 1) = some (seqObj "list" out.toArray c) → Q (.ref (s.heap.objs.size + 1)) { s with heap := h2 }) :
    wpAny (model prog w) A (call (.builtin "sorted") [.ref l]) Q E s := by
  refine call_function_entry kind_sorted plain_sorted entry_sorted (args_sorted1 _) ?_
  unfold Builtin.«sorted»
  refine wpAny_bind (m := checkCount "sorted" 1 1 _) (wpAny_pure (wpAny_bind (collect_list lst ?_ fits)))
  refine wpAny_bind (wpAny_newList ?_ fits)
  have size1 : ((s.heap.push (seqObj "list" #[] 0)).update s.heap.objs.size (Obj.mapSeq (· ++ vs.toArray))).objs.size = s.heap.objs.size + 1 := by rw [Heap.size_update, Heap.size_push]
  obtain ⟨g1, eg1⟩ : ∃ g1, g1 = ((s.heap.push (seqObj "list" #[] 0)).update s.heap.objs.size (Obj.mapSeq (· ++ vs.toArray))).push (seqObj "list" vs.toArray 0) := ⟨_, rfl⟩
  have at1 : g1.get? (s.heap.objs.size + 1) = some (seqObj "list" vs.toArray 0) := by rw [eg1, ← size1]; exact Heap.get?_push_size _ rfl
  have kp1 : ∀ b o, s.heap.get? b = some o → g1.get? b = some o := fun b o q => by
    have lt : b < s.heap.objs.size := Heap.lt_size q
    rw [eg1, Heap.get?_push_ne _ _ _ (by rw [size1]; exact Nat.ne_of_lt (Nat.lt_succ_of_lt lt)), Heap.get?_update_ne _ _ _ _ (Nat.ne_of_lt lt), Heap.get?_push_ne _ _ _ (Nat.ne_of_lt lt)]
    exact q
  show wpAny _ _ _ _ _ { s with heap := _ }
  rw [size1, show ((s.heap.push (seqObj "list" #[] 0)).update s.heap.objs.size (Obj.mapSeq (· ++ vs.toArray))).push (seqObj "list" vs.toArray 0) = g1 from eg1.symm]
  refine wpAny_bind (wpAny_holding (wpAny_call_entry slot_list_sort ⟨_, at1, rfl⟩ entry_list_sort ?body (args_list_sort _)))
  obtain ⟨D, eD⟩ : ∃ D, D = s.heap.objs.size + 1 := ⟨_, rfl⟩
  rw [← eD] at at1 fin ⊢
  have apart : ∀ b o, s.heap.get? b = some o → b ≠ D := fun b o q e => by
    have lt : b < s.heap.objs.size := Heap.lt_size q
    rw [e, eD] at lt
    exact absurd lt (Nat.not_lt_of_le (Nat.le_succ _))
  obtain ⟨g2, eg2⟩ : ∃ g2, g2 = g1.update D (Obj.mapSeq fun _ => (#[] : Array Value)) := ⟨_, rfl⟩
  have sb2 : Heap.SameBut D g1 g2 := eg2 ▸ Heap.SameBut.update g1 D _
  obtain ⟨e1, at2⟩ : ∃ e1, g2.get? D = some (seqObj "list" #[] e1) := ⟨_, eg2 ▸ get?_update_seq at1 fun _ => #[]⟩
  obtain ⟨g3, eg3⟩ : ∃ g3, g3 = (g2.push (seqObj "tuple" vs.toArray 0)).push (seqObj "list" #[] 0) := ⟨_, rfl⟩
  have at3 : g3.get? D = some (seqObj "list" #[] e1) := eg3 ▸ Heap.get?_push_of_some _ (Heap.get?_push_of_some _ at2)
  have kp3 : ∀ b o, s.heap.get? b = some o → g3.get? b = some o := fun b o q => eg3 ▸ Heap.get?_push_of_some _ (Heap.get?_push_of_some _ ((sb2.2 b (apart b o q)).trans (kp1 b o q)))
  rw [list_sort_plain]
  refine wpAny_bind (listItems_at at1 rfl (wpAny_bind (listUpdate_at at1 rfl ?_ (by rw [List.size_toArray]; exact fits) (Nat.zero_le _))))
  rw [← eg2]
  refine wpAny_bind (seqEpoch_at at2 rfl (wpAny_bind (wpAny_newTuple (wpAny_bind (wpAny_newList (wpAny_holding ?_) (Nat.zero_le _))) fits)))
  show wpAny (model prog w) A.in1.in1 _ _ _ { s with heap := (g2.push (seqObj "tuple" vs.toArray 0)).push (seqObj "list" #[] 0) }
  rw [← eg3]
  dsimp only
  by_cases two : vs.toArray.size < 2
  · have two' : vs.length < 2 := by rw [List.size_toArray] at two; exact two
    rw [if_pos two, if_pos two]
    refine wpAny_bind (wpAny_pure ?_)
    show wpAny _ _ (do let r ← (pure ((), SortSt.mk' general' (vs.toArray.zip vs.toArray) #[] 7 none) : Sem (Unit × SortSt)); _) _ _ _
    refine wpAny_bind (wpAny_pure ?_)
    dsimp only
    have em : (vs.toArray.zip vs.toArray).map (·.2) = vs.toArray := by
      apply Array.toList_inj.mp
      simp only [Array.toList_map, Array.toList_zip]
      exact List.map_snd_zip (Nat.le_refl _)
    rw [em]
    refine wpAny_bind (seqEpoch_at at3 rfl (wpAny_bind (listUpdate_at at3 rfl ?_ (Nat.zero_le _) (by rw [List.size_toArray]; omega))))
    simp only [bne_self_eq_false, Bool.false_eq_true, if_false]
    have sb4 := Heap.SameBut.update g3 D (Obj.mapSeq fun _ => vs.toArray)
    exact wpAny_pure ⟨_, rfl, wpAny_pure ⟨_, rfl, fin vs (small two') _ _ (fun b o z => (sb4.2 b (apart b o z)).trans (kp3 b o z)) (get?_update_seq at3 _)⟩⟩
  · have two' : 2 ≤ vs.length := by rw [List.size_toArray] at two; omega
    rw [if_neg two, if_neg two]
    refine wpAny_bind (wpAny_mono (big two' g3 kp3) (fun κ s1 ⟨es1, run⟩ => ?_) fun _ _ x => x.elim)
    subst es1
    refine wpAny_bind (wpAny_mono run ?_ fun _ _ x => x.elim)
    rintro ⟨⟨⟩, st⟩ s2 ⟨es2, efl, out, eout, hR⟩
    subst es2
    dsimp only at efl eout ⊢
    rw [eout]
    refine wpAny_bind (seqEpoch_at at3 rfl (wpAny_bind (listUpdate_at at3 rfl ?_ (Nat.zero_le _) (by rw [List.size_toArray, len out hR]; omega))))
    rw [efl]
    simp only [bne_self_eq_false, Bool.false_eq_true, if_false]
    have sb4 := Heap.SameBut.update g3 D (Obj.mapSeq fun _ => out.toArray)
    exact wpAny_pure ⟨_, rfl, wpAny_pure ⟨_, rfl, fin out hR _ _ (fun b o z => (sb4.2 b (apart b o z)).trans (kp3 b o z)) (get?_update_seq at3 _)⟩⟩
theorem kinds_rows {g : Heap} {ads : List Addr} {row : Addr → List Int} : ∀ {l : List Addr}, (∀ a ∈ l, ∃ (us : List Value) (o : Obj) (n : Nat), g.get? a = some o ∧ o.cls = .type "tuple" ∧ o.data = .seq us.toArray n ∧ Vals ((row a).map V.int) us ∧ row a ≠ []) → ∃ fs, KatTups g (l.map Value.ref) fs ∧ fs.length = l.length ∧ ∀ v ∈ fs, ∃ i t, v = .int i t
  | [], _ => ⟨[], .nil, rfl, fun _ h => absurd h (by simp)⟩
  | a :: l, h => by
    obtain ⟨us, o, n, h1, h2, h3, h4, h5⟩ := h a (.head _)
    obtain ⟨fs, k, hl, hi⟩ := kinds_rows (ads := ads) (row := row) (l := l) fun b hb => h b (.tail _ hb)
    cases er : row a with
    | nil => exact absurd er h5
    | cons i r =>
      rw [er] at h4
      cases h4 with
      | cons r1 t1 =>
        obtain ⟨t, rfl⟩ := r1
        refine ⟨_, .cons h1 h2 h3 (f := .int i t) (by simp) k, by rw [List.length_cons, List.length_cons, hl], fun v hv => ?_⟩
        rcases List.mem_cons.mp hv with z | z
        · exact ⟨i, t, z⟩
        · exact hi v z
theorem kind_wp {l : List Addr} {row : Addr → List Int} {Q : SortKind → Shared → Prop} (obj : ∀ a ∈ l, ∃ (us : List Value) (o : Obj) (n : Nat), s.heap.get? a = some o ∧ o.cls = .type "tuple" ∧ o.data = .seq us.toArray n ∧ Vals ((row a).map V.int) us ∧ row a ≠ []) (hl : 0 < l.length) (h : Q (tuples' true) s) :
    wpAny (model prog w) A (keyKind' (l.map Value.ref).toArray) Q E s := by
  obtain ⟨fs, kt, fl, fi⟩ := kinds_rows (ads := l) (row := row) obj
  refine PySem.W.kat_kind (T := .type "int") kt (by rw [fl]; exact hl) (fun v hv => ?_) (by decide) h
  obtain ⟨i, t, rfl⟩ := fi v hv
  exact .now
theorem ltall_rows {l : List Addr} {row : Addr → List Int} (obj : ∀ a ∈ l, ∃ (us : List Value) (o : Obj) (n : Nat), s.heap.get? a = some o ∧ o.cls = .type "tuple" ∧ o.data = .seq us.toArray n ∧ Vals ((row a).map V.int) us ∧ row a ≠ []) :
    Srt.LtAll prog w A E s (kRow l row) (tuples' true) := fun st hk x y a b Q' ka kb hQ => by
  obtain ⟨x1, x2⟩ := x
  obtain ⟨y1, y2⟩ := y
  cases x1 with
  | ref xa =>
    cases y1 with
    | ref ya =>
      have ka : (if l.contains xa = true then some (row xa) else none) = some a := ka
      have kb : (if l.contains ya = true then some (row ya) else none) = some b := kb
      by_cases c1 : l.contains xa = true
      · rw [if_pos c1] at ka
        by_cases c2 : l.contains ya = true
        · rw [if_pos c2] at kb
          cases ka
          cases kb
          obtain ⟨us1, o1, n1, g1, _, d1, r1, _⟩ := obj xa (by simpa using c1)
          obtain ⟨us2, o2, n2, g2, _, d2, r2, _⟩ := obj ya (by simpa using c2)
          rw [lt'_eq]
          refine wpS_bind (wpS_get ?_)
          rw [hk]
          refine wpS_bind (wpS_lift (wpAny_attempt (lt_rows g1 d1 g2 d2 r1 r2 ⟨rfl, ?_⟩)))
          exact wpS_pure hQ
        · rw [if_neg c2] at kb
          cases kb
      · rw [if_neg c1] at ka
        cases ka
    | _ => cases kb
  | _ => cases ka
theorem zip_refs (l : List Addr) : ((l.map Value.ref).toArray.zip (l.map Value.ref).toArray).toList = l.map fun a => (Value.ref a, Value.ref a) := by
  rw [Array.toList_zip]
  show (l.map Value.ref).zip (l.map Value.ref) = _
  rw [List.zip_map']
theorem keys_refs (l : List Addr) (row : Addr → List Int) : KeysOf (kRow l row) ((l.map Value.ref).toArray.zip (l.map Value.ref).toArray) := fun z hz' => by
  rw [zip_refs] at hz'
  obtain ⟨a, ha, rfl⟩ := List.mem_map.mp hz'
  refine ⟨row a, ?_⟩
  show (if l.contains a = true then some (row a) else none) = some (row a)
  rw [if_pos (by simpa using ha)]
def adOf (p : Keyed) : Addr := match p.1 with
  | .ref a => a
  | _ => 0
theorem key_refs {l : List Addr} {row : Addr → List Int} {a : Addr} (h : a ∈ l) : Srt.key (kRow l row) (Value.ref a, Value.ref a) = row a := by
  show (if l.contains a = true then some (row a) else none).getD [] = row a
  rw [if_pos (by simpa using h)]
  rfl
theorem runs_rows {l : List Addr} {row : Addr → List Int} (obj : ∀ a ∈ l, ∃ (us : List Value) (o : Obj) (n : Nat), s.heap.get? a = some o ∧ o.cls = .type "tuple" ∧ o.data = .seq us.toArray n ∧ Vals ((row a).map V.int) us ∧ row a ≠ []) {Q : Unit → SortSt → Prop}
    (h : ∀ st (l' : List Addr), failedOf st = none → (arrOf st).map (·.2) = List.toArray (l'.map Value.ref) → l'.Perm l → l'.Pairwise (fun a b => HT.lexLt (row b) (row a) = false) → Q () st) :
    wpS (model prog w) A E s sortRuns' Q (SortSt.mk' (tuples' true) ((l.map Value.ref).toArray.zip (l.map Value.ref).toArray) #[] 7 none) := by
  refine Srt.runs_wp (κ := kRow l row) (ks := tuples' true) (ltall_rows obj) (keys_refs l row) ⟨rfl, rfl, .refl _⟩ rfl fun st' B sg => ?_
  have pmL := Array.perm_iff_toList_perm.mp B.pm
  rw [zip_refs] at pmL
  have e : (arrOf st').toList = ((arrOf st').toList.map adOf).map (fun a => (Value.ref a, Value.ref a)) := by
    rw [List.map_map]
    conv => lhs; rw [← List.map_id (arrOf st').toList]
    refine List.map_congr_left fun z hz' => ?_
    obtain ⟨a, ha, rfl⟩ := List.mem_map.mp (pmL.mem_iff.mp hz')
    rfl
  have pm : ((arrOf st').toList.map adOf).Perm l := by
    have := pmL.map adOf
    rw [List.map_map] at this
    rw [show (adOf ∘ fun a => (Value.ref a, Value.ref a)) = id from rfl, List.map_id] at this
    exact this
  generalize (arrOf st').toList.map adOf = l' at e pm
  refine h st' l' B.ok ?_ pm ?_
  · apply Array.toList_inj.mp
    rw [Array.toList_map, e, List.map_map]
    rfl
  · have ka := Srt.keys_perm (keys_refs l row) B.pm
    have := Srt.pw_of_seg ka (by rw [B.size]; exact Nat.le_refl _) sg
    rw [List.drop_zero, ← B.size, ← Array.length_toList, List.take_length, e, List.pairwise_map] at this
    refine this.imp_of_mem fun {a b} ha hb hle => ?_
    unfold Srt.leK at hle
    rw [key_refs (pm.mem_iff.mp ha), key_refs (pm.mem_iff.mp hb)] at hle
    exact hle
end
section
variable {X : Cx}
theorem vals_refs : ∀ {l : List Addr} {us : List Value}, Vals (l.map V.ref) us → us = l.map Value.ref
  | [], _, .nil => rfl
  | a :: l, _, .cons r t => by
    rw [vals_refs t, show _ = Value.ref a from r]
    rfl
theorem vals_of : ∀ (l : List Addr), Vals (l.map V.ref) (l.map Value.ref)
  | [] => .nil
  | _ :: l => .cons rfl (vals_of l)
theorem pw_small {α : Type} {R : α → α → Prop} : ∀ {l : List α}, l.length < 2 → l.Pairwise R
  | [], _ => .nil
  | [_], _ => List.pairwise_singleton _ _
  | _ :: _ :: _, h => absurd h (by simp)
/-- sorted of a list of tuples of ints: the same tuples, in order -/
theorem call_sortedT : CallR X (.builtin "sorted") (fun xs H Q => ∃ (p : Addr) (l : List Addr) (row : Addr → List Int), xs = [.ref p] ∧ SqL X.K H p (l.map V.ref) ∧ (∀ a ∈ l, SqT X.K H a ((row a).map V.int) ∧ row a ≠ []) ∧
    ∀ (q : Addr) (l' : List Addr), H q = none → l'.Perm l → l'.Pairwise (fun a b => HT.lexLt (row b) (row a) = false) → Q (.ref q) (upd H q (.lst (l'.map V.ref)))) := by
  intro pins s σ H xs us Q I r h
  obtain ⟨p, l, row, rfl, hp, hrow, q⟩ := h
  obtain ⟨u, rfl, ru⟩ := vals1 r
  cases ru
  obtain ⟨its, rv, pl, hz⟩ := I.list hp
  have ei := vals_refs rv
  subst ei
  have hlen : (l.map Value.ref).length ≤ sizeLine := by
    rw [List.length_map] at hz ⊢
    exact hz
  have obj : ∀ a ∈ l, ∃ (us : List Value) (o : Obj) (n : Nat), s.heap.get? a = some o ∧ o.cls = .type "tuple" ∧ o.data = .seq us.toArray n ∧ Vals ((row a).map V.int) us ∧ row a ≠ [] := fun a ha => by
    obtain ⟨ht, hne⟩ := hrow a ha
    obtain ⟨as, ra, pa, _⟩ := I.tuple ht
    obtain ⟨oa, ga, ca, na, da⟩ := pa
    exact ⟨as, oa, na, ga, ca, da, ra, hne⟩
  refine srt_all (R := fun out => ∃ l' : List Addr, out = l'.map Value.ref ∧ l'.Perm l ∧ l'.Pairwise fun a b => HT.lexLt (row b) (row a) = false) pl.isList hlen (fun hs => ⟨l, rfl, .refl _, ?_⟩) (fun hb g kp => ?_) (fun out ⟨l', e, pm, _⟩ => by rw [e, List.length_map, List.length_map, pm.length_eq]) fun out ⟨l', e, pm, pw⟩ h2 c kp2 at2 => ?_
  · rw [List.length_map] at hs
    exact pw_small hs
  · have obj' : ∀ a ∈ l, ∃ (us : List Value) (o : Obj) (n : Nat), g.get? a = some o ∧ o.cls = .type "tuple" ∧ o.data = .seq us.toArray n ∧ Vals ((row a).map V.int) us ∧ row a ≠ [] := fun a ha => by
      obtain ⟨us, o, n, h1, h2⟩ := obj a ha
      exact ⟨us, o, n, kp _ _ h1, h2⟩
    refine kind_wp (s := { s with heap := g }) obj' (by rw [List.length_map] at hb; omega) ?_
    refine ⟨rfl, runs_rows (s := { s with heap := g }) obj' fun st l' e1 e2 e3 e4 => ⟨e1, l'.map Value.ref, e2, l', rfl, e3, e4⟩⟩
  · subst e
    exact ⟨.ref (s.heap.objs.size + 1), _, I.laid (t' := s.toks) kp2 (Nat.le_succ _) (show ObjOk X.prog X.w _ h2 _ (.lst (l'.map V.ref)) from ⟨by rw [List.length_map, pm.length_eq]; rw [List.length_map] at hz; exact hz, _, c, vals_of l', at2⟩), rfl, q _ l' (I.hok.fresh (Nat.le_succ _)) pm pw⟩
end
end L2

set_option Elab.async false
set_option linter.all false
set_option maxRecDepth 100000
/-! max of a list, l.index(k). -/
namespace L2
open PySem PySem.Spec PyProof.Rows PySem.Calls
section
variable {X : Cx}
end
end L2

set_option Elab.async false
set_option linter.all false
set_option maxRecDepth 100000
/-! a text walked; dict of a list of pairs; is not True; t != (). -/
namespace L2
open PySem PySem.Spec PyProof.Rows PySem.Calls
theorem keys_none : typeLookup (.type "list") "keys" = pure none := by rw [typeLookup_type, builtinLookup_eq_fast]; kernel_rfl
theorem keys_miss {prog : Program} {w : World} {A : Around} {E : Value → Shared → Prop} {s : Shared} {a : Addr} {xs : Array Value} {k : Nat} {Q : Option Value → Shared → Prop}
    (hx : s.heap.get? a = some { cls := .type "list", data := .seq xs k }) (hA : A.handled = none)
    (h : ∀ h' tk, (∀ b o, s.heap.get? b = some o → h'.get? b = some o) → Q none { s with heap := h', toks := tk }) :
    wpAny (model prog w) A (getAttr? (.ref a) "keys") Q E s := by
  obtain ⟨hp, g, d, tk, os⟩ := s
  have hT : ∀ tk', (⟨hp, g, d, tk', os⟩ : Shared).TypeIs (.ref a) "list" := fun _ => ⟨_, hx, rfl⟩
  have f1 := sub_AttributeError
  have f3 := F.slot_list_getattribute.lookup
  have f4 := F.slot_list_getattribute.bind (.ref a)
  have f5 := am_list_getattr_none
  unfold getAttr? getAttrBy? getAttrBy
  repeat (any_goals (first | assumption | exact hT _ | ((with_reducible show wpAny _ _ (call (Value.builtin "list.__getattribute__") _ _) _ _ _); refine call_meets F.slot_list_getattribute (hT _) am_entry_list_getattribute (F.args_list_getattribute_2 _ _) (meets_getattribute_miss_list a xs k #[] "keys" _ keys_none (by decide +kernel) (by size_fits)) ⟨hx, hA, fun h' tk' e hx' => ?_⟩) | wp_step))
  obtain ⟨t', u', he⟩ := hx'.there
  show wpAny _ _ (getattributeRaised _ _ _ _ _ _ _) _ _ _
  unfold getattributeRaised
  repeat (any_goals (first | assumption | wp_step))
  exact h _ _ hx'.keeps
theorem entry_dul : entryFor table "dict.update.loop" = some Builtin.«dict.update.loop» := entryFor_of_tree (by kernel_rfl)
theorem plain_dul : plainId "dict.update.loop" = true := by decide +kernel
theorem quiet_dul (args : Args) : (Code.builtin "dict.update.loop" args).quiet = true := Code.quiet_builtin _ (by decide +kernel)
theorem dict_loop {prog : Program} {w : World} {A : Around} {R : Result → Shared → Prop} {K : Type} [DecidableEq K] {knd : PySem.KeyKind prog w K} {d it l : Addr} {its : List Value} {more : List (K × Value)} (hh : A.in1.handled = none) (hdi : d ≠ it) (hli : l ≠ it) (hld : l ≠ d) (hml : more.length = its.length) :
    ∀ (rest i : Nat) (s : Shared) (kvs : List (K × Value)) (tk : Tok), its.length - i = rest → i ≤ its.length → s.heap.IsListIter it l i → s.heap.IsList l its.toArray → s.heap.DictOf knd d kvs → kvs.length + rest ≤ sizeLine →
      (∀ j, i ≤ j → j < its.length → ∃ a c key k v, its[j]? = some (.ref a) ∧ a ≠ d ∧ a ≠ it ∧ (∃ o, s.heap.get? a = some o ∧ o.cls = .type "tuple" ∧ o.data = .seq #[key, v] c) ∧ more[j]? = some (k, v) ∧ knd.is k key = true) →
      (∀ h' tk', h'.DictOf knd d ((more.drop i).foldl (fun a kv => stored a kv.1 kv.2) kvs) → (∀ b o, b ≠ d → b ≠ it → s.heap.get? b = some o → h'.get? b = some o) → R (.ok (.ret .none)) { s with heap := h', toks := tk' }) →
      codeAny (model prog w) A (.builtin "dict.update.loop" ⟨[.ref d, .ref it, .int i tk, .none], []⟩) R s := by
  intro rest
  induction rest with
  | zero =>
    intro i s kvs tk hr hi st ls dd hz rows fin
    have hin : i = its.length := by omega
    refine codeAny_builtin entry_dul ?_
    rw [Around.under_plainId plain_dul _]
    show wpAny _ A.in1 (pyNext (.ref it) >>= _) _ _ s
    refine wpAny_bind (wpAny_pyNext_list_end hh st ls (by simp [hin]) fun h' eb => ?_)
    show wpAny _ A.in1 (Builtin.Dict.addKeywords d [] >>= fun _ => ret Value.none) _ _ _
    refine wpAny_bind (wpAny_pure (wpAny_pure ?_))
    refine fin h' s.toks ?_ fun b o hb hb2 e => eb b o hb2 e
    rw [List.drop_of_length_le (by omega)]
    exact dd.extBut eb hdi
  | succ rest ih =>
    intro i s kvs tk hr hi st ls dd hz rows fin
    obtain ⟨a, c, key, k, v, hx, had, hai, ⟨o, ho, hc, hdt⟩, hm, hk⟩ := rows i (Nat.le_refl _) (by omega)
    refine codeAny_builtin entry_dul ?_
    rw [Around.under_plainId plain_dul _]
    show wpAny _ A.in1 (pyNext (.ref it) >>= _) _ _ s
    refine wpAny_bind (wpAny_pyNext_list_item st ls (x := .ref a) (by simpa using hx) fun h' st' sb => ?_)
    have ho' : h'.get? a = some o := (sb.2 a hai).trans ho
    dsimp only
    refine wpAny_bind (wpAny_holding ?_)
    refine wpAny_bind (wpAny_tryCatch ?_)
    unfold Builtin.Dict.pairItems
    refine wpAny_bind (wpAny_typeOf (s := { s with heap := h' }) (T := "tuple") ⟨_, ho', hc⟩ ?_)
    rw [if_pos (by decide)]
    refine wpAny_bind (wpAny_seqItems (s := { s with heap := h' }) ho' hdt (wpAny_pure ?_))
    show wpAny _ _ (holding [key, v] (dictSet d key v)) _ _ _
    refine wpAny_holding (wpAny_dictSet_pairs (s := { s with heap := h' }) (kvs := kvs) hk (dd.sameBut sb hdi) (fun h2 dd2 sb2 => ?_) (by omega))
    refine wpAny_pure ⟨quiet_dul _, ?_⟩
    have e1 : more.drop i = (k, v) :: more.drop (i + 1) := by
      have hlt : i < more.length := (List.getElem?_eq_some_iff.mp hm).1
      rw [List.drop_eq_getElem_cons hlt, (List.getElem?_eq_some_iff.mp hm).2]
    have kp : ∀ b o, b ≠ d → b ≠ it → s.heap.get? b = some o → h2.get? b = some o := fun b o h1 h3 e => (sb2.2 b h1).trans ((sb.2 b h3).trans e)
    have ec : ((i : Int) + 1) = ((i + 1 : Nat) : Int) := by omega
    show codeAny _ A (.builtin "dict.update.loop" ⟨[.ref d, .ref it, .int ((i : Int) + 1) 0, .none], []⟩) R _
    rw [ec]
    have lst := (stored_length_le kvs k v)
    refine ih (i + 1) { s with heap := h2, toks := s.toks + 1 } (stored kvs k v) 0 (by omega) (by omega) (st'.at fun o e => (sb2.2 it hdi.symm).trans e) (let ⟨o, e, r⟩ := ls; ⟨o, kp l o hld hli e, r⟩) dd2 (by omega) (fun j hj hjl => ?_) (fun h3 tk3 dd3 kp3 => ?_)
    · obtain ⟨a, c, key, k, v, hx, had, hai, ⟨o, ho, hc, hdt⟩, hm, hk⟩ := rows j (by omega) hjl
      exact ⟨a, c, key, k, v, hx, had, hai, ⟨o, kp a o had hai ho, hc, hdt⟩, hm, hk⟩
    · refine fin h3 tk3 ?_ fun b o h1 h4 e => kp3 b o h1 h4 (kp b o h1 h4 e)
      rw [e1]
      exact dd3
theorem call_dict_list {prog : Program} {w : World} {A : Around} {E : Value → Shared → Prop} {s : Shared} {K : Type} [DecidableEq K] {knd : PySem.KeyKind prog w K} {l : Addr} {its : List Value} {c : Nat} {more : List (K × Value)} {Q : Value → Shared → Prop} (hA : A.handled = none) (ho : s.heap.get? l = some { cls := .type "list", data := .seq its.toArray c }) (hml : more.length = its.length) (hz : its.length ≤ sizeLine)
    (rows : ∀ j, j < its.length → ∃ a c key k v, its[j]? = some (.ref a) ∧ (∃ o, s.heap.get? a = some o ∧ o.cls = .type "tuple" ∧ o.data = .seq #[key, v] c) ∧ more[j]? = some (k, v) ∧ knd.is k key = true)
    (h : ∀ h' tk, h'.DictOf knd s.heap.objs.size (more.foldl (fun a kv => stored a kv.1 kv.2) []) → (∀ b o, s.heap.get? b = some o → h'.get? b = some o) → Q (.ref s.heap.objs.size) { s with heap := h', toks := tk }) :
    wpAny (model prog w) A (call (.type "dict") [.ref l]) Q E s := by
  refine callType_codes (Q₁ := fun obj s₁ => obj = .ref s.heap.objs.size ∧ s₁ = { s with heap := s.heap.push { cls := .type "dict", data := .dict #[] } }) F.kt_called_dict (F.kt_typeCall_dict_1 _) F.entry_dict_init (kt_code_dict_new _ ⟨rfl, rfl⟩) ?_
  rintro obj s₁ ⟨rfl, rfl⟩
  have hnew : (s.heap.push { cls := .type "dict", data := .dict #[] }).DictOf knd s.heap.objs.size [] := Heap.DictOf.new s.heap
  obtain ⟨g1, eg1⟩ : ∃ g1, g1 = s.heap.push { cls := .type "dict", data := .dict #[] } := ⟨_, rfl⟩
  have hs1 : g1.objs.size = s.heap.objs.size + 1 := by rw [eg1]; exact Heap.size_push ..
  have kp1 : ∀ b o, s.heap.get? b = some o → g1.get? b = some o := fun b o e => by rw [eg1]; exact Heap.get?_push_of_some _ e
  rw [← eg1] at hnew ⊢
  refine ⟨hnew.typeIs, F.args_dict_init_2 _ _, ?_⟩
  unfold Builtin.«dict.__init__»
  refine wpAny_bind ?_
  unfold Builtin.Dict.selfAndRest
  refine wpAny_bind (wpAny_notOrdered_dict hnew.typeIs ?_)
  show wpAny _ _ (pure (s.heap.objs.size, [Value.ref l])) _ _ _
  refine wpAny_pure ?_
  show wpAny _ _ (Builtin.Dict.updateFrom "dict.__init__" s.heap.objs.size (.ref l) [] .none) _ _ _
  unfold Builtin.Dict.updateFrom
  refine wpAny_bind (wpAny_typeOf (s := { s with heap := g1 }) (T := "list") ⟨_, kp1 _ _ ho, rfl⟩ ?_)
  rw [if_pos (by decide)]
  refine wpAny_bind (keys_miss (s := { s with heap := g1 }) (kp1 _ _ ho) (by simp [hA]) fun h2 tk2 kp2 => ?_)
  rw [if_pos (show (none : Option Value).isNone = true from rfl)]
  refine wpAny_bind (wpAny_rule ?_)
  have kp2' : ∀ b o, s.heap.get? b = some o → h2.get? b = some o := fun b o e => kp2 b o (kp1 b o e)
  have hl2 : h2.IsList l its.toArray := ⟨_, kp2' _ _ ho, rfl, _, rfl⟩
  refine wpAny_bind (wpAny_pyIter_list (s := { s with heap := h2, toks := tk2 }) hl2 ?_)
  have dd2 : h2.DictOf knd s.heap.objs.size [] := by
    obtain ⟨o, es, ep, e, r⟩ := hnew
    exact ⟨o, es, ep, kp2 _ _ e, r⟩
  have lt1 : s.heap.objs.size < h2.objs.size := by
    obtain ⟨o, es, ep, e, r⟩ := dd2
    exact Heap.lt_size e
  have ltl : l < s.heap.objs.size := Heap.lt_size ho
  refine wpAny_pure ⟨quiet_dul _, ?_⟩
  obtain ⟨h3, eh3⟩ : ∃ h3, h3 = h2.push { cls := .type "list_iterator", data := .fields #[.ref l, .int 0 0] } := ⟨_, rfl⟩
  have kp3 : ∀ b o, h2.get? b = some o → h3.get? b = some o := fun b o e => by rw [eh3]; exact Heap.get?_push_of_some _ e
  have st3 : h3.IsListIter h2.objs.size l 0 := by rw [eh3]; exact ⟨_, Heap.get?_push_size _ rfl, rfl, rfl⟩
  show codeAny _ _ (.builtin "dict.update.loop" ⟨[.ref s.heap.objs.size, .ref h2.objs.size, .int ((0 : Nat) : Int) 0, .none], []⟩) _ { s with heap := h2.push { cls := .type "list_iterator", data := .fields #[.ref l, .int 0 0] }, toks := tk2 }
  rw [← eh3]
  refine dict_loop (knd := knd) (its := its) (more := more) (by simp [hA]) (Nat.ne_of_lt lt1) (Nat.ne_of_lt (Nat.lt_trans ltl lt1)) (Nat.ne_of_lt ltl) hml its.length 0 { s with heap := h3, toks := tk2 } [] 0 (by omega) (Nat.zero_le _) st3 (let ⟨o, e, r⟩ := hl2; ⟨o, kp3 l o e, r⟩) (let ⟨o, es, ep, e, r⟩ := dd2; ⟨o, es, ep, kp3 _ _ e, r⟩) (by simpa using hz) (fun j _ hj => ?_) fun h' tk' dd' kp' => ?_
  · obtain ⟨a, c, key, k, v, hx, ⟨o, ho, hc, hdt⟩, hm, hk⟩ := rows j hj
    have lta : a < s.heap.objs.size := Heap.lt_size ho
    exact ⟨a, c, key, k, v, hx, Nat.ne_of_lt lta, Nat.ne_of_lt (Nat.lt_trans lta lt1), ⟨o, kp3 _ _ (kp2' _ _ ho), hc, hdt⟩, hm, hk⟩
  · exact ⟨rfl, h h' tk' dd' fun b o e => kp' b o (Nat.ne_of_lt (Heap.lt_size e)) (Nat.ne_of_lt (Nat.lt_trans (Heap.lt_size e) lt1)) (kp3 _ _ (kp2' _ _ e))⟩
theorem KV.fold : ∀ {more : List (Key × V)} {rs : List (Key × Value)} {kvs : List (Key × V)} {vs : List (Key × Value)}, KV more rs → KV kvs vs → KV (mergeK kvs more) (rs.foldl (fun a kv => stored a kv.1 kv.2) vs) := by
  intro more rs kvs vs r
  unfold KV at r
  induction r generalizing kvs vs with
  | nil => intro q; exact q
  | @cons p q ps qs h t ih =>
    intro r0
    have e : KV (putK kvs p.1 p.2) (stored vs q.1 q.2) := by
      have := r0.put p.1 h.2
      rw [← h.1]; exact this
    exact ih e
section
variable {X : Cx}
theorem rows_of {pins : List (Addr × Obj)} {σ : St} {H : Hp} {s : Shared} (I : Inv X pins σ H s) : ∀ (kvs : List (Key × V)) (l : List Addr), (∀ (j : Nat) (kv : Key × V), kvs[j]? = some kv → ∃ a, l[j]? = some a ∧ H a = some (.tup [kV kv.1, kv.2])) →
    ∃ rs : List (Key × Value), KV kvs rs ∧ rs.length = kvs.length ∧ ∀ (j : Nat) (k : Key) (v : Value), rs[j]? = some (k, v) → ∃ a c key, l[j]? = some a ∧ (∃ o, s.heap.get? a = some o ∧ o.cls = .type "tuple" ∧ o.data = .seq #[key, v] c) ∧ (mixKind X.prog X.w).is k key = true
  | [], l, _ => ⟨[], .nil, rfl, fun j k v h => by simp at h⟩
  | (k, v) :: kvs, l, h => by
    obtain ⟨a, h1, h2⟩ := h 0 (k, v) rfl
    obtain ⟨_, its, rv, o, ho, hc, c, hd⟩ := (show ObjOk X.prog X.w H s.heap a (.tup [kV k, v]) from I.hok a _ h2)
    obtain ⟨u1, u2, rfl, r1, r2⟩ := vals2 rv
    obtain ⟨b, l, rfl⟩ : ∃ b l', l = b :: l' := by
      cases l with
      | nil => simp at h1
      | cons b l => exact ⟨b, l, rfl⟩
    have e : b = a := by simpa using h1
    subst e
    obtain ⟨rs, hk, hl, hr⟩ := rows_of I kvs l fun j kv hj => h (j + 1) kv (by simpa using hj)
    refine ⟨(k, u2) :: rs, .cons ⟨rfl, r2⟩ hk, by simp [hl], fun j k' v' hj => ?_⟩
    cases j with
    | zero =>
      have e : (k, u2) = (k', v') := by simpa using hj
      cases e
      exact ⟨b, c, u1, rfl, ⟨o, ho, hc, hd⟩, kV_is r1⟩
    | succ j =>
      obtain ⟨a, c, key, z1, z2, z3⟩ := hr j k' v' (by simpa using hj)
      exact ⟨a, c, key, by simpa using z1, z2, z3⟩
/-- dict of a list of pairs -/
theorem call_dict_rows (hc : X.calm = true) : CallR X (.type "dict") (fun xs H Q => ∃ (p : Addr) (l : List Addr) (kvs : List (Key × V)), xs = [.ref p] ∧ H p = some (.lst (l.map V.ref)) ∧ kvs.length = l.length ∧ (∀ (j : Nat) (kv : Key × V), kvs[j]? = some kv → ∃ a, l[j]? = some a ∧ H a = some (.tup [kV kv.1, kv.2])) ∧
    ∀ q, H q = none → q ≠ sysModules → Q (.ref q) (upd H q (.dK (mergeK [] kvs)))) := by
  intro pins s σ H xs us Q I r h
  obtain ⟨p, l, kvs, rfl, hp, hl, rows, q⟩ := h
  obtain ⟨u, rfl, ru⟩ := vals1 r
  cases ru
  obtain ⟨z, its, n, rv, hlen, e⟩ := I.lstM hp
  rw [List.length_map] at hlen z
  obtain ⟨rs, hkv, hrl, hrs⟩ := rows_of I kvs l rows
  refine call_dict_list (knd := mixKind X.prog X.w) (its := its) (more := rs) (I.ok.hd hc) e (by omega) (by omega) (fun j hj => ?_) fun h' tk dd kp => ?_
  · obtain ⟨⟨k, v⟩, hj2⟩ : ∃ x, rs[j]? = some x := ⟨_, List.getElem?_eq_getElem (by omega)⟩
    obtain ⟨a, c, key, z1, z2, z3⟩ := hrs j k v hj2
    obtain ⟨u, hu, ru⟩ := rv.get (x := .ref a) (i := j) (by rw [List.getElem?_map, z1]; rfl)
    cases ru
    exact ⟨a, c, key, k, v, hu, z2, hj2, z3⟩
  · have hn : H s.heap.objs.size = none := I.hok.fresh (Nat.le_refl _)
    have ns : s.heap.objs.size ≠ sysModules := Ne.symm (Nat.ne_of_lt I.big)
    refine ⟨.ref s.heap.objs.size, _, I.laid (a := s.heap.objs.size) (o := .dK (mergeK [] kvs)) (t' := tk) kp (Nat.le_refl _) (dk_new ?_ (beq_eq_false_iff_ne.mpr ns) (KV.fold hkv .nil) dd), rfl, q _ hn ns⟩
    have := length_mergeK kvs []
    rw [List.length_nil] at this
    omega
/-! ### a text walked -/
def Itq (x : Str) : It := ⟨fun i _ => i < x.cps.size, fun i H v H' => H' = H ∧ ∃ c, x.cps[i]? = some c ∧ v = .str ⟨#[c]⟩, fun i _ => x.cps.size ≤ i⟩
theorem turn_str {P : Program} {w : World} {K : PySem.W.Frag} {tg : Expr} (x : Str) (t : Tok) (it : Addr) : Turn P w K tg (Itq x) [it] it (fun i h => h.IsStrIter it "str_ascii_iterator" x t i) where
  mem := by simp
  obj := fun i h st b hb => by
    have e : b = it := by simpa using hb
    subst e
    obtain ⟨o, e, c, d⟩ := st
    exact ⟨o, e, fun v z => by rw [d] at z; cases z⟩
  keep := fun i h h' st k => let ⟨o, e, r⟩ := st; ⟨o, k it (by simp) o e, r⟩
  item := by
    intro X hP hw hK hc i pins s σ H E I hf st hg
    subst hP hw hK
    have hg : i < x.cps.size := hg
    obtain ⟨f0, f1, f2, f3, f4, f5⟩ := hf it (by simp)
    have hx : x.cps[i]? = some x.cps[i] := Array.getElem?_eq_getElem hg
    refine wpAny_pyNext_ascii_item st hx fun h' st' sb => ?_
    have I1 : Inv X pins σ H { s with heap := h', toks := s.toks + 1 } := I.turned (t' := s.toks + 1) (fun b o hb e => (sb.2 b hb).trans e) f0 f1 f3 f4 f5
    obtain ⟨o, e, c, d⟩ := id st'
    exact ⟨_, rfl, go_of (s := { s with heap := h', toks := s.toks + 1 }) e c d (by decide) ⟨.str ⟨#[x.cps[i]]⟩, H, I1, ⟨_, rfl⟩, ⟨rfl, _, hx, rfl⟩, st', fun b hb => (hf b hb).1⟩⟩
  done := by
    intro X hP hw hK hc i pins s σ H E I hf st hg
    subst hP hw hK
    have hg : x.cps.size ≤ i := hg
    obtain ⟨f0, f1, f2, f3, f4, f5⟩ := hf it (by simp)
    exact wpAny_pyNext_ascii_end (I.ok.hd hc) st (Array.getElem?_eq_none hg) fun h' eb => ⟨rfl, I.turned (t' := s.toks) (fun b o hb e => eb b o hb e) f0 f1 f3 f4 f5⟩
  self := fun _ _ _ _ _ st h => wpAny_pyIter_striter_ascii st h
def iStr (tl : TE) : TI := fun σ H R => tl σ H fun v H1 => ∃ x, v = .str x ∧ x.cps.all (· < 128) = true ∧ R (Itq x) H1
theorem pi_str {tg l : Expr} {tl : TE} (hl : PE X l tl) : PI X tg l (iStr tl) := by
  intro pins s σ H R I h
  refine thn (hl pins s σ H _ I h) fun v s1 ⟨x, H1, I1, r1, q1⟩ => ?_
  obtain ⟨x, e, ha, q⟩ := q1
  subst e
  obtain ⟨t, rfl⟩ := r1
  refine wpAny_pyIter_ascii ha ?_
  refine ⟨s1.heap.objs.size, [s1.heap.objs.size], _, _, H1, rfl, I1.kept (t' := s1.toks) fun b o e => Heap.get?_push_of_some _ e, turn_str x t _, ⟨_, Heap.get?_push_size _ rfl, rfl, rfl⟩, fun b hb => ?_, q⟩
  have e : b = s1.heap.objs.size := by simpa using hb
  subst e
  exact I1.fpOk (Nat.le_refl _) (I1.hok.fresh (Nat.le_refl _))
end
end L2

set_option Elab.async false
set_option linter.all false
set_option maxRecDepth 100000
/-! exceptions: one that flies, a frame left. -/
namespace L2
open PySem PySem.Spec PyProof.Rows PySem.Calls
/-- an exception of class C at e; tb: its first trace, or none -/
structure Fly (h : Heap) (e : Addr) (C tb : Value) : Prop where
  obj : ∃ oe vs, h.get? e = some oe ∧ oe.cls = C ∧ oe.data = .fields vs ∧ vs[1]? = some tb ∧ oe.dict = none
  tr : tb = .none ∨ ∃ T oT ts, tb = .ref T ∧ T ≠ e ∧ h.get? T = some oT ∧ oT.data = .fields ts ∧ ts[3]? = some .none
theorem mapF_dict (f : Array Value → Array Value) (o : Obj) : (Obj.mapFields f o).dict = o.dict := by
  unfold Obj.mapFields
  split <;> rfl
section
variable {M : Model} {A : Around} {E : Value → Shared → Prop} {s : Shared}
/-- one trace more: what is turned are the exception, its old first trace, and slots of frames -/
theorem entry_st {base : Heap} {env : Env} {outer : List Env} {L e : Addr} {oe : Obj} {vs : Array Value} {head : Value} {hadNext : Bool} {Q : Unit → Shared → Prop}
    (hfr : A.frames = some (env :: outer)) (hl : s.heap.FunFrames base (env :: outer)) (hf : env.frame = some L) (he : s.heap.get? e = some oe) (hd : oe.data = .fields vs) (hz : 1 < vs.size) (hdd : oe.dict = none)
    (h : ∀ h' T, s.heap.get? T = none → Fly h' e oe.cls (.ref T) → (∀ b o, s.heap.get? b = some o → b ≠ e → b ∉ frs (env :: outer) → h'.get? b = some o) → (∀ b o, s.heap.get? b = some o → b ≠ e → ∃ sl, h'.get? b = some { o with slots := sl }) → Q () { s with heap := h' }) :
    wpAny M A (do let a ← frameOf env; let pl ← entryPlaceOf L hadNext; let b ← EntryCells.newEntry head a .none (rawInt L) .none pl; setField (.ref e) 1 b) (fun _ s' => wpAny M A (setFlight (.ref e) none) Q E s') E s := by
  have ne : e ∉ frs (env :: outer) := fun hm => by
    obtain ⟨_, o, ho, hn⟩ := hl.mem hm
    rw [he] at ho
    cases ho
    exact hn vs hd
  refine wpAny_bind (wpAny_frameOf_fun hfr hl hf fun h1 hs1 => ?_)
  have e1 : h1.get? e = some oe := (hs1.2.1 e ne).trans he
  refine wpAny_bind (wpAny_entryPlaceOf fun pl hpl => ?_)
  unfold EntryCells.newEntry newFields
  refine wpAny_bind (wpAny_newObj_type ?_ (hpl.sizeOk5 _ _ _ _ _))
  obtain ⟨fs, efs⟩ : ∃ fs, fs = ([head, .ref L, .none, rawInt L, .none] ++ (if pl.isEmpty then List.replicate 6 Value.none else pl)).toArray := ⟨_, rfl⟩
  have fz : 3 < fs.size := by
    rw [efs, List.size_toArray, List.length_append]
    show 3 < 5 + _
    omega
  rw [← efs]
  obtain ⟨h2, eh2⟩ : ∃ h2, h2 = h1.push { cls := .type "traceback", dict := none, data := .fields fs } := ⟨_, rfl⟩
  have nT : h1.objs.size ≠ e := Nat.ne_of_gt (Heap.lt_size e1)
  have t2 : h2.get? h1.objs.size = some { cls := .type "traceback", dict := none, data := .fields fs } := by rw [eh2]; exact Heap.get?_push_size h1 rfl
  have k2 : ∀ b o, h1.get? b = some o → h2.get? b = some o := fun b o z => by rw [eh2]; exact Heap.get?_push_of_some _ z
  refine wpAny_setField (s := { s with heap := h1.push { cls := .type "traceback", dict := none, data := .fields fs } }) (by rw [← eh2]; exact k2 _ _ e1) hd hz ?_
  rw [← eh2]
  obtain ⟨h3, eh3⟩ : ∃ h3, h3 = h2.update e (Obj.mapFields (·.setIfInBounds 1 (Value.ref h1.objs.size))) := ⟨_, rfl⟩
  have d3 := Obj.data_mapFields hd (·.setIfInBounds 1 (Value.ref h1.objs.size))
  have g3 := Heap.get?_update_self (Obj.mapFields (·.setIfInBounds 1 (Value.ref h1.objs.size))) (k2 _ _ e1) (Obj.isFreed_of_fields d3)
  have o3 : ∀ b, b ≠ e → h3.get? b = h2.get? b := fun b hb => by rw [eh3]; exact Heap.get?_update_other _ _ (Ne.symm hb)
  show wpAny M A (setFlight (.ref e) none) Q E { s with heap := h2.update e (Obj.mapFields (·.setIfInBounds 1 (Value.ref h1.objs.size))) }
  rw [← eh3] at g3 ⊢
  unfold setFlight
  have v1 : (vs.setIfInBounds 1 (Value.ref h1.objs.size))[1]? = some (.ref h1.objs.size) := by simp [hz]
  refine wpAny_bind (wpAny_field (s := { s with heap := h3 }) g3 d3 v1 ?_)
  rw [if_pos (show (Value.ref h1.objs.size != Value.none) = true by simp)]
  have t3 : h3.get? h1.objs.size = some { cls := .type "traceback", dict := none, data := .fields fs } := (o3 _ nT).trans t2
  refine wpAny_setField (s := { s with heap := h3 }) t3 rfl fz ?_
  have kk : ∀ b o, b ≠ e → h1.get? b = some o → (h3.update h1.objs.size (Obj.mapFields (·.setIfInBounds 3 ((none : Option Addr).elim Value.none fun f => rawInt f)))).get? b = some o := fun b o hb z => by
    rw [Heap.get?_update_other _ _ (Nat.ne_of_gt (Heap.lt_size z)), o3 b hb]
    exact k2 b o z
  refine h _ h1.objs.size ?_ ⟨⟨_, _, ?_, Obj.cls_mapFields _ _, d3, v1, (mapF_dict _ _).trans hdd⟩, .inr ⟨h1.objs.size, _, _, rfl, nT, Heap.get?_update_self _ t3 (Obj.isFreed_of_fields (Obj.data_mapFields rfl _)), Obj.data_mapFields rfl _, by simp [fz]⟩⟩ (fun b o z hb hn => ?_) fun b o z hb => ?_
  · cases z : s.heap.get? h1.objs.size with
    | none => rfl
    | some o =>
      obtain ⟨sl, q⟩ := hs1.2.2 _ o z
      exact absurd (Heap.lt_size q) (Nat.lt_irrefl _)
  · rw [Heap.get?_update_other _ _ nT]
    exact g3
  · exact kk b o hb ((hs1.2.1 b hn).trans z)
  · obtain ⟨sl, q⟩ := hs1.2.2 b o z
    exact ⟨sl, kk b _ hb q⟩
/-- an exception is noted at a frame -/
theorem note_st {base : Heap} {env : Env} {outer : List Env} {L e : Addr} {C tb : Value} {Q : Unit → Shared → Prop}
    (hfr : A.frames = some (env :: outer)) (hl : s.heap.FunFrames base (env :: outer)) (hf : env.frame = some L) (fl : Fly s.heap e C tb)
    (h : ∀ h' T, s.heap.get? T = none → Fly h' e C (.ref T) → (∀ b o, s.heap.get? b = some o → b ≠ e → tb ≠ .ref b → b ∉ frs (env :: outer) → h'.get? b = some o) → (∀ b o, s.heap.get? b = some o → b ≠ e → tb ≠ .ref b → ∃ sl, h'.get? b = some { o with slots := sl }) → (∀ b o, s.heap.get? b = some o → ∃ o', h'.get? b = some o') → Q () { s with heap := h' }) :
    wpAny M A (noteFrame (.ref e) env) (fun _ s' => wpAny M A (setFlight (.ref e) none) Q E s') E s := by
  obtain ⟨⟨oe, vs, he, rfl, hd, h1, hdd⟩, tr⟩ := fl
  have hz := (Array.getElem?_eq_some_iff.mp h1).1
  unfold noteFrame
  simp only [hf]
  refine wpAny_bind (wpAny_field he hd h1 ?_)
  rcases tr with rfl | ⟨T0, oT, ts, rfl, nT, hT, hdT, h3⟩
  · rw [if_neg (by decide)]
    refine entry_st hfr hl hf he hd hz hdd fun h' T nT fl' k1 k2 => h h' T nT fl' (fun b o z hb _ hn => k1 b o z hb hn) (fun b o z hb _ => k2 b o z hb) fun b o z => ?_
    by_cases hb : b = e
    · obtain ⟨oe', _, q, _⟩ := fl'.obj
      exact ⟨oe', hb ▸ q⟩
    · obtain ⟨sl, q⟩ := k2 b o z hb
      exact ⟨_, q⟩
  · rw [if_pos (show (Value.ref T0 != Value.none) = true by simp)]
    refine wpAny_bind (wpAny_field hT hdT h3 ?_)
    rw [if_neg (show ¬ ((Value.none == rawInt L) = true) by simp [rawInt])]
    refine wpAny_bind (wpAny_setField hT hdT (Array.getElem?_eq_some_iff.mp h3).1 ?_)
    obtain ⟨g, eg⟩ : ∃ g, g = s.heap.update T0 (Obj.mapFields (·.setIfInBounds 3 Value.none)) := ⟨_, rfl⟩
    have og : ∀ b, b ≠ T0 → g.get? b = s.heap.get? b := fun b hb => by rw [eg]; exact Heap.get?_update_other _ _ (Ne.symm hb)
    have tg : ∃ o, g.get? T0 = some o := ⟨_, by rw [eg]; exact Heap.get?_update_self _ hT (Obj.isFreed_of_fields (Obj.data_mapFields hdT _))⟩
    have hl2 : g.FunFrames base (env :: outer) := hl.of_keeps fun b o z hn => ⟨o, (og b fun q => by rw [q, hT] at z; cases z; exact hn ts hdT).trans z, rfl⟩
    show wpAny M A _ _ E { s with heap := s.heap.update T0 (Obj.mapFields (·.setIfInBounds 3 Value.none)) }
    rw [← eg]
    refine entry_st (s := { s with heap := g }) hfr hl2 hf ((og e (Ne.symm nT)).trans he) hd hz hdd fun h' T nT' fl' k1 k2 => h h' T ?_ fl' (fun b o z hb ht hn => k1 b o ((og b fun q => ht (by rw [q])).trans z) hb hn) (fun b o z hb ht => k2 b o ((og b fun q => ht (by rw [q])).trans z) hb) fun b o z => ?_
    · have nT' : g.get? T = none := nT'
      by_cases q : T = T0
      · obtain ⟨o, e⟩ := tg
        rw [q, e] at nT'
        cases nT'
      · rw [← og T q]
        exact nT'
    · by_cases hb : b = e
      · obtain ⟨oe', _, q, _⟩ := fl'.obj
        exact ⟨oe', hb ▸ q⟩
      · obtain ⟨o2, e2⟩ : ∃ o2, g.get? b = some o2 := by
          by_cases q : b = T0
          · rw [q]; exact tg
          · exact ⟨o, (og b q).trans z⟩
        obtain ⟨sl, q⟩ := k2 b o2 e2 hb
        exact ⟨_, q⟩
/-- a frame is left by an exception -/
theorem leave_st {base : Heap} {env : Env} {outer : List Env} {L e : Addr} {C tb : Value} {Q : Unit → Shared → Prop}
    (hfr : A.frames = some (env :: outer)) (hl : s.heap.FunFrames base (env :: outer)) (hf : env.frame = some L) (fl : Fly s.heap e C tb)
    (h : ∀ h' T, s.heap.get? T = none → Fly h' e C (.ref T) → (∀ b o, s.heap.get? b = some o → b ≠ e → tb ≠ .ref b → b ∉ frs (env :: outer) → h'.get? b = some o) → (∀ b o, s.heap.get? b = some o → b ≠ e → tb ≠ .ref b → ∃ sl, h'.get? b = some { o with slots := sl }) → (∀ b o, s.heap.get? b = some o → ∃ o', h'.get? b = some o') → Q () { s with heap := h' }) :
    wpAny M A (leaving env (.ref e)) Q E s := by
  unfold leaving
  exact wpAny_bind (note_st hfr hl hf fl h)
end
theorem ObjOk.there {P : Program} {w : World} {H : Hp} {h : Heap} {a : Addr} {o : HO} (x : ObjOk P w H h a o) : ∃ ob, h.get? a = some ob := by
  cases o with
  | lst xs => obtain ⟨_, _, _, _, e⟩ := x; exact ⟨_, e⟩
  | tup xs => obtain ⟨_, _, _, ob, e, _⟩ := x; exact ⟨_, e⟩
  | dK kvs => obtain ⟨_, _, _, _, o, _, _, e, _⟩ := x; exact ⟨_, e⟩
  | dT kvs => obtain ⟨_, _, _, _, o, _, _, e, _⟩ := x; exact ⟨_, e⟩
  | set S n => obtain ⟨o, _, _, _, e, _⟩ := x; exact ⟨_, e⟩
  | ins C dx fs => obtain ⟨_, _, _, e, _⟩ := x; exact ⟨_, e⟩
  | own y => exact x
  | xd fs => obtain ⟨_, ⟨_, _, _, e, _⟩, _⟩ := x; exact ⟨_, e⟩
  | rng lo hi => obtain ⟨_, _, _, e⟩ := x; exact ⟨_, e⟩
  | frz ob u => obtain ⟨e, _⟩ := x; exact ⟨_, e⟩
  | tbl ps => exact ⟨_, (show h.get? a = some _ from x)⟩
  | met f y => exact ⟨_, (show h.get? a = some _ from x)⟩
  | ext φ => obtain ⟨_, e, _⟩ := x; exact e
theorem HOk.no {P : Program} {w : World} {H : Hp} {h : Heap} {a : Addr} (x : HOk P w H h) (e : h.get? a = none) : H a = none := by
  cases q : H a with
  | none => rfl
  | some o =>
    obtain ⟨ob, z⟩ := (x a o q).there
    rw [e] at z
    cases z
/-- what is wanted of an exception that leaves the code: EX of its place, its class, the heap -/
def Wish (X : Cx) (EX : Addr → Addr → Hp → Prop) : Prop := ∀ (pins : List (Addr × Obj)) (σ : St) (H : Hp) (s : Shared) (a C : Addr) (tb : Value), Inv X pins σ H s → Fly s.heap a (.ref C) tb → X.s₀.heap.get? a = none → H a = none →
  (∀ T, tb = .ref T → X.s₀.heap.get? T = none ∧ H T = none) → (∀ p ∈ X.pn ++ pins, p.1 ≠ a ∧ tb ≠ .ref p.1) → EX a C H → X.xe (.ref a) s
/-- an exception behind a call -/
def CX1 (P : Program) (w : World) : CXT := fun outer H s E e s' => ∃ a C H' T, e = .ref a ∧ s'.os = s.os ∧ AllBare s'.gens ∧ Un (frs outer) [] H H' s.heap s'.heap ∧ HOk P w H' s'.heap ∧ s.heap.get? a = none ∧ s.heap.get? T = none ∧ H' a = none ∧ H' T = none ∧ Fly s'.heap a (.ref C) (.ref T) ∧ E (.ref a) (some C) H'
section
variable {X : Cx}
theorem Inv.was {pins : List (Addr × Obj)} {σ : St} {H : Hp} {s : Shared} {a : Addr} (I : Inv X pins σ H s) (hx : X.ex = []) (e : s.heap.get? a = none) : X.s₀.heap.get? a = none := by
  cases q : X.s₀.heap.get? a with
  | none => rfl
  | some o =>
    obtain ⟨o', z⟩ := I.base.there a o q (by rw [hx]; simp)
    rw [e] at z
    cases z
/-- a callee's exception passes -/
theorem pass1 {E : XK} (W : Wish X fun a C H => E (.ref a) (some C) H) (hx : X.ex = []) : Passes (CX1 X.prog X.w) X E := by
  intro pins σ H s e s' I h
  obtain ⟨a, C, H', T, rfl, os, bare, un, hok, na, nT, fa, fT, fl, q⟩ := h
  have J : Inv X pins σ H' s' := I.call' os un hok bare fun b z => absurd z (by simp)
  refine W pins σ H' s' a C (.ref T) J fl (I.was hx na) fa (fun T' eT => by cases eT; exact ⟨I.was hx nT, fT⟩) (fun p hp => ?_) q
  obtain ⟨e, _⟩ := I.pin p hp
  exact ⟨fun z => (by rw [z, na] at e; cases e), fun z => (by cases z; rw [nT] at e; cases e)⟩
/-- raise C(..) -/
def tRaise (C : Addr) (EX : Addr → Addr → Hp → Prop) (t : TA) : TS := fun _ σ H => t σ H fun vs H1 => vs.length ≤ sizeLine ∧ ∀ a, H1 a = none → EX a C H1
theorem ps_raise {x : Str} {C : Addr} {B newId initId : String} {bm : List Value} {EX : Addr → Addr → Hp → Prop} {np cpos pos : Pos} {e : Expr} {es : List Expr} {t : TA} (O : OwnCls x C bm newId X.mg X.base) (FB : ExcBaseFacts B newId initId bm) (hc : X.calm = true) (hx : X.ex = []) (hg : Gl X x) (ha : PA X (e :: es) t) (W : Wish X EX)
    (hdb : (x == ("__debug__" : Str)) = false := by decide) (he : starEach (e :: es) X.env = (false, eval e X.env) :: starEach es X.env := by rfl) (hpl : (backTo cpos (starEach es X.env)).any (·.1) = false := by rfl) :
    PS X (.Raise (some (.Call (.Name x np) (e :: es) [] cpos)) none pos) (tRaise C EX t) := by
  intro pins s σ H D I h
  obtain ⟨tl, N, nm, q, bs, hdct, sn, sub, ab, col, dd, k0, k1, k2, k3, k5, mN, hC, hN, hni, T⟩ := O.obj
  refine wpAny_Raise_call_subT (C := C) (nm := nm) (q := q) (N := N) (bs := bs) (bm := tl) (hdct := hdct) (sn := sn) (sub := sub) (ab := ab) (col := col) (dd := dd) (k0 := k0) (k1 := k1) (k2 := k2) (k3 := k3) (k5 := k5)
    FB (mN := mN) (T.hasType FB.hasBase) (I.ok.hd hc) (by rw [he]; show (false || (backTo cpos (starEach es X.env)).any (·.1)) = false; rw [hpl]; rfl) hni ?_
  refine ld_glob I hg O.bound ⟨rfl, ?_⟩ hdb
  have h2 := ha cpos pins s σ H _ I h
  rw [he] at h2 ⊢
  refine Calls.evalArgs_plain (wpAny_mono h2 (fun us s2 z => ?_) fun _ _ y => y)
  obtain ⟨vs, H1, I1, r1, hl, q1⟩ := z
  have hlen := r1.length
  refine ⟨rfl, by show us.length ≤ _; omega, I1.bk _ _ hC, hN.keeps I1.bk, T.keeps I1.bk, fun h' a me => ?_⟩
  obtain ⟨tt, e1, e2, e3⟩ := me.there
  have J : Inv X pins σ H1 { s2 with heap := h' } := I1.kept (t' := s2.toks) me.keeps
  have fl : Fly h' a (.ref C) .none := ⟨⟨_, _, e1, rfl, rfl, rfl, rfl⟩, .inl rfl⟩
  refine W pins σ H1 _ a C .none J fl (I1.was hx me.new) (I1.hok.no me.new) (fun T z => by cases z) (fun p hp => ?_) (q1 a (I1.hok.no me.new))
  obtain ⟨e, _⟩ := I1.pin p hp
  exact ⟨fun z => (by rw [z, me.new] at e; cases e), fun z => (by cases z)⟩
end
/-- a def's body: an exception leaves its frame -/
theorem wish_of {P : Program} {w : World} {K : PySem.W.Frag} {mg : Str → Option Value} {base : Heap} {N : List Str} {qual : Str} {scope : Scope} {f : Addr} {cd : Value} {A : Around} {outer : List Env} {s : Shared} {H : Hp} {E : XK} :
    Wish (cxOf (CX1 P w) P w K mg base N qual scope f cd A outer s H E) fun a C H' => E (.ref a) (some C) H' := by
  intro pins σ H' s' a C tb I fl na fa ft _ q
  show wpAny (model P w) (A.deeper (envOfC qual scope s.heap.objs.size f cd)) (leaving (envOfC qual scope s.heap.objs.size f cd) (.ref a)) (fun _ s'' => CX1 P w outer H s E (.ref a) s'') (fun e' s'' => CX1 P w outer H s E e' s'') s'
  have hst : s'.heap.FunFrames base (envOfC qual scope s.heap.objs.size f cd :: outer) := I.stack
  have hfr : (A.deeper (envOfC qual scope s.heap.objs.size f cd)).frames = some (envOfC qual scope s.heap.objs.size f cd :: outer) := I.ok.frames
  have hff : (envOfC qual scope s.heap.objs.size f cd).frame = some s.heap.objs.size := by
    rcases I.ok.stk with z | z
    · exact absurd (congrArg List.length (show (envOfC qual scope s.heap.objs.size f cd :: outer) = outer from z)) (by simp)
    · exact z.2
  have ub : Un (frs outer) [] H H' s.heap s'.heap := I.base
  have na : s.heap.get? a = none := na
  have ft : ∀ T, tb = .ref T → s.heap.get? T = none ∧ H' T = none := ft
  refine leave_st hfr hst hff fl fun h' T nT fl' k1 k2 k3 => ?_
  have apart : ∀ b o, s.heap.get? b = some o → b ≠ a ∧ tb ≠ .ref b := fun b o e => ⟨fun z => (by rw [z, na] at e; cases e), fun z => (by rw [(ft b z).1] at e; cases e)⟩
  have nfr : ∀ b o, s.heap.get? b = some o → b ∉ frs outer → b ∉ frs (envOfC qual scope s.heap.objs.size f cd :: outer) := fun b o e hn hm => by
    unfold frs at hm
    rw [List.filterMap_cons, hff] at hm
    rcases List.mem_cons.mp hm with z | z
    · exact absurd (Heap.lt_size e) (by rw [z]; exact Nat.lt_irrefl _)
    · exact hn z
  refine ⟨a, C, H', T, rfl, I.os, I.bare, ⟨fun b o e n hb _ => ?_, fun b o e n hb _ => ?_, ub.free, fun b o e hx => ?_, ub.tups, ub.frzs, ub.tbls⟩, fun c o e => ?_, na, ?_, fa, I.hok.no nT, fl', q⟩
  · exact k1 b o (ub.keep b o e n hb (by simp)) (apart b o e).1 (apart b o e).2 (nfr b o e hb)
  · obtain ⟨sl, e1⟩ := ub.slot b o e n hb (by simp)
    obtain ⟨sl2, e2⟩ := k2 b _ e1 (apart b o e).1 (apart b o e).2
    exact ⟨sl2, e2⟩
  · obtain ⟨o', e1⟩ := ub.there b o e hx
    exact k3 b o' e1
  · refine (I.hok c o e).stay (fun d v hd z => ?_) (fun _ z => z) fun _ _ z => z
    have hHd : ∃ o', H' d = some o' := by
      rcases hd with z | z
      · exact ⟨o, by rw [z]; exact e⟩
      · exact ⟨_, z⟩
    obtain ⟨o', eo⟩ := hHd
    refine k1 d v z (fun y => (by rw [y, fa] at eo; cases eo)) (fun y => (by rw [(ft d y).2] at eo; cases eo)) fun hm => ?_
    rw [I.stkFree d hm] at eo
    cases eo
  · exact I.was rfl nT
/-- THE RULE for a def that may raise -/
theorem Fun.okX {P : Program} {w : World} {K : PySem.W.Frag} {mg : Str → Option Value} {base : Heap} {x qual : Str} {st : Stmt} {f : Addr} {fd : FuncData} {N ps : List Str} {k : Nat} {sp : Sp} (F : Fun K x qual st f fd) (S : FnScope N ps (defScope st)) (len : ∀ vs H Q E, sp vs H Q E → vs.length = ps.length)
    (hbody : ∀ (cdv : Value) (A : Around) (outer : List Env) (s : Shared) (H : Hp) (vs : List V) (Q : VK) (E : XK), Room k (A.deeper (envOfC qual (defScope st) s.heap.objs.size f cdv)) → sp vs H Q E →
      ∃ t, PSs (cxOf (CX1 P w) P w K mg base N qual (defScope st) f cdv A outer s H E) (defBody st) t ∧ t { nx := fun _ H' => Q .non H', rt := Q } (start N vs) H) : FnOk P w K mg base (CX1 P w) (k + 1) f fd ps sp := by
  obtain ⟨oc, od, kV, doc, pm, an, cdv, ct, osl, rfl, lk, hcd⟩ := F.ex
  exact fn_of lk hcd S len fun A outer s H vs Q E hr hsp => hbody cdv A outer s H vs Q E hr hsp
/-- a class of one's own, out of the objects that are known -/
theorem own_mk {K : PySem.W.Frag} {h : Heap} {mg : Str → Option Value} {x : Str} {C : Addr} {bmB : List Value} {newId : String} (X : K.In h) (hm : mg x = some (.ref C)) (q : PySem.W.excIn K C bmB newId = true) : OwnCls x C bmB newId mg h := by
  refine ⟨hm, ?_⟩
  unfold PySem.W.excIn at q
  split at q
  · rename_i dd cd sl ho
    split at q
    · rename_i C' bm k0 k1 k2 k3 n k5 hm' hs
      simp only [Bool.and_eq_true, beq_iff_eq, Bool.not_eq_true'] at q
      obtain ⟨⟨⟨⟨⟨rfl, rfl⟩, hdel⟩, ht⟩, hok⟩, hni⟩ := q
      obtain ⟨nm, bs, mro, ns, qn, hd, sn, sub, ab, col, del⟩ := cd
      dsimp only at hm' hdel hok hni
      subst hm' hdel
      obtain ⟨l⟩ := sl
      have hs : l = _ := hs
      subst hs
      exact ⟨bm, ns, nm, qn, bs, hd, sn, sub, ab, col, dd, k0, k1, k2, k3, k5, _, X _ _ ho, .of_isNs (PySem.W.isNs_of_in X hok), PySem.W.nsMap_none_of_in X hok hni, PySem.W.tail_of_in X ht⟩
    · cases q
  · cases q
end L2

set_option Elab.async false
set_option linter.all false
set_option maxRecDepth 100000
/-! try: the frame at hand behind an exception; defs that run while one is handled. -/
namespace L2
open PySem PySem.Spec PyProof.Rows PySem.Calls
section
variable {X : Cx} {pins : List (Addr × Obj)} {σ : St} {H : Hp} {s : Shared} {h' : Heap}
/-- a record of an exception is no frame, no cell -/
theorem Fly.ne {h : Heap} {a : Addr} {C tb : Value} (fl : Fly h a C tb) {b : Addr} {o : Obj} (e : h.get? b = some o) (hd : ∀ vs, o.data ≠ .fields vs) : b ≠ a ∧ tb ≠ .ref b := by
  obtain ⟨⟨oe, vs, he, _, hv, _, _⟩, tr⟩ := fl
  refine ⟨fun z => ?_, fun z => ?_⟩
  · rw [z, he] at e
    cases e
    exact hd vs hv
  · rcases tr with q | ⟨T, oT, ts, q, _, hT, hdT, _⟩
    · rw [q] at z
      cases z
    · rw [q] at z
      cases z
      rw [hT] at e
      cases e
      exact hd ts hdT
/-- what was turned are the records of an exception, and slots of frames -/
theorem Inv.left {a : Addr} {C tb : Value} {t' : Nat} (I : Inv X pins σ H s) (hx : X.ex = []) (fl : Fly s.heap a C tb) (na : X.s₀.heap.get? a = none) (fa : H a = none) (ft : ∀ T, tb = .ref T → X.s₀.heap.get? T = none ∧ H T = none) (hp : ∀ p ∈ X.pn ++ pins, p.1 ≠ a ∧ tb ≠ .ref p.1)
    (k1 : ∀ b o, s.heap.get? b = some o → b ≠ a → tb ≠ .ref b → b ∉ frs X.stack → h'.get? b = some o) (k2 : ∀ b o, s.heap.get? b = some o → b ≠ a → tb ≠ .ref b → ∃ sl, h'.get? b = some { o with slots := sl }) (k3 : ∀ b o, s.heap.get? b = some o → ∃ o', h'.get? b = some o') : Inv X pins σ H { s with heap := h', toks := t' } := by
  have tr : ∀ b u, H b = some u → b ≠ a ∧ tb ≠ .ref b ∧ b ∉ frs X.stack := fun b u e => ⟨fun z => (by rw [z, fa] at e; cases e), fun z => (by rw [(ft b z).2] at e; cases e), fun z => (by rw [I.stkFree b z] at e; cases e)⟩
  have old : ∀ b o, X.s₀.heap.get? b = some o → b ≠ a ∧ tb ≠ .ref b := fun b o e => ⟨fun z => (by rw [z, na] at e; cases e), fun z => (by rw [(ft b z).1] at e; cases e)⟩
  have neL : ∀ b o, X.s₀.heap.get? b = some o → b ≠ X.env.locals := fun b o e => Nat.ne_of_lt (Nat.lt_of_lt_of_le (Heap.lt_size e) I.ok.above)
  have nfs : ∀ b, b ≠ X.env.locals → b ∉ X.fs → b ∉ frs X.stack := fun b h1 h2 z => (List.mem_cons.mp (I.stkSub b z)).elim h1 h2
  have cellK : ∀ x c, X.env.cells.lookup x = some c → ∀ v, s.heap.IsCell c v → h'.IsCell c v := fun x c e v ⟨o, ho, hd⟩ => by
    obtain ⟨n1, n2⟩ := fl.ne ho fun vs q => by rw [hd] at q; cases q
    obtain ⟨sl, q⟩ := k2 c o ho n1 n2
    exact ⟨_, q, hd⟩
  refine ⟨I.ok, I.os, I.bare, ⟨fun b o e n hb hx' => ?_, fun b o e n hb hx' => ?_, I.base.free, fun b o e hx' => ?_, I.base.tups, I.base.frzs, I.base.tbls⟩, ?_, fun x c e => ?_, I.free, I.freeC, fun p hpm => ?_, fun c o e => ?_, I.len⟩
  · exact k1 b o (I.base.keep b o e n hb hx') (old b o e).1 (old b o e).2 (nfs b (neL b o e) hb)
  · obtain ⟨sl, e1⟩ := I.base.slot b o e n hb hx'
    obtain ⟨sl2, e2⟩ := k2 b _ e1 (old b o e).1 (old b o e).2
    exact ⟨sl2, e2⟩
  · obtain ⟨o', e1⟩ := I.base.there b o e hx'
    exact k3 b o' e1
  · obtain ⟨m, ⟨o, es, ep, ho, hd, r⟩, hl⟩ := I.loc
    obtain ⟨n1, n2⟩ := fl.ne ho fun vs q => by rw [hd] at q; cases q
    obtain ⟨sl, q⟩ := k2 _ o ho n1 n2
    refine ⟨m, ⟨_, es, ep, q, hd, r⟩, fun i x v e1 e2 e3 => ?_⟩
    obtain ⟨u, rr, l⟩ := hl i x v e1 e2 e3
    refine ⟨u, rr, ?_⟩
    rcases l with l | ⟨k, c, e, z⟩
    · exact .inl l
    · exact .inr ⟨k, c, e, cellK x c e _ z⟩
  · obtain ⟨v, z⟩ := I.cell x c e
    exact ⟨v, cellK x c e v z⟩
  · obtain ⟨e, n, ne, nf, d⟩ := I.pin p hpm
    exact ⟨k1 p.1 p.2 e (hp p hpm).1 (hp p hpm).2 (nfs p.1 ne nf), n, ne, nf, d⟩
  · refine (I.hok c o e).stay (fun d v hd z => ?_) (fun _ z => z) fun _ _ z => z
    have hHd : ∃ o', H d = some o' := by
      rcases hd with z | z
      · exact ⟨o, by rw [z]; exact e⟩
      · exact ⟨_, z⟩
    obtain ⟨o', eo⟩ := hHd
    obtain ⟨t1, t2, t3⟩ := tr d o' eo
    exact k1 d v z t1 t2 t3
end
/-! ### defs that run while an exception is handled -/
/-- room for a call, whatever is handled -/
structure RoomU (k : Nat) (A : Around) : Prop where
  dp : A.depth + 3 * k + 5 < recursionLimit
  un : A.units + 16 * k + 200 < cLine
  gd : A.guards = some []
theorem Room.toU {k : Nat} {A : Around} (r : Room k A) : RoomU k A := ⟨r.dp, r.un, r.gd⟩
theorem RoomU.mono {j k : Nat} {A : Around} (r : RoomU k A) (h : j ≤ k) : RoomU j A := ⟨by have := r.dp; omega, by have := r.un; omega, r.gd⟩
structure FnOkU (P : Program) (w : World) (K : PySem.W.Frag) (mg : Str → Option Value) (base : Heap) (CX : CXT) (k : Nat) (f : Addr) (fd : FuncData) (ps : List Str) (sp : Sp) : Prop where
  len : ∀ vs H Q E, sp vs H Q E → vs.length = ps.length
  run : ∀ (A : Around) (outer : List Env) (s : Shared) (H : Hp) (args : Args) (us : List Value) (vs : List V) (Q : VK) (E : XK), RoomU k A → Env0 P w K mg base A outer s H → BindsTo s fd args (ps.zip us) → Vals vs us → sp vs H Q E →
    codeAny (model P w) A (.call (.ref f) args) (CR CX outer P w H s Q E) s
/-- a context where an exception may be handled -/
abbrev Cx.un (X : Cx) (A : Around) : Cx := { X with A := A, calm := false }
theorem Inv.un' {X : Cx} {pins : List (Addr × Obj)} {σ : St} {H : Hp} {s : Shared} (I : Inv X pins σ H s) (A : Around) (hA : A.frames = X.A.frames) : Inv (X.un A) pins σ H s :=
  ⟨⟨I.ok.mod, I.ok.kind, I.ok.glob, I.ok.blt, I.ok.above, I.ok.inj, I.ok.has, I.ok.cab, fun z => (by cases z), hA.trans I.ok.frames, I.ok.stk, I.ok.exf, I.ok.bs, I.ok.bsz, I.ok.noex, I.ok.exfs, I.ok.funs, I.ok.frf⟩, I.os, I.bare, I.base, I.loc, I.cell, I.free, I.freeC, I.pin, I.hok, I.len⟩
/-- the same, with nothing handled -/
def qt (A : Around) : Around := { A with handled := none }
theorem Env0.qt {P : Program} {w : World} {K : PySem.W.Frag} {mg : Str → Option Value} {base : Heap} {A : Around} {outer : List Env} {s : Shared} {H : Hp} (e : Env0 P w K mg base A outer s H) : Env0 P w K mg base (qt A) outer s H :=
  ⟨e.frames, e.mod, e.bs, e.bsz, e.funs, e.frf, e.hok, e.bare⟩
theorem RoomU.mark {k : Nat} {A : Around} (r : RoomU k A) (v : Option Value) : RoomU k (A.mark v) := ⟨r.dp, r.un, r.gd⟩
theorem RoomU.deeper {k : Nat} {A : Around} (r : RoomU (k + 1) A) (env : Env) : RoomU k (A.deeper env) :=
  ⟨by have := r.dp; show A.depth + 1 + 3 * k + 5 < _; omega, by have := r.un; show A.units + 3 + 16 * k + 200 < _; omega, r.gd⟩
/-- THE RULE for a def that may run while an exception is handled; it raises none -/
theorem Fun.okU {P : Program} {w : World} {K : PySem.W.Frag} {mg : Str → Option Value} {base : Heap} {x qual : Str} {st : Stmt} {f : Addr} {fd : FuncData} {N ps : List Str} {k : Nat} {sp : Sp} (F : Fun K x qual st f fd) (S : FnScope N ps (defScope st)) (len : ∀ vs H Q E, sp vs H Q E → vs.length = ps.length)
    (hbody : ∀ (cdv : Value) (A : Around) (outer : List Env) (s : Shared) (H : Hp) (vs : List V) (Q : VK) (E : XK), RoomU k (A.deeper (envOfC qual (defScope st) s.heap.objs.size f cdv)) → sp vs H Q E →
      ∃ t, PSs (((cxOf CX0 P w K mg base N qual (defScope st) f cdv (qt A) outer s H E).un (A.deeper (envOfC qual (defScope st) s.heap.objs.size f cdv))).nox) (defBody st) t ∧ t { nx := fun _ H' => Q .non H', rt := Q } (start N vs) H) :
    FnOkU P w K mg base CX0 (k + 1) f fd ps sp := by
  obtain ⟨oc, od, kV, doc, pm, an, cdv, ct, osl, rfl, lk, hcd⟩ := F.ex
  refine ⟨len, fun A outer s H args us vs Q E hr e0 hb r hsp => ?_⟩
  have hl := len _ _ _ _ hsp
  have KX : K.In s.heap := e0.mod.kin.keeps fun b o e => (e0.bs b o e).1
  have lim : s.heap.NoLimit := e0.mod.nolimit.keeps fun b o e => (e0.bs b o e).1
  have hkind : ∀ y ∈ ps.zip us, (defScope st).names.lookup y.1 = some .local ∨ ((defScope st).names.lookup y.1 = some .cell ∧ ((cellsFrom (s.heap.objs.size + 1) (defScope st).names []).lookup y.1).isSome = true) := fun ⟨n, v⟩ hy => by
    rcases S.par n (List.of_mem_zip hy).1 with q | q
    · exact .inl q
    · exact .inr ⟨q, PySem.W.cellsFrom_some _ _ _ (.inl q)⟩
  refine codeAny_call_function (by have := hr.dp; omega) (KX _ _ lk) rfl S.co S.gen rfl (PySem.W.codeRec_of KX hcd) (hb _ _ _ _ ?_)
  refine wpAny_newFunctionEnv_cells S.kind hkind fun env he s1 x => ?_
  subst he
  refine ⟨lim.keeps x.toInCall.keep, codeAny_func ?_⟩
  obtain ⟨t, ht, hq⟩ := hbody cdv A outer s H vs Q E (hr.deeper _) hsp
  have I : Inv (cxOf CX0 P w K mg base N qual (defScope st) f cdv (qt A) outer s H E) [] (start N vs) H s1 := inv_start S rfl e0.qt hl r x
  have J := (I.un' (A.deeper (envOfC qual (defScope st) s.heap.objs.size f cdv)) rfl).wish fun _ _ => False
  refine wpAny_mono (ht [] s1 (start N vs) H _ J hq) (fun fl s' hs => ?_) fun e s' hs => hs.elim
  have fin : ∀ {σ' : St} {H' : Hp} {v : V} {u : Value}, Inv (((cxOf CX0 P w K mg base N qual (defScope st) f cdv (qt A) outer s H E).un (A.deeper (envOfC qual (defScope st) s.heap.objs.size f cdv))).nox) [] σ' H' s' → RelV v u → Q v H' → CE outer P w H s Q u s' :=
    fun {σ' H' v u} J rv q => ⟨v, H', J.os, J.bare, J.base, J.hok, rv, q⟩
  cases fl with
  | ret u =>
    obtain ⟨v, σ', H', J, rv, q⟩ := hs
    exact fin J rv q
  | next =>
    obtain ⟨σ', H', J, q⟩ := hs
    exact fin (v := V.non) (u := Value.none) J rfl q
  | brk =>
    obtain ⟨_, _, _, q⟩ := hs
    exact False.elim q
  | cont =>
    obtain ⟨_, _, _, q⟩ := hs
    exact False.elim q
section
variable {X : Cx} {k : Nat} {f : Addr} {fd : FuncData} {ps : List Str} {sp : Sp} {x : Str} {p pos : Pos} {e : Expr} {es : List Expr} {t : TA}
/-- f(..), f a def that may run while an exception is handled -/
theorem pe_callU (F : FnOkU X.prog X.w X.K X.mg X.base CX0 k f fd ps sp) (hr : RoomU k X.A) (hg : Gl X x) (hm : X.mg x = some (.ref f)) (hk : PySem.W.keepIn X.K (.ref f) = true) (hb : Binds X.K fd ps []) (ha : PA X (e :: es) t)
    (hdb : (x == ("__debug__" : Str)) = false := by decide) (he : starEach (e :: es) X.env = (false, eval e X.env) :: starEach es X.env := by rfl) (hpl : (backTo pos (starEach es X.env)).any (·.1) = false := by rfl) :
    PE X (.Call (.Name x p) (e :: es) [] pos) (tCall sp [] E0 t) := by
  intro pins s σ H Q I h
  refine wpAny_Call_Name_kw (ld_glob I hg hm ?_ hdb)
  refine PySem.W.callWith_K (h₀ := X.base) I.ok.mod.kin hk (thn (ha pos pins s σ H _ I h) fun us s1 ⟨vs, H1, I1, r, q⟩ => ⟨I1.kIn, ?_⟩) he hpl
  have q : sp (vs ++ []) H1 Q E0 := q
  rw [List.append_nil] at q
  have hl : (us ++ []).length = ps.length := by rw [List.append_nil, ← r.length]; exact F.len _ _ _ _ q
  have hbd := hb s1 us I1.kIn hl
  rw [List.append_nil] at hbd
  refine wpAny_call (codeAny_mono (F.run X.A X.stack s1 H1 ⟨us, []⟩ us vs Q E0 hr I1.env0 hbd r q) fun rr s' hq => ?_)
  cases rr with
  | error e => exact (show False from hq).elim
  | ok fl =>
    cases fl with
    | ret u => exact I1.after hq
    | next => exact False.elim hq
    | brk => exact False.elim hq
    | cont => exact False.elim hq
end
/-! ### a caught exception, tracked -/
/-- the object at a is an exception of the class at C -/
def excAt (a C : Addr) (h : Heap) : Prop := ∃ o vs, h.get? a = some o ∧ o.cls = .ref C ∧ o.data = .fields vs ∧ o.dict = none
theorem excAt.ok {P : Program} {w : World} {H : Hp} {h : Heap} {a C : Addr} (x : excAt a C h) : ObjOk P w H h a (.ext (excAt a C)) :=
  ⟨x, (let ⟨o, _, e, _⟩ := x; ⟨o, e⟩), fun h1 h2 z k => (let ⟨o, vs, e, r⟩ := z; ⟨o, vs, k o e, r⟩)⟩
theorem HOk.tracked {P : Program} {w : World} {H : Hp} {h : Heap} {a : Addr} {o : HO} (x : HOk P w H h) (n : H a = none) (new : ObjOk P w (upd H a o) h a o) : HOk P w (upd H a o) h := fun b u e => by
  by_cases z : b = a
  · subst z
    rw [upd_same] at e
    cases e
    exact new
  · rw [upd_ne z] at e
    exact (x b u e).stay (fun _ _ _ q => q) (fun c q => by rw [upd_ne (ne_of_none q n)]; exact q) fun c xs q => by rw [upd_ne (ne_of_none q n)]; exact q
/-- an untracked object of ours is tracked from here on -/
theorem Inv.track {X : Cx} {pins : List (Addr × Obj)} {σ : St} {H : Hp} {s : Shared} {a : Addr} {o : HO} (I : Inv X pins σ H s) (hx : X.ex = []) (n : H a = none) (na : X.s₀.heap.get? a = none) (hL : a ≠ X.env.locals) (hc : ∀ x c, X.env.cells.lookup x = some c → c ≠ a) (hp : ∀ p ∈ X.pn ++ pins, p.1 ≠ a) (new : ObjOk X.prog X.w (upd H a o) s.heap a o) :
    Inv X pins σ (upd H a o) s :=
  ⟨I.ok, I.os, I.bare, ⟨I.base.keep, I.base.slot, fun b ob e h1 h2 => (by rw [upd_ne (fun z => (by rw [z, na] at e; cases e))]; exact I.base.free b ob e h1 h2), I.base.there, fun b xs e => (have q := I.base.tups b xs e; by rw [upd_ne (ne_of_none q n)]; exact q), fun b ob u e => (have q := I.base.frzs b ob u e; by rw [upd_ne (ne_of_none q n)]; exact q),
    fun b ps e => (let ⟨m, q⟩ := I.base.tbls b ps e; ⟨m, by rw [upd_ne (ne_of_none q n)]; exact q⟩)⟩, I.loc, I.cell, (by rw [upd_ne (Ne.symm hL)]; exact I.free), fun x c e => (by rw [upd_ne (hc x c e)]; exact I.freeC x c e),
    fun p hpm => (let ⟨e, n1, r⟩ := I.pin p hpm; ⟨e, by rw [upd_ne (hp p hpm)]; exact n1, r⟩), I.hok.tracked n new, I.len⟩
end L2

set_option Elab.async false
set_option linter.all false
set_option maxRecDepth 100000
/-! isinstance of a caught exception. -/
namespace L2
open PySem PySem.Spec PyProof.Rows PySem.Calls PySem.W
theorem exc_entry : entryFor table "BaseException.__getattribute__" = some Builtin.«object.__getattribute__» :=
  entryFor_alias (id' := "object.__getattribute__") (by kernel_rfl) (by first | rfl | decide +kernel) (by decide +kernel) (by kernel_rfl)
section
variable {K : Frag} {prog : Program} {w : World} {A : Around} {E : Value → Shared → Prop} {s : Shared} {x C : Addr} {ox : Obj}
theorem exc_find {a g : Value} {name : Str} (hc : (clsIn K C).isSome = true) (ha : findIn K (.ref C) name = some (some a)) (hg : specialIn K a "__get__" = some (some g)) (ht : takesIn K a = some true) : findObj K C none name = some (.bind g a) := by
  obtain ⟨cd, hc⟩ := Option.isSome_iff_exists.mp hc
  unfold findObj
  rw [hc, Option.bind_some, ha, Option.bind_some]
  simp [hg, ht]
theorem exc_ga {tk : Tok} {Q : Fin → Shared → Prop} (X : K.In s.heap) (I : InstAt s.heap x ox C none) (hf : findObj K C none "__class__" = some (.bind (.builtin "getset_descriptor.__get__") (.builtin "object.__class__"))) (hm : mroIn K C (.type "object") = some true)
    (h : Q (.done (.ret (.ref C))) s) : wpAny (model prog w) A (Builtin.«object.__getattribute__» ⟨[.ref x, .str "__class__" tk], []⟩) Q E s := by
  obtain ⟨hh, g, d, t, os⟩ := s
  have L0 := I.type (M := model prog w)
  have L1 := looks_find (M := model prog w) X I hf
  unfold Builtin.«object.__getattribute__»
  repeat lk
  refine wpAny_run (class_get X I hm ?_)
  repeat lk
  exact h
theorem exc_slot : Slot "BaseException" "__getattribute__" "BaseException.__getattribute__" :=
  .of (owner := "BaseException") (n := "__getattribute__") (by rw [typeLookup_type, builtinLookup_eq_fast]; kernel_rfl) (by decide +kernel) (by decide +kernel) (by decide +kernel)
    (by first | exact .inl (by decide +kernel) | exact .inr (by decide +kernel)) (by rw [isSubtype_type]; kernel_rfl)
theorem exc_kind : builtinKind "BaseException.__getattribute__" = some .slot := by decide +kernel
theorem exc_split : splitId "BaseException.__getattribute__" = some ("BaseException", "__getattribute__") := by decide +kernel
theorem exc_sig : ∃ sig, Manifest.signature? "BaseException.__getattribute__" = sig ∧ ∀ a b : Value, (match sig with | none => (pure () : Sem Unit) | some g => Bind.checkArgs "BaseException.__getattribute__" g ⟨[a, b], []⟩) = pure () := ⟨_, rfl, fun a b => by kernel_rfl⟩
theorem exc_check {Q : Unit → Shared → Prop} {b : Value} (L : Looks (model prog w) s.heap (isInstance (.ref x) (.type "BaseException")) true) (h : Q () s) : wpAny (model prog w) A (checkBuiltinCall "BaseException.__getattribute__" ⟨[.ref x, b], []⟩) Q E s := by
  simp only [checkBuiltinCall, exc_kind, exc_split]
  refine wpAny_bind (L.at ?_)
  simp only [Bool.not_true, Bool.false_eq_true, if_false]
  obtain ⟨sig, e, r⟩ := exc_sig
  have r := r (.ref x) b
  rw [e]
  cases sig with
  | none => exact wpAny_pure h
  | some g =>
    show wpAny _ _ (Bind.checkArgs "BaseException.__getattribute__" g ⟨[.ref x, b], []⟩) Q E s
    have r : Bind.checkArgs "BaseException.__getattribute__" g ⟨[.ref x, b], []⟩ = pure () := r
    rw [r]
    exact wpAny_pure h
theorem exc_class {Q : Option Value → Shared → Prop} (X : K.In s.heap) (I : InstAt s.heap x ox C none) (hga : findIn K (.ref C) "__getattribute__" = some (some (.builtin "BaseException.__getattribute__"))) (hgb : findIn K (.ref C) "__getattr__" = some none)
    (hf : findObj K C none "__class__" = some (.bind (.builtin "getset_descriptor.__get__") (.builtin "object.__class__"))) (hm : mroIn K C (.type "object") = some true) (hb : mroIn K C (.type "BaseException") = some true) (h : Q (some (.ref C)) { s with toks := s.toks + 1 }) :
    wpAny (model prog w) A (getAttr? (.ref x) "__class__") Q E s := by
  obtain ⟨hh, g, d, t, os⟩ := s
  have L0 := I.type (M := model prog w)
  have L1 := looks_findIn (M := model prog w) X hga
  have L2 := looks_findIn (M := model prog w) X hgb
  have L3 := looks_mroIn (M := model prog w) X hb
  unfold getAttr? getAttrBy? getAttrBy
  refine wpAny_bind (wpAny_mkText (wpAny_bind (wpAny_attempt (wpAny_holding (wpAny_bind (L0.at (wpAny_bind (L1.at ?_))))))))
  show wpAny _ _ (getAttrByItsOwn _ _ _ _ _ _) _ _ _
  unfold getAttrByItsOwn hookBefore
  refine wpAny_bind ?_
  rw [if_pos (show onTheHeap (.ref C) = true from rfl)]
  refine L2.at ?_
  refine wpAny_bind (wpAny_attempt (wpAny_holding ?_))
  show wpAny _ _ (boundAndCalled (.builtin "BaseException.__getattribute__") (.ref x) (.str "__class__" t)) _ _ _
  unfold boundAndCalled
  refine wpAny_bind (wpAny_of_eq (exc_slot.bind _) ?_)
  refine wpAny_call (codeAny_call_builtin exc_slot.plain exc_entry (exc_check (s := ⟨hh, g, d, t + 1, os⟩) (L0.andThen L3) ?_))
  refine exc_ga (s := ⟨hh, g, d, t + 1, os⟩) X I hf hm ?_
  show wpAny _ _ (handedOut (.ref C)) _ _ _
  repeat lk
  exact h
end
/-- what is known of an own class of exceptions -/
structure ExcC (K : Frag) (C : Addr) : Prop where
  cl : (clsIn K C).isSome = true
  ga : findIn K (.ref C) "__getattribute__" = some (some (.builtin "BaseException.__getattribute__"))
  gb : findIn K (.ref C) "__getattr__" = some none
  fc : findIn K (.ref C) "__class__" = some (some (.builtin "object.__class__"))
  sg : specialIn K (.builtin "object.__class__") "__get__" = some (some (.builtin "getset_descriptor.__get__"))
  tk : takesIn K (.builtin "object.__class__") = some true
  ob : mroIn K C (.type "object") = some true
  be : mroIn K C (.type "BaseException") = some true
theorem excAt.inst {a C : Addr} {h : Heap} (x : excAt a C h) : ∃ ox, InstAt h a ox C none := by
  obtain ⟨o, vs, e, c, d, dd⟩ := x
  refine ⟨o, e, c, ?_, by rw [dd]; trivial⟩
  unfold notCls
  rw [d]
theorem kitx_exc {K : Frag} {a C : Addr} (Z : ExcC K C) : KitX K (.ref a) (.ref C) (excAt a C) where
  ty := fun M h _ p => (let ⟨_, I⟩ := p.inst; I.type)
  it := fun M h X _ => by
    have z := Z.cl
    unfold clsIn at z
    split at z
    · rename_i c' d' cd' sl' ho
      intro A' Q' E' s' k q
      unfold isType loadHead
      exact wpAny_bind (wpAny_loadPart (k _ _ (X _ _ ho)) (wpAny_pure q))
    · cases z
  ne := fun h tp dd its n sl X e => by
    refine Bool.eq_false_iff.mpr fun q => ?_
    have q : C = tp := by
      have := beq_iff_eq.mp q
      injection this
    subst q
    have z := Z.cl
    unfold clsIn at z
    split at z
    · rename_i c' d' cd' sl' ho
      have := X _ _ ho
      rw [e] at this
      cases this
    · cases z
  ca := fun {prog w A E Q s} X p h => by
    obtain ⟨ox, I⟩ := p.inst
    exact exc_class X I Z.ga Z.gb (exc_find Z.cl Z.fc Z.sg Z.tk) Z.ob Z.be h
/-- isinstance(e, D) of a caught exception -/
theorem call_isinstX {X : Cx} : CallR X (.builtin "isinstance") (fun xs H Q => ∃ a C c b, xs = [.ref a, c] ∧ H a = some (.ext (excAt a C)) ∧ ExcC X.K C ∧ ((∃ D, c = .ref D ∧ kitOne X.K (.ref C) (.ref D) = some b) ∨ ∃ n, c = .ty n ∧ kitOne X.K (.ref C) (.type n) = some b) ∧ Q (.bl b) H) := by
  intro pins s σ H xs us Q I r h
  obtain ⟨a, C, c, b, rfl, e, Z, hk, q⟩ := h
  obtain ⟨u, v, rfl, ru, rv⟩ := vals2 r
  cases (show u = Value.ref a from ru)
  obtain ⟨p, _⟩ := (show ObjOk X.prog X.w H s.heap a (.ext (excAt a C)) from I.hok a _ e)
  rcases hk with ⟨D, rfl, hk⟩ | ⟨n, rfl, hk⟩
  · cases (show v = Value.ref D from rv)
    exact kia_one (kitx_exc Z) I.kIn p hk (fun z => nomatch z) fun tk => ⟨.bl b, H, I.tok _, rfl, q⟩
  · cases (show v = Value.type n from rv)
    exact kia_one (kitx_exc Z) I.kIn p hk (fun z => nomatch z) fun tk => ⟨.bl b, H, I.tok _, rfl, q⟩
end L2

set_option Elab.async false
set_option linter.all false
set_option maxRecDepth 100000
/-! except C as e. -/
namespace L2
open PySem PySem.Spec PyProof.Rows PySem.Calls PySem.W
section
variable {K : Frag} {prog : Program} {w : World} {A : Around} {E : Value → Shared → Prop} {s : Shared} {a C D : Addr} {ox : Obj}
/-- what except D asks of D, for an exception of the class C -/
structure CatchC (K : Frag) (C D : Addr) : Prop where
  nt : typeIn K (.ref D) = some (.type "type")
  ty : (clsIn K D).isSome = true
  be : subIn K (.ref D) (.type "BaseException") = some true
  su : subIn K (.ref C) (.ref D) = some true
theorem isType_of (X : K.In s.heap) (h : (clsIn K D).isSome = true) : Looks (model prog w) s.heap (isType (.ref D)) true := by
  unfold clsIn at h
  split at h
  · rename_i c' d' cd' sl' ho
    intro A' Q' E' s' k q
    unfold isType loadHead
    exact wpAny_bind (wpAny_loadPart (k _ _ (X _ _ ho)) (wpAny_pure q))
  · cases h
theorem exc_matches {Q : Bool → Shared → Prop} (X : K.In s.heap) (I : InstAt s.heap a ox C none) (Z : CatchC K C D) (h : Q true s) : wpAny (model prog w) A (excMatches (.ref a) (.ref D)) Q E s := by
  obtain ⟨hh, g, d, t, os⟩ := s
  have L0 := I.type (M := model prog w)
  have L1 := looks_typeIn (M := model prog w) X Z.nt
  have L2 := isType_of (prog := prog) (w := w) X Z.ty
  have L3 := looks_subIn (M := model prog w) X Z.be
  have L4 := looks_subIn (M := model prog w) X Z.su
  have f := tc_notTuple
  unfold excMatches isExcClass
  repeat (first | with_reducible refine L1.at ?_ | with_reducible refine L0.at ?_ | with_reducible refine L2.at ?_ | with_reducible refine L3.at ?_ | with_reducible refine L4.at ?_ | wp_step)
  exact h
end
theorem flight_st {M : Model} {A : Around} {E : Value → Shared → Prop} {s : Shared} {a : Addr} {C tb : Value} {Q : Unit → Shared → Prop} (fl : Fly s.heap a C tb)
    (h : ∀ h', Fly h' a C tb → (∀ b o, s.heap.get? b = some o → tb ≠ .ref b → h'.get? b = some o) → (∀ b o, s.heap.get? b = some o → ∃ o', h'.get? b = some o') → Q () { s with heap := h' }) : wpAny M A (setFlight (.ref a) none) Q E s := by
  obtain ⟨⟨oe, vs, he, hc, hd, h1, hdd⟩, tr⟩ := id fl
  unfold setFlight
  refine wpAny_bind (wpAny_field he hd h1 ?_)
  rcases tr with rfl | ⟨T, oT, ts, rfl, nT, hT, hdT, h3⟩
  · rw [if_neg (by decide)]
    exact wpAny_pure (h s.heap fl (fun b o e _ => e) fun b o e => ⟨o, e⟩)
  · rw [if_pos (show (Value.ref T != Value.none) = true by simp)]
    have z3 := (Array.getElem?_eq_some_iff.mp h3).1
    refine wpAny_setField hT hdT z3 ?_
    have g3 := Heap.get?_update_self (Obj.mapFields (·.setIfInBounds 3 ((none : Option Addr).elim Value.none fun f => rawInt f))) hT (Obj.isFreed_of_fields (Obj.data_mapFields hdT _))
    have o3 : ∀ b, b ≠ T → (s.heap.update T (Obj.mapFields (·.setIfInBounds 3 ((none : Option Addr).elim Value.none fun f => rawInt f)))).get? b = s.heap.get? b := fun b hb => Heap.get?_update_other _ _ (Ne.symm hb)
    refine h _ ⟨⟨oe, vs, (o3 a (Ne.symm nT)).trans he, hc, hd, h1, hdd⟩, .inr ⟨T, _, _, rfl, nT, g3, Obj.data_mapFields hdT _, by simp [z3]⟩⟩ (fun b o e hb => (o3 b fun z => hb (by rw [z])).trans e) fun b o e => ?_
    by_cases z : b = T
    · rw [z]
      exact ⟨_, g3⟩
    · exact ⟨o, (o3 b z).trans e⟩
/-! ### contexts within a try -/
abbrev Cx.tr (X : Cx) (pins : List (Addr × Obj)) (xe : Value → Shared → Prop) : Cx := { X with pn := X.pn ++ pins, xe := xe }
theorem Inv.tr {X : Cx} {pins : List (Addr × Obj)} {σ : St} {H : Hp} {s : Shared} (I : Inv X pins σ H s) (xe : Value → Shared → Prop) : Inv (X.tr pins xe) [] σ H s :=
  ⟨⟨I.ok.mod, I.ok.kind, I.ok.glob, I.ok.blt, I.ok.above, I.ok.inj, I.ok.has, I.ok.cab, I.ok.hd, I.ok.frames, I.ok.stk, I.ok.exf, I.ok.bs, I.ok.bsz, I.ok.noex, I.ok.exfs, I.ok.funs, I.ok.frf⟩, I.os, I.bare, I.base, I.loc, I.cell, I.free, I.freeC, fun p hp => I.pin p (by simpa using hp), I.hok, I.len⟩
theorem Inv.untr {X : Cx} {pins pins' : List (Addr × Obj)} {σ : St} {H : Hp} {s : Shared} {xe : Value → Shared → Prop} (I : Inv (X.tr pins xe) pins' σ H s) : Inv X pins σ H s :=
  ⟨⟨I.ok.mod, I.ok.kind, I.ok.glob, I.ok.blt, I.ok.above, I.ok.inj, I.ok.has, I.ok.cab, I.ok.hd, I.ok.frames, I.ok.stk, I.ok.exf, I.ok.bs, I.ok.bsz, I.ok.noex, I.ok.exfs, I.ok.funs, I.ok.frf⟩, I.os, I.bare, I.base, I.loc, I.cell, I.free, I.freeC, fun p hp => I.pin p (List.mem_append_left _ hp), I.hok, I.len⟩
/-- the frame's own names are turned, one of them dropped -/
theorem Inv.drop {X : Cx} {pins : List (Addr × Obj)} {σ : St} {H : Hp} {s : Shared} {i : Nat} {x : Str} {h' : Heap} {u : Option Value} {m : Str → Option Value} (I : Inv X pins σ H s) (hN : X.N.Nodup) (hi : X.N[i]? = some x)
    (hl : ∀ (i : Nat) (x : Str) (v : V), X.N[i]? = some x → σ[i]? = some (some v) → Vis X.env.scope x → ∃ u, RelV v u ∧ Look X.env s.heap m x u) (hn : h'.Ns X.env.locals fun y => if y = x then u else m y) (sb : Heap.SameBut X.env.locals s.heap h') : Inv X pins (σ.set i none) H { s with heap := h' } := by
  have nL : ∀ b o, X.s₀.heap.get? b = some o → b ≠ X.env.locals := fun b o e => Nat.ne_of_lt (Nat.lt_of_lt_of_le (Heap.lt_size e) I.ok.above)
  have cK : ∀ y c, X.env.cells.lookup y = some c → ∀ v, s.heap.IsCell c v → h'.IsCell c v := fun y c e v ⟨o, ho, hd⟩ => ⟨o, (sb.2 c (I.cne y c e)).trans ho, hd⟩
  refine ⟨I.ok, I.os, I.bare, ⟨fun b o e n hb hx => (sb.2 b (nL b o e)).trans (I.base.keep b o e n hb hx), fun b o e n hb hx => ?_, I.base.free, fun b o e hx => ?_, I.base.tups, I.base.frzs, I.base.tbls⟩, ⟨_, hn, fun j y v e1 e2 e3 => ?_⟩, fun y c e => ?_, I.free, I.freeC, fun p hp => ?_, fun c o e => ?_, by rw [List.length_set]; exact I.len⟩
  · obtain ⟨sl, e1⟩ := I.base.slot b o e n hb hx
    exact ⟨sl, (sb.2 b (nL b o e)).trans e1⟩
  · obtain ⟨o', e1⟩ := I.base.there b o e hx
    exact ⟨o', (sb.2 b (nL b o e)).trans e1⟩
  · by_cases z : i = j
    · subst z
      by_cases hlt : i < σ.length
      · rw [List.getElem?_set_self hlt] at e2
        cases e2
      · rw [List.getElem?_eq_none (by rw [List.length_set]; omega)] at e2
        cases e2
    · rw [List.getElem?_set_ne z] at e2
      obtain ⟨u', r, l⟩ := hl j y v e1 e2 e3
      refine ⟨u', r, ?_⟩
      rcases l with ⟨k, l⟩ | ⟨k, c, e, w'⟩
      · refine .inl ⟨k, ?_⟩
        show (if y = x then u else m y) = some u'
        rw [if_neg fun q => z ?_]
        · exact l
        · rw [q] at e1
          obtain ⟨h1, g1⟩ := List.getElem?_eq_some_iff.mp hi
          obtain ⟨h2, g2⟩ := List.getElem?_eq_some_iff.mp e1
          exact (List.getElem_inj hN).mp (g1.trans g2.symm)
      · exact .inr ⟨k, c, e, cK y c e _ w'⟩
  · obtain ⟨v, w'⟩ := I.cell y c e
    exact ⟨v, cK y c e v w'⟩
  · obtain ⟨e, n, ne, r⟩ := I.pin p hp
    exact ⟨(sb.2 p.1 ne).trans e, n, ne, r⟩
  · refine (I.hok c o e).stay (fun d v hd z => (sb.2 d fun q => ?_).trans z) (fun _ z => z) fun _ _ z => z
    rcases hd with y | y
    · rw [y] at q
      rw [q, I.free] at e
      cases e
    · rw [q, I.free] at y
      cases y
/-- behind the suite the name is dropped -/
theorem unbind_ok {X : Cx} {pins : List (Addr × Obj)} {σ : St} {H : Hp} {s : Shared} {i : Nat} {x : Str} {pos : Pos} {A : Around} {E : Value → Shared → Prop} {Q : Unit → Shared → Prop} (I : Inv X pins σ H s) (hN : X.N.Nodup) (hi : X.N[i]? = some x) (hx : X.env.scope.names.lookup x = some .local)
    (h : ∀ s', Inv X pins (σ.set i none) H s' → Q () s') : wpAny (model X.prog X.w) A (do bindName X.env x .none; unbindBehindTheSuite X.env x pos) Q E s := by
  have hil : i < X.N.length := (List.getElem?_eq_some_iff.mp hi).1
  refine wpAny_bind (wpAny_bindName (store_ok2 (v := .non) I hN hi (.inl hx) rfl (fun s1 I1 _ => ?_) (.inr hx)))
  obtain ⟨m, hn, hl⟩ := id I1.loc
  obtain ⟨u, _, lk⟩ := hl i x .non hi (by rw [List.getElem?_set_self (by rw [I.len]; exact hil)]) (.inl hx)
  have hv : m x = some u := by
    rcases lk with ⟨_, z⟩ | ⟨k, _⟩
    · exact z
    · have hx' : X.env.kindOf x = some .local := hx
      rw [hx'] at k
      rcases k with k | k <;> cases k
  unfold unbindBehindTheSuite
  refine wpAny_onRaise (wpAny_unbindName_local hx hn hv (by rw [I.ok.kind]; rfl) fun h' u' hn' sb => ?_)
  have J := I1.drop hN hi hl hn' sb
  rw [List.set_set] at J
  exact h _ J
end L2

set_option Elab.async false
set_option linter.all false
set_option maxRecDepth 100000
/-! try .. except C as e. -/
namespace L2
open PySem PySem.Spec PyProof.Rows PySem.Calls PySem.W
theorem Inv.back {X : Cx} {A : Around} {xe : Value → Shared → Prop} {pins : List (Addr × Obj)} {σ : St} {H : Hp} {s : Shared} (I : Inv ((X.un A).wish xe) pins σ H s) (ok : X.Ok) : Inv X pins σ H s :=
  ⟨ok, I.os, I.bare, I.base, I.loc, I.cell, I.free, I.freeC, I.pin, I.hok, I.len⟩
def endsX (D : Ends) (i : Nat) : Ends := { nx := fun σ H => D.nx (σ.set i none) H, rt := D.rt, ct := fun σ H => D.ct (σ.set i none) H, bk := fun σ H => D.bk (σ.set i none) H }
def tTry (n i : Nat) (ok : Addr → Prop) (tb : (Addr → Addr → Hp → Prop) → TS) (th : TS) : TS := fun D σ H =>
  tb (fun a C H' => ok C ∧ ∀ σ' : St, σ'.length = n → H' a = none → th (endsX D i) (σ'.set i (some (.ref a))) (upd H' a (.ext (excAt a C)))) D σ H
theorem ps_try {X : Cx} {y n : Str} {Dc : Addr} {i : Nat} {np hpos pos : Pos} {body suite : List Stmt} {b₀ : Stmt} {tb : (Addr → Addr → Hp → Prop) → TS} {th : TS} (hm : X.mg y = some (.ref Dc)) (hg : Gl X y) (hN : X.N.Nodup) (hi : X.N[i]? = some n) (hl : X.env.scope.names.lookup n = some .local) (hx : X.ex = []) (hs : X.stack = X.env :: X.outer)
    (hbody : ∀ pins xe EX, Wish (X.tr pins xe) EX → PSs (X.tr pins xe) body (tb EX)) (hsuite : ∀ v : Option Value, PSs ((X.un (X.A.mark v)).nox) (b₀ :: suite) th) (hdb : (y == ("__debug__" : Str)) = false := by decide) :
    PS X (.Try body [.ExceptHandler (some (.Name y np)) (some n) (b₀ :: suite) hpos] [] [] pos) (tTry X.N.length i (fun C => CatchC X.K C Dc) tb th) := by
  intro pins s σ H D I h
  refine wpAny_Try_except ?_
  have W : Wish (X.tr pins fun e s₁ => wpAny (model X.prog X.w) X.A (noteFrame e X.env) (fun _ s₂ => wpAny (model X.prog X.w) X.A (setFlight e none) (fun _ s₃ => wpAny (model X.prog X.w) X.A (handleBy e X.env [.ExceptHandler (some (.Name y np)) (some n) (b₀ :: suite) hpos]) (SP X pins D) X.xe s₃) X.xe s₂) X.xe s₁)
      (fun a C H' => CatchC X.K C Dc ∧ ∀ σ' : St, σ'.length = X.N.length → H' a = none → th (endsX D i) (σ'.set i (some (.ref a))) (upd H' a (.ext (excAt a C)))) := by
    intro pins' σ1 H1 s1 a C tb' I1 fl na fa ft hp q
    obtain ⟨Z, q⟩ := q
    have J := I1.untr
    have hfr : X.A.frames = some (X.env :: X.outer) := by rw [← hs]; exact J.ok.frames
    have hst : s1.heap.FunFrames X.base (X.env :: X.outer) := by rw [← hs]; exact J.stack
    have hff : X.env.frame = some X.env.locals := by
      rcases J.ok.stk with z | z
      · exact absurd (congrArg List.length (hs.symm.trans z)) (by simp)
      · exact z.2
    have hp2 : ∀ p ∈ X.pn ++ pins, p.1 ≠ a ∧ tb' ≠ .ref p.1 := fun p hpm => hp p (List.mem_append_left _ hpm)
    show wpAny (model X.prog X.w) X.A (noteFrame (.ref a) X.env) _ X.xe s1
    refine note_st hfr hst hff fl fun h' T nT fl' k1 k2 k3 => ?_
    have J2 : Inv X pins σ1 H1 { s1 with heap := h' } := J.left (t' := s1.toks) hx fl na fa ft hp2 (by rw [hs]; exact k1) k2 k3
    have tf : ∀ T', Value.ref T = .ref T' → X.s₀.heap.get? T' = none ∧ H1 T' = none := fun T' z => by
      cases z
      exact ⟨J.was hx nT, J.hok.no nT⟩
    have hp3 : ∀ p ∈ X.pn ++ pins, p.1 ≠ a ∧ Value.ref T ≠ .ref p.1 := fun p hpm => ⟨(hp2 p hpm).1, fun z => by
      cases z
      obtain ⟨e, _⟩ := J.pin p hpm
      rw [nT] at e
      cases e⟩
    obtain ⟨oe, vs, he, hc, hd, _, hdd⟩ := fl'.obj
    have inst : excAt a C h' := ⟨oe, vs, he, hc, hd, hdd⟩
    refine wpAny_handleBy_cons (codeAny_handlers_test ?_) (by intro q; cases q)
    have J4 := J2.un' (X.A.mark (some (.ref a))) rfl
    refine ld_glob (X := X.un (X.A.mark (some (.ref a)))) J4 hg hm ?_ hdb
    obtain ⟨ox, ix⟩ := inst.inst
    refine exc_matches (s := { s1 with heap := h' }) J2.kIn ix Z ?_
    show codeAny _ _ (.handlers (.ref a) [.ExceptHandler none (some n) (b₀ :: suite) hpos] X.env) _ _
    refine codeAny_handlers_suite_as ?_
    refine flight_st (s := { s1 with heap := h' }) fl' fun h2 fl2 j1 j2 => ?_
    have J5 : Inv X pins σ1 H1 { s1 with heap := h2 } := J2.left (t' := s1.toks) hx fl' na fa tf hp3 (fun b o e _ hb _ => j1 b o e hb) (fun b o e _ hb => ⟨o.slots, j1 b o e hb⟩) j2
    obtain ⟨oe2, vs2, he2, hc2, hd2, _, hdd2⟩ := fl2.obj
    have inst2 : excAt a C h2 := ⟨oe2, vs2, he2, hc2, hd2, hdd2⟩
    have hLa : a ≠ X.env.locals := by
      obtain ⟨m, ⟨o, es, ep, ho, hdt, _⟩, _⟩ := J5.loc
      exact Ne.symm (fl2.ne ho fun vs q => by rw [hdt] at q; cases q).1
    have hca : ∀ x c, X.env.cells.lookup x = some c → c ≠ a := fun x c e => by
      obtain ⟨v, o, ho, hdt⟩ := J5.cell x c e
      exact (fl2.ne ho fun vs q => by rw [hdt] at q; cases q).1
    have J6 := J5.track (o := .ext (excAt a C)) hx fa na hLa hca (fun p hpm => (hp2 p hpm).1) (excAt.ok inst2)
    refine store_ok2 (v := .ref a) J6 hN hi (.inl hl) rfl (fun s6 I6 _ => ?_) (.inr hl)
    have hw := q σ1 J.len fa
    refine wpAny_mono (hsuite (some (.ref a)) pins s6 _ _ (endsX D i) ((I6.un' (X.A.mark (some (.ref a))) rfl).wish _) hw) (fun f s7 sp => ?_) fun e s' z => z.elim
    show wpAny (model X.prog X.w) X.A (do bindName X.env n .none; unbindBehindTheSuite X.env n hpos) (fun _ s₃ => SP X pins D f s₃) X.xe s7
    cases f with
    | ret u =>
      obtain ⟨v, σ', H', K', rv, qq⟩ := sp
      exact unbind_ok (K'.back J.ok) hN hi hl fun s' K2 => ⟨v, _, H', K2, rv, qq⟩
    | next =>
      obtain ⟨σ', H', K', qq⟩ := sp
      exact unbind_ok (K'.back J.ok) hN hi hl fun s' K2 => ⟨_, H', K2, qq⟩
    | brk =>
      obtain ⟨σ', H', K', qq⟩ := sp
      exact unbind_ok (K'.back J.ok) hN hi hl fun s' K2 => ⟨_, H', K2, qq⟩
    | cont =>
      obtain ⟨σ', H', K', qq⟩ := sp
      exact unbind_ok (K'.back J.ok) hN hi hl fun s' K2 => ⟨_, H', K2, qq⟩
  have hb := hbody pins _ _ W [] s σ H D (I.tr _) h
  refine wpAny_mono hb (fun f s1 sp => ?_) fun e s1 z => z
  cases f with
  | ret u =>
    obtain ⟨v, σ', H', K', rv, qq⟩ := sp
    exact ⟨v, σ', H', K'.untr, rv, qq⟩
  | next =>
    obtain ⟨σ', H', K', qq⟩ := sp
    exact wpAny_execs_nil ⟨σ', H', K'.untr, qq⟩
  | brk =>
    obtain ⟨σ', H', K', qq⟩ := sp
    exact ⟨σ', H', K'.untr, qq⟩
  | cont =>
    obtain ⟨σ', H', K', qq⟩ := sp
    exact ⟨σ', H', K'.untr, qq⟩
end L2

set_option Elab.async false
set_option linter.all false
set_option maxRecDepth 100000
/-! l.count(True), l.index(True) of a list of truths. -/
namespace L2
open PySem PySem.Spec PyProof.Rows PySem.Calls
theorem eqg_bool (a b : Bool) : MeetsSeq.EqGives (.bool a) (.bool b) (a == b) := fun prog w A E s Q h => PySem.SeqAt.EqAt.bool_bool (A := A) (s := s) a b prog w E Q h
def isB (k : Bool) : Value → Bool
  | .bool n => n == k
  | _ => false
theorem count_bools (bs : List Bool) (k : Bool) : ((bs.map Value.bool).toArray.toList.countP (isB k)) = bs.count k := by
  rw [List.toList_toArray, List.countP_map]
  rfl
def rCountB : V → List V → Hp → VK → Prop := fun x vs H Q => ∃ (l : Addr) (bs : List Bool) (k : Bool), x = .ref l ∧ vs = [.bl k] ∧ H l = some (.lst (bs.map V.bl)) ∧ Q (.int (bs.count k : Nat)) H
section
variable {X : Cx}
theorem mt_countB : MtM X "list.count" rCountB := by
  intro pins s σ H x vs v us Q I rx rv h
  obtain ⟨l, bs, k, rfl, rfl, hH, q⟩ := h
  cases rx
  obtain ⟨u, rfl, ru⟩ := vals1 rv
  cases (show u = Value.bool k from ru)
  obtain ⟨z, its, n, r, hl, e⟩ := I.lstM hH
  have ei : its = bs.map Value.bool := vals_bools r
  subst ei
  refine call_meets F.slot_list_count ⟨_, e, rfl⟩ F.entry_list_count (F.args_list_count_2 _ _) (MeetsSeq.list_count l (bs.map Value.bool).toArray n (.bool k) (isB k) (fun y hy => ?_)) ⟨e, ?_⟩
  · obtain ⟨b, _, rfl⟩ := List.mem_map.mp (show y ∈ bs.map Value.bool by simpa using hy)
    exact eqg_bool b k
  · refine ⟨.int (bs.count k : Nat), H, I.tok _, ⟨s.toks, ?_⟩, q⟩
    rw [count_bools]
def rIndexB : V → List V → Hp → VK → Prop := fun x vs H Q => ∃ (l : Addr) (bs : List Bool) (k : Bool) (j : Nat), x = .ref l ∧ vs = [.bl k] ∧ H l = some (.lst (bs.map V.bl)) ∧ bs[j]? = some k ∧ (∀ i, i < j → bs[i]? ≠ some k) ∧ Q (.int j) H
theorem mt_indexB : MtM X "list.index" rIndexB := by
  intro pins s σ H x vs v us Q I rx rv h
  obtain ⟨l, bs, k, j, rfl, rfl, hH, hj, hno, q⟩ := h
  cases rx
  obtain ⟨u, rfl, ru⟩ := vals1 rv
  cases (show u = Value.bool k from ru)
  obtain ⟨z, its, n, r, hl, e⟩ := I.lstM hH
  have ei : its = bs.map Value.bool := vals_bools r
  subst ei
  rw [List.length_map] at z
  rw [sizeLine_eq] at z
  have hjl := (List.getElem?_eq_some_iff.mp hj).1
  have gt : ∀ m (hm : m < (bs.map Value.bool).toArray.size), (bs.map Value.bool).toArray[m] = Value.bool (bs[m]'(by simpa using hm)) := fun m hm => by simp
  refine call_meets F.slot_list_index ⟨_, e, rfl⟩ F.entry_list_index (F.args_list_index_2 _ _) (MeetsSeq.list_index l (bs.map Value.bool).toArray n (.bool k) (isB k) (fun y hy => ?_) j (by simpa using hjl) (by omega) ?_ fun m hm hlt => ?_) ⟨e, ⟨.int j, H, I.tok _, ⟨_, rfl⟩, q⟩⟩
  · obtain ⟨b, _, rfl⟩ := List.mem_map.mp (show y ∈ bs.map Value.bool by simpa using hy)
    exact eqg_bool b k
  · rw [gt, (List.getElem?_eq_some_iff.mp hj).2]
    exact beq_self_eq_true k
  · rw [gt]
    refine beq_false_of_ne fun c => hno m hlt ?_
    rw [List.getElem?_eq_getElem (by simpa using hm), c]
end
end L2

set_option Elab.async false
set_option linter.all false
set_option maxRecDepth 100000
/-! objects held fast through a call (a lambda's cells), and let go again. -/
namespace L2
open PySem PySem.Spec PyProof.Rows PySem.Calls
def er (H : Hp) (cs : List (Addr × Obj)) : Hp := fun b => if (cs.lookup b).isSome = true then none else H b
def fz (H : Hp) (cs : List (Addr × Obj)) : Hp := fun b => match cs.lookup b with
  | some o => some (.frz o (.ext fun _ => True))
  | none => H b
section
variable {P : Program} {w : World} {H H' : Hp} {h h' : Heap} {cs : List (Addr × Obj)} {fs : List Addr}
theorem fz_at {b : Addr} {o : Obj} (e : cs.lookup b = some o) : fz H cs b = some (.frz o (.ext fun _ => True)) := by unfold fz; rw [e]
theorem fz_ne {b : Addr} (e : cs.lookup b = none) : fz H cs b = H b := by unfold fz; rw [e]
theorem er_at {b : Addr} {o : Obj} (e : cs.lookup b = some o) : er H cs b = none := by unfold er; rw [e]; rfl
theorem er_ne {b : Addr} (e : cs.lookup b = none) : er H cs b = H b := by unfold er; rw [e]; rfl
/-- what stands there, untracked -/
def Loose (H : Hp) (h : Heap) (fs : List Addr) (cs : List (Addr × Obj)) : Prop := ∀ b o, cs.lookup b = some o → h.get? b = some o ∧ H b = none ∧ b ∉ fs
theorem Loose.no {b : Addr} {u : HO} (L : Loose H h fs cs) (e : H b = some u) : cs.lookup b = none := by
  cases q : cs.lookup b with
  | none => rfl
  | some o =>
    rw [(L b o q).2.1] at e
    cases e
theorem HOk.fz (x : HOk P w H h) (L : Loose H h fs cs) : HOk P w (L2.fz H cs) h := fun b u e => by
  cases q : cs.lookup b with
  | some o =>
    rw [fz_at q] at e
    cases e
    have g := (L b o q).1
    exact ⟨g, trivial, ⟨o, g⟩, fun _ _ _ _ => trivial⟩
  | none =>
    rw [fz_ne q] at e
    exact (x b u e).stay (fun _ _ _ z => z) (fun c z => by rw [fz_ne (L.no z)]; exact z) fun c xs z => by rw [fz_ne (L.no z)]; exact z
theorem HOk.er (x : HOk P w H' h') (fr : ∀ b o, cs.lookup b = some o → H' b = some (.frz o (.ext fun _ => True))) : HOk P w (L2.er H' cs) h' := fun b u e => by
  cases q : cs.lookup b with
  | some o =>
    rw [er_at q] at e
    cases e
  | none =>
    rw [er_ne q] at e
    have no : ∀ c u, (∀ o, u ≠ HO.frz o (.ext fun _ => True)) → H' c = some u → cs.lookup c = none := fun c u hu z => by
      cases q : cs.lookup c with
      | none => rfl
      | some o =>
        rw [fr c o q] at z
        cases z
        exact absurd rfl (hu o)
    exact (x b u e).stay (fun _ _ _ z => z) (fun c z => by rw [er_ne (no c _ (fun o y => by cases y) z)]; exact z) fun c xs z => by rw [er_ne (no c _ (fun o y => by cases y) z)]; exact z
/-- held through a call -/
theorem Un.held (u : Un fs [] (fz H cs) H' h h') (ok : HOk P w H' h') (L : Loose H h fs cs) : Un fs [] H (er H' cs) h h' ∧ HOk P w (er H' cs) h' ∧ ∀ b o, cs.lookup b = some o → h'.get? b = some o := by
  have fr : ∀ b o, cs.lookup b = some o → H' b = some (.frz o (.ext fun _ => True)) := fun b o q => u.frzs b o _ (fz_at q)
  have kp : ∀ b o, cs.lookup b = some o → h'.get? b = some o := fun b o q => (ok b _ (fr b o q)).1
  have no : ∀ c v, (∀ o, v ≠ HO.frz o (.ext fun _ => True)) → H' c = some v → cs.lookup c = none := fun c v hv z => by
    cases q : cs.lookup c with
    | none => rfl
    | some o =>
      rw [fr c o q] at z
      cases z
      exact absurd rfl (hv o)
  refine ⟨⟨fun b o e n hb hx => ?_, fun b o e n hb hx => ?_, fun b o e n hx => ?_, u.there, fun b xs e => ?_, fun b o v e => ?_, fun b ps e => ?_⟩, ok.er fr, kp⟩
  · cases q : cs.lookup b with
    | some o' =>
      have := (L b o' q).1
      rw [e] at this
      cases this
      exact kp b o q
    | none => exact u.keep b o e (by rw [fz_ne q]; exact n) hb hx
  · cases q : cs.lookup b with
    | some o' => exact absurd hb (L b o' q).2.2
    | none => exact u.slot b o e (by rw [fz_ne q]; exact n) hb hx
  · cases q : cs.lookup b with
    | some o' => exact er_at q
    | none =>
      rw [er_ne q]
      exact u.free b o e (by rw [fz_ne q]; exact n) hx
  · have z := u.tups b xs (by rw [fz_ne (L.no e)]; exact e)
    rw [er_ne (no b _ (fun o y => by cases y) z)]
    exact z
  · have z := u.frzs b o v (by rw [fz_ne (L.no e)]; exact e)
    rw [er_ne (L.no e)]
    exact z
  · obtain ⟨m, z⟩ := u.tbls b ps (by rw [fz_ne (L.no e)]; exact e)
    exact ⟨m, by rw [er_ne (L.no e)]; exact z⟩
/-- let go through a call -/
theorem Un.loose {H1 : Hp} (u : Un fs [] (er H cs) H1 h h') (ok : HOk P w H1 h') (ok0 : HOk P w H h) (fr : ∀ b o, cs.lookup b = some o → H b = some (.frz o (.ext fun _ => True)) ∧ b ∉ fs) : Un fs [] H (fz H1 cs) h h' ∧ HOk P w (fz H1 cs) h' := by
  have at0 : ∀ b o, cs.lookup b = some o → h.get? b = some o := fun b o q => (ok0 b _ (fr b o q).1).1
  have kp : ∀ b o, cs.lookup b = some o → h'.get? b = some o := fun b o q => u.keep b o (at0 b o q) (er_at q) (fr b o q).2 (by simp)
  have nn : ∀ b o, cs.lookup b = some o → H1 b = none := fun b o q => u.free b o (at0 b o q) (er_at q) (by simp)
  have no : ∀ c v, (∀ o, v ≠ HO.frz o (.ext fun _ => True)) → H c = some v → cs.lookup c = none := fun c v hv z => by
    cases q : cs.lookup c with
    | none => rfl
    | some o =>
      rw [(fr c o q).1] at z
      cases z
      exact absurd rfl (hv o)
  refine ⟨⟨fun b o e n hb hx => ?_, fun b o e n hb hx => ?_, fun b o e n hx => ?_, u.there, fun b xs e => ?_, fun b o v e => ?_, fun b ps e => ?_⟩, ok.fz (fs := fs) fun b o q => ⟨kp b o q, nn b o q, (fr b o q).2⟩⟩
  · cases q : cs.lookup b with
    | some o' =>
      rw [(fr b o' q).1] at n
      cases n
    | none => exact u.keep b o e (by rw [er_ne q]; exact n) hb hx
  · cases q : cs.lookup b with
    | some o' => exact absurd hb (fr b o' q).2
    | none => exact u.slot b o e (by rw [er_ne q]; exact n) hb hx
  · cases q : cs.lookup b with
    | some o' =>
      rw [(fr b o' q).1] at n
      cases n
    | none =>
      rw [fz_ne q]
      exact u.free b o e (by rw [er_ne q]; exact n) hx
  · have q := no b _ (fun o y => by cases y) e
    rw [fz_ne q]
    exact u.tups b xs (by rw [er_ne q]; exact e)
  · cases q : cs.lookup b with
    | some o' =>
      have z := (fr b o' q).1
      rw [e] at z
      cases z
      exact fz_at q
    | none =>
      rw [fz_ne q]
      exact u.frzs b o v (by rw [er_ne q]; exact e)
  · have q := no b _ (fun o y => by cases y) e
    obtain ⟨m, z⟩ := u.tbls b ps (by rw [er_ne q]; exact e)
    exact ⟨m, by rw [fz_ne q]; exact z⟩
end
end L2

set_option Elab.async false
set_option linter.all false
set_option maxRecDepth 100000
/-! a lambda's object is called. -/
namespace L2
open PySem PySem.Spec PyProof.Rows PySem.Calls PySem.W
/-- the frame of a lambda -/
def envL (fd : FuncData) (fl L : Addr) : Env := newEnv fd.scope L fd.globals fd.closure (fd.qualname ++ ".<locals>.") (some fl) fd.code none fd.builtins
/-- its context: all of its names are free -/
def cxL (P : Program) (w : World) (K : Frag) (mg : Str → Option Value) (base : Heap) (N : List Str) (fd : FuncData) (fl : Addr) (A : Around) (outer : List Env) (s : Shared) (H : Hp) (E : XK) : Cx where
  prog := P
  w := w
  K := K
  mg := mg
  base := base
  A := A.deeper (envL fd fl s.heap.objs.size)
  N := N
  s₀ := s
  H₀ := H
  env := envL fd fl s.heap.objs.size
  outer := outer
  stack := envL fd fl s.heap.objs.size :: outer
  ex := []
  calm := true
  fn := fun _ => false
  pn := []
  xe := fun e s' => wpAny (model P w) (A.deeper (envL fd fl s.heap.objs.size)) (leaving (envL fd fl s.heap.objs.size) e) (fun _ s'' => CX1 P w outer H s E e s'') (fun e' s'' => CX1 P w outer H s E e' s'') s'
/-- what is known of a lambda's object: its names are free, its cells hold us -/
structure LamAt (fd : FuncData) (body : Expr) (N : List Str) : Prop where
  bd : fd.body = .expr body
  gl : fd.globals = mainGlobals
  bl : fd.builtins = builtinsNs
  kd : fd.scope.kind = .function
  co : fd.scope.isCoroutine = false
  ge : fd.scope.isGenerator = false
  fr : ∀ p ∈ fd.scope.names, p.2 ≠ .cell
  fl : ∀ x, fd.scope.names.lookup x = some .free → ∃ c, fd.closure.lookup x = some c
  nd : ∀ x y c, fd.closure.lookup x = some c → fd.closure.lookup y = some c → x = y
  ba : bindArgs fd ⟨[], []⟩ = pure []
  nm : ∀ x ∈ N, fd.scope.names.lookup x = some .free
theorem inv_lam {P : Program} {w : World} {K : Frag} {mg : Str → Option Value} {base : Heap} {N : List Str} {fd : FuncData} {fl : Addr} {A : Around} {outer : List Env} {s : Shared} {H : Hp} {E : XK} {body : Expr} {vs : List V} {h1 : Heap} {tk : Nat}
    (Z : LamAt fd body N) (hd : A.handled = none) (e0 : Env0 P w K mg base A outer s H) (hn : h1.Ns s.heap.objs.size fun x => ([] : List (Str × Value)).reverse.lookup x) (hk : ∀ b o, s.heap.get? b = some o → h1.get? b = some o)
    (cell : ∀ x c, fd.closure.lookup x = some c → H c = none ∧ ∃ v, s.heap.IsCell c v) (val : ∀ (i : Nat) (x : Str) (v : V), N[i]? = some x → vs[i]? = some v → ∃ c u, fd.closure.lookup x = some c ∧ RelV v u ∧ s.heap.IsCell c (some u)) (hl : vs.length = N.length) :
    Inv (cxL P w K mg base N fd fl A outer s H E) [] (vs.map some) H { s with heap := h1, toks := tk } := by
  have ck : ∀ c v, s.heap.IsCell c v → h1.IsCell c v := fun c v ⟨o, ho, z⟩ => ⟨o, hk c o ho, z⟩
  refine ⟨⟨e0.mod, Z.kd, Z.gl, Z.bl, Nat.le_refl _, Z.nd, fun x hx => ?_, fun x c z => (by cases z), fun _ => hd, Around.frames_deeper e0.frames, .inr ⟨rfl, rfl⟩, fun b z => absurd (show b ∈ ([] : List Addr) from z) (by simp), e0.bs, e0.bsz, fun b _ _ z => absurd (show b ∈ ([] : List Addr) from z) (by simp), fun b z => absurd (show b ∈ ([] : List Addr) from z) (by simp), e0.funs, e0.frf⟩,
    rfl, e0.bare, Un.kept hk, ⟨_, hn, fun i x v e1 e2 e3 => ?_⟩, fun x c e => ?_, e0.hok.fresh (Nat.le_refl _), fun x c e => (cell x c e).1, fun p hp => absurd (show p ∈ ([] : List (Addr × Obj)) from hp) (by simp), e0.hok.kept hk, by rw [List.length_map]; exact hl⟩
  · rcases hx with hx | hx
    · exact absurd rfl (Z.fr _ (PySem.mem_of_lookup (show fd.scope.names.lookup x = some .cell from hx)))
    · exact Z.fl x hx
  · rw [List.getElem?_map] at e2
    cases q : vs[i]? with
    | none => rw [q] at e2; cases e2
    | some v' =>
      rw [q] at e2
      have e2 : v' = v := by simpa using e2
      subst e2
      obtain ⟨c, u, ec, r, z⟩ := val i x v' e1 q
      exact ⟨u, r, .inr ⟨.inr (Z.nm x (List.mem_of_getElem? e1)), c, ec, ck c _ z⟩⟩
  · obtain ⟨_, v, z⟩ := cell x c e
    exact ⟨v, ck c v z⟩
theorem wish_lam {P : Program} {w : World} {K : Frag} {mg : Str → Option Value} {base : Heap} {N : List Str} {fd : FuncData} {fl : Addr} {A : Around} {outer : List Env} {s : Shared} {H : Hp} {E : XK} :
    Wish (cxL P w K mg base N fd fl A outer s H E) fun a C H' => E (.ref a) (some C) H' := by
  intro pins σ H' s' a C tb I fly na fa ft _ q
  show wpAny (model P w) (A.deeper (envL fd fl s.heap.objs.size)) (leaving (envL fd fl s.heap.objs.size) (.ref a)) (fun _ s'' => CX1 P w outer H s E (.ref a) s'') (fun e' s'' => CX1 P w outer H s E e' s'') s'
  have hst : s'.heap.FunFrames base (envL fd fl s.heap.objs.size :: outer) := I.stack
  have hfr : (A.deeper (envL fd fl s.heap.objs.size)).frames = some (envL fd fl s.heap.objs.size :: outer) := I.ok.frames
  have hff : (envL fd fl s.heap.objs.size).frame = some s.heap.objs.size := rfl
  have ub : Un (frs outer) [] H H' s.heap s'.heap := I.base
  have na : s.heap.get? a = none := na
  have ft : ∀ T, tb = .ref T → s.heap.get? T = none ∧ H' T = none := ft
  refine leave_st hfr hst hff fly fun h' T nT fl' k1 k2 k3 => ?_
  have apart : ∀ b o, s.heap.get? b = some o → b ≠ a ∧ tb ≠ .ref b := fun b o e => ⟨fun z => (by rw [z, na] at e; cases e), fun z => (by rw [(ft b z).1] at e; cases e)⟩
  have nfr : ∀ b o, s.heap.get? b = some o → b ∉ frs outer → b ∉ frs (envL fd fl s.heap.objs.size :: outer) := fun b o e hn hm => by
    unfold frs at hm
    rw [List.filterMap_cons, hff] at hm
    rcases List.mem_cons.mp hm with z | z
    · exact absurd (Heap.lt_size e) (by rw [z]; exact Nat.lt_irrefl _)
    · exact hn z
  refine ⟨a, C, H', T, rfl, I.os, I.bare, ⟨fun b o e n hb _ => ?_, fun b o e n hb _ => ?_, ub.free, fun b o e hx => ?_, ub.tups, ub.frzs, ub.tbls⟩, fun c o e => ?_, na, ?_, fa, I.hok.no nT, fl', q⟩
  · exact k1 b o (ub.keep b o e n hb (by simp)) (apart b o e).1 (apart b o e).2 (nfr b o e hb)
  · obtain ⟨sl, e1⟩ := ub.slot b o e n hb (by simp)
    obtain ⟨sl2, e2⟩ := k2 b _ e1 (apart b o e).1 (apart b o e).2
    exact ⟨sl2, e2⟩
  · obtain ⟨o', e1⟩ := ub.there b o e hx
    exact k3 b o' e1
  · refine (I.hok c o e).stay (fun d v hd z => ?_) (fun _ z => z) fun _ _ z => z
    have hHd : ∃ o', H' d = some o' := by
      rcases hd with z | z
      · exact ⟨o, by rw [z]; exact e⟩
      · exact ⟨_, z⟩
    obtain ⟨o', eo⟩ := hHd
    refine k1 d v z (fun y => (by rw [y, fa] at eo; cases eo)) (fun y => (by rw [(ft d y).2] at eo; cases eo)) fun hm => ?_
    rw [I.stkFree d hm] at eo
    cases eo
  · exact I.was rfl nT
/-- none of them tracked -/
abbrev NoC (cs : List (Addr × Obj)) (H : Hp) : Prop := ∀ b o, cs.lookup b = some o → H b = none
/-- what left with the cells let go, with them held again -/
theorem CX1.loose {P : Program} {w : World} {outer : List Env} {H : Hp} {s s' : Shared} {E : XK} {e : Value} {cs : List (Addr × Obj)} (ok0 : HOk P w H s.heap) (fr : ∀ b o, cs.lookup b = some o → H b = some (.frz o (.ext fun _ => True)) ∧ b ∉ frs outer)
    (x : CX1 P w outer (er H cs) s (fun e C H1 => NoC cs H1 → E e C (fz H1 cs)) e s') : CX1 P w outer H s E e s' := by
  obtain ⟨a, C, H1, T, rfl, os, bare, un, ok, na, nT, fa, fT, fly, q⟩ := x
  obtain ⟨u, k⟩ := un.loose ok ok0 fr
  have no : ∀ b, s.heap.get? b = none → cs.lookup b = none := fun b z => by
    cases y : cs.lookup b with
    | none => rfl
    | some o =>
      have := (ok0 b _ (fr b o y).1).1
      rw [z] at this
      cases this
  exact ⟨a, C, _, T, rfl, os, bare, u, k, na, nT, by rw [fz_ne (no a na)]; exact fa, by rw [fz_ne (no T nT)]; exact fT, fly, q fun b o z => un.free b o (ok0 b _ (fr b o z).1).1 (er_at z) (by simp)⟩
/-- a lambda's object is called -/
theorem lam_run {P : Program} {w : World} {K : Frag} {mg : Str → Option Value} {base : Heap} {N : List Str} {fd : FuncData} {fl : Addr} {ob : Obj} {A : Around} {outer : List Env} {s : Shared} {H : Hp} {Q : VK} {E : XK} {body : Expr} {vs : List V} {cs : List (Addr × Obj)} {te : TE} {k : Nat}
    (Z : LamAt fd body N) (hr : Room k A) (e0 : Env0 P w K mg base A outer s H) (hfl : s.heap.get? fl = some ob) (hdt : ob.data = .func fd) (hcd : s.heap.CodeRec fd.code fd.qualname)
    (fr : ∀ b o, cs.lookup b = some o → H b = some (.frz o (.ext fun _ => True)) ∧ b ∉ frs outer) (cell : ∀ x c, fd.closure.lookup x = some c → ∃ o v, cs.lookup c = some o ∧ o.data = .cell v)
    (val : ∀ (i : Nat) (x : Str) (v : V), N[i]? = some x → vs[i]? = some v → ∃ c u o, fd.closure.lookup x = some c ∧ RelV v u ∧ cs.lookup c = some o ∧ o.data = .cell (some u)) (hl : vs.length = N.length)
    (hte : PE (cxL P w K mg base N fd fl A outer s (er H cs) (fun e C H1 => NoC cs H1 → E e C (fz H1 cs))) body te) (h : te (vs.map some) (er H cs) fun v H1 => NoC cs H1 → Q v (fz H1 cs)) :
    codeAny (model P w) A (.call (.ref fl) ⟨[], []⟩) (CR (CX1 P w) outer P w H s Q E) s := by
  have at0 : ∀ b o, cs.lookup b = some o → s.heap.get? b = some o := fun b o q => (e0.hok b _ (fr b o q).1).1
  have er0 : ∀ b, H b = none → er H cs b = none := fun b z => by
    cases q : cs.lookup b with
    | some o => exact er_at q
    | none => rw [er_ne q]; exact z
  have e1 : Env0 P w K mg base A outer s (er H cs) := ⟨e0.frames, e0.mod, fun b o e => ⟨(e0.bs b o e).1, er0 b (e0.bs b o e).2⟩, e0.bsz, e0.funs, fun b hb => er0 b (e0.frf b hb), e0.hok.er fun b o q => (fr b o q).1, e0.bare⟩
  refine kla_callFunE (by have := hr.dp; omega) hfl hdt Z.co Z.ge Z.bd hcd ?_
  rw [Z.ba]
  refine wpAny_pure (wpAny_newFunctionEnv Z.fr (fun x hx => absurd hx (by simp)) (fun h1 hn sb => ?_) Z.kd)
  have hk : ∀ b o, s.heap.get? b = some o → h1.get? b = some o := fun b o e => (sb.2 b (Nat.ne_of_lt (Heap.lt_size e))).trans (Heap.get?_push_of_some _ e)
  refine ⟨(e0.mod.nolimit.keeps fun b o e => (e0.bs b o e).1).keeps hk, ?_⟩
  have I := inv_lam (fl := fl) (E := fun e C H1 => NoC cs H1 → E e C (fz H1 cs)) (tk := s.toks + 0) Z hr.hd e1 hn hk (fun x c e => (let ⟨o, v, q, d⟩ := cell x c e; ⟨er_at q, v, o, at0 c o q, d⟩)) (fun i x v e1 e2 => (let ⟨c, u, o, a1, a2, a3, a4⟩ := val i x v e1 e2; ⟨c, u, a1, a2, o, at0 c o a3, a4⟩)) hl
  refine kla_codeExpr (wpAny_mono (hte [] _ _ _ _ I h) (fun u s' hv => ?_) fun e s' hx => ?_)
  · obtain ⟨v, H1, J, r, q⟩ := hv
    obtain ⟨un, k⟩ := Un.loose (fs := frs outer) J.base J.hok e0.hok fr
    exact ⟨v, fz H1 cs, J.os, J.bare, un, k, r, q fun b o z => Un.free (fs := frs outer) (ex := []) J.base b o (at0 b o z) (er_at z) (by simp)⟩
  · exact wpAny_mono hx (fun _ s'' z => CX1.loose e0.hok fr z) fun e' s'' z => CX1.loose e0.hok fr z
end L2

set_option Elab.async false
set_option linter.all false
set_option maxRecDepth 100000
/-! f() of a lambda that a name holds. -/
namespace L2
open PySem PySem.Spec PyProof.Rows PySem.Calls PySem.W
abbrev held (o : Obj) : HO := .frz o (.ext fun _ => True)
/-- what a lambda's object and its code say -/
structure LamObj (H : Hp) (fl : Addr) (fd : FuncData) : Prop where
  ob : ∃ o, H fl = some (held o) ∧ o.data = .func fd
  cd : ∃ c oc vs t, fd.code = .ref c ∧ H c = some (held oc) ∧ oc.data = .fields vs ∧ vs[1]? = some (.str fd.qualname t)
def tLam (X : Cx) (i : Nat) (E : XK) : TE := fun σ H Q => ∃ (fl : Addr) (fd : FuncData) (body : Expr) (N : List Str) (vs : List V) (cs : List (Addr × Obj)) (te : TE), σ[i]? = some (some (.ref fl)) ∧ LamObj H fl fd ∧ LamAt fd body N ∧ (∀ b o, cs.lookup b = some o → H b = some (held o)) ∧ (∀ x c, fd.closure.lookup x = some c → ∃ o v, cs.lookup c = some o ∧ o.data = .cell v) ∧
  (∀ (i : Nat) (x : Str) (v : V), N[i]? = some x → vs[i]? = some v → ∃ c u o, fd.closure.lookup x = some c ∧ RelV v u ∧ cs.lookup c = some o ∧ o.data = .cell (some u)) ∧ vs.length = N.length ∧
  (∀ s, PE (cxL X.prog X.w X.K X.mg X.base N fd fl X.A X.stack s (er H cs) (fun e C H1 => NoC cs H1 → E e C (fz H1 cs))) body te) ∧ te (vs.map some) (er H cs) fun v H1 => NoC cs H1 → Q v (fz H1 cs)
theorem pe_lam {X : Cx} {i k : Nat} {x : Str} {p pos : Pos} {E : XK} (hr : Room k X.A) (hN : X.N[i]? = some x) (hv : Vis X.env.scope x) (W : Wish X fun a C H => E (.ref a) (some C) H) (hx : X.ex = []) (hd : (x == ("__debug__" : Str)) = false := by decide) (hcd : (x == ("__classdict__" : Str)) = false := by decide) :
    PE X (.Call (.Name x p) [] [] pos) (tLam X i E) := by
  intro pins s σ H Q I h
  obtain ⟨fl, fd, body, N, vs, cs, te, eσ, L, Z, fr, cell, val, hl, hte, q⟩ := h
  obtain ⟨o, ho, hdt⟩ := L.ob
  have hfl : s.heap.get? fl = some o := (I.hok fl _ ho).1
  refine wpAny_Call_Name_kw (thn (pe_var (pos := p) hN hv hd hcd pins s σ H (fun v H' => v = .ref fl ∧ H' = H) I ⟨_, eσ, rfl, rfl⟩) fun f s1 ⟨v, H1, I1, r1, z1, z2⟩ => ?_)
  subst z1 z2
  cases (show f = Value.ref fl from r1)
  have hfl : s1.heap.get? fl = some o := (I1.hok fl _ ho).1
  refine callWith_F0 (by obtain ⟨oc, od, dt, sl⟩ := o; exact ⟨oc, od, fd, sl, by rw [hfl]; exact congrArg some (by rw [show dt = Data.func fd from hdt])⟩) ?_
  obtain ⟨c, oc, ws, t, ec, hc, hcdt, hw⟩ := L.cd
  have hcr : s1.heap.CodeRec fd.code fd.qualname := ⟨c, oc, ws, t, ec, (I1.hok c _ hc).1, hcdt, hw⟩
  refine wpAny_call (codeAny_mono (lam_run (k := k) Z hr I1.env0 hfl hdt hcr (fun b ob e => ⟨fr b ob e, fun hm => ?_⟩) cell val hl (hte s1) q) fun r s' hq => ?_)
  · have := I1.stkFree b hm
    rw [fr b ob e] at this
    cases this
  · cases r with
    | error e => exact pass1 W hx pins σ _ s1 e s' I1 hq
    | ok fl' =>
      cases fl' with
      | ret u => exact I1.after hq
      | next => exact False.elim hq
      | brk => exact False.elim hq
      | cont => exact False.elim hq
end L2

set_option Elab.async false
set_option linter.all false
set_option maxRecDepth 100000
/-! a lambda is made, and given to a call. -/
namespace L2
open PySem PySem.Spec PyProof.Rows PySem.Calls PySem.W
/-- the code object of a lambda, tracked -/
def CodeAt (H : Hp) (c : Addr) (q : Str) : Prop := ∃ oc vs t, H c = some (held oc) ∧ oc.data = .fields vs ∧ vs[1]? = some (.str q t)
/-- a def's table: what lies in it are codes of lambdas -/
def TabOk (H : Hp) (P : Addr) (q : Str) : Prop := ∃ ps, H P = some (.tbl ps) ∧ TriplesOk ps.toList ∧ ∀ l : Pos, codeAmong l ps.toList = none ∨ ∃ c, codeAmong l ps.toList = some (.ref c) ∧ CodeAt H c q
theorem TabOk.keep {H H' : Hp} {P : Addr} {q : Str} (x : TabOk H P q) (kp : ∀ ps, H P = some (.tbl ps) → H' P = some (.tbl ps)) (kh : ∀ b o, H b = some (held o) → H' b = some (held o)) : TabOk H' P q := by
  obtain ⟨ps, e, t, h⟩ := x
  refine ⟨ps, kp ps e, t, fun l => ?_⟩
  rcases h l with z | ⟨c, z, oc, vs, t', y, r⟩
  · exact .inl z
  · exact .inr ⟨c, z, oc, vs, t', kh _ _ y, r⟩
theorem TabOk.same {H H' : Hp} {P : Addr} {q : Str} (x : TabOk H P q) (s : Same H H') : TabOk H' P q := x.keep (fun _ => s _ _) fun _ _ => s _ _
theorem among_app {l : Pos} {r : List Value} : ∀ (a : List Value), TriplesOk a → codeAmong l (a ++ r) = (codeAmong l a).orElse fun _ => codeAmong l r := fun a h => by
  fun_induction TriplesOk a with
  | case1 => simp [codeAmong]
  | case2 x t y u z rest ih =>
    simp only [List.cons_append, codeAmong]
    split
    · rfl
    · exact ih h
  | case3 a h1 h2 => exact h.elim
section
variable {P : Program} {w : World} {fs : List Addr} {H : Hp} {h h' : Heap} {T c fl : Addr} {ps more : Array Value} {oc ob : Obj}
theorem held_ok {H : Hp} {h : Heap} {b : Addr} {o : Obj} (e : h.get? b = some o) : ObjOk P w H h b (held o) := ⟨e, trivial, ⟨o, e⟩, fun _ _ _ _ => trivial⟩
theorem mk_un (hT : H T = some (.tbl ps)) (ok : HOk P w H h) (k : ∀ b o, b ≠ T → h.get? b = some o → h'.get? b = some o) (hp : h'.get? T = some (tabObj (ps ++ more))) (hc : h.objs.size ≤ c) (hf : h.objs.size ≤ fl) (hcf : c ≠ fl) (ec : h'.get? c = some oc) (ef : h'.get? fl = some ob) :
    Un fs [] H (upd (upd (upd H T (.tbl (ps ++ more))) c (held oc)) fl (held ob)) h h' ∧ HOk P w (upd (upd (upd H T (.tbl (ps ++ more))) c (held oc)) fl (held ob)) h' := by
  have nc := ok.fresh hc
  have nf := ok.fresh hf
  have lt : ∀ b u, H b = some u → b ≠ c ∧ b ≠ fl := fun b u e => ⟨ne_of_none e nc, ne_of_none e nf⟩
  have at1 : ∀ b u, b ≠ T → H b = some u → upd (upd (upd H T (.tbl (ps ++ more))) c (held oc)) fl (held ob) b = some u := fun b u n e => by
    rw [upd_ne (lt b u e).2, upd_ne (lt b u e).1, upd_ne n]
    exact e
  have atT : upd (upd (upd H T (.tbl (ps ++ more))) c (held oc)) fl (held ob) T = some (.tbl (ps ++ more)) := by
    rw [upd_ne (lt T _ hT).2, upd_ne (lt T _ hT).1, upd_same]
  have old : ∀ b o, h.get? b = some o → b ≠ c ∧ b ≠ fl := fun b o e => ⟨Nat.ne_of_lt (Nat.lt_of_lt_of_le (Heap.lt_size e) hc), Nat.ne_of_lt (Nat.lt_of_lt_of_le (Heap.lt_size e) hf)⟩
  refine ⟨⟨fun b o e n _ _ => k b o (fun z => (by rw [z, hT] at n; cases n)) e, fun b o e n _ _ => ⟨o.slots, k b o (fun z => (by rw [z, hT] at n; cases n)) e⟩, fun b o e n _ => ?_, fun b o e _ => ?_, fun b xs e => at1 b _ (fun z => (by rw [z, hT] at e; cases e)) e, fun b o u e => at1 b _ (fun z => (by rw [z, hT] at e; cases e)) e, fun b qs e => ?_⟩, fun b u e => ?_⟩
  · rw [upd_ne (old b o e).2, upd_ne (old b o e).1, upd_ne fun z => (by rw [z, hT] at n; cases n)]
    exact n
  · by_cases z : b = T
    · rw [z]
      exact ⟨_, hp⟩
    · exact ⟨o, k b o z e⟩
  · by_cases z : b = T
    · subst z
      rw [hT] at e
      cases e
      exact ⟨more, atT⟩
    · exact ⟨#[], by rw [Array.append_empty]; exact at1 b _ z e⟩
  · by_cases z1 : b = fl
    · subst z1
      rw [upd_same] at e
      cases e
      exact held_ok ef
    · rw [upd_ne z1] at e
      by_cases z2 : b = c
      · subst z2
        rw [upd_same] at e
        cases e
        exact held_ok ec
      · rw [upd_ne z2] at e
        by_cases z3 : b = T
        · subst z3
          rw [upd_same] at e
          cases e
          exact hp
        · rw [upd_ne z3] at e
          refine (ok b u e).stay (fun d v hd q => k d v (fun y => ?_) q) (fun d q => at1 d _ (fun y => (by rw [y, hT] at q; cases q)) q) fun d xs q => at1 d _ (fun y => (by rw [y, hT] at q; cases q)) q
          subst y
          rcases hd with y | y
          · exact z3 y.symm
          · rw [hT] at y
            cases y
end
/-- the lambda, made: its table may have grown -/
def tMk (T : Addr) (q : Str) (params : Arguments) (body : Expr) (scope : Scope) (cl : List (Str × Addr)) (N : List Str) : TE := fun _ H Q => TabOk H T q ∧
  ∀ fl pm cv ct H1, (∀ b o, b ≠ T → H b = some o → H1 b = some o) → TabOk H1 T q → H fl = none → LamObj H1 fl (kla_fn "<lambda>" q params body scope cl pm cv ct) → LamAt (kla_fn "<lambda>" q params body scope cl pm cv ct) body N → Q (.ref fl) H1
/-- what the lambda's own text says -/
structure LamTx (X : Cx) (params : Arguments) (body : Expr) (scope : Scope) (N : List Str) : Prop where
  df : defaultsOf params X.env = ([], [])
  kd : scope.kind = .function
  co : scope.isCoroutine = false
  ge : scope.isGenerator = false
  fr : ∀ p ∈ scope.names, p.2 ≠ .cell
  fl : ∀ p ∈ scope.names, p.2 = NameKind.free → X.env.kindOf p.1 = some .cell ∨ X.env.kindOf p.1 = some .free
  ba : ∀ qual cl pm cv ct, bindArgs (kla_fn "<lambda>" qual params body scope cl pm cv ct) ⟨[], []⟩ = pure []
  nm : ∀ x ∈ N, scope.names.lookup x = some .free
theorem pe_mklam {X : Cx} {T cc : Addr} {params : Arguments} {body : Expr} {scope : Scope} {lpos : Pos} {N : List Str} (Z : LamTx X params body scope N) (hcode : X.env.code = .ref cc) (hC : CodeHd X.base cc T) (hB : X.base.BuiltinsAt X.mg T) :
    PE X (.Lambda params body scope lpos) (tMk T (X.env.qual ++ "<lambda>") params body scope (clOf X.env.cells scope.names []) N) := by
  intro pins s σ H Q I h
  obtain ⟨⟨ps, hT, tr, am⟩, q⟩ := h
  have hs : ∀ p ∈ scope.names, p.2 = NameKind.free → (X.env.cells.lookup p.1).isSome = true := fun p hp e => by
    obtain ⟨c, z⟩ := I.ok.has p.1 (Z.fl p hp e)
    rw [z]
    rfl
  have lam : ∀ qual pm cv ct, LamAt (kla_fn "<lambda>" qual params body scope (clOf X.env.cells scope.names []) pm cv ct) body N := fun qual pm cv ct =>
    ⟨rfl, rfl, rfl, Z.kd, Z.co, Z.ge, Z.fr, fun x hx => clOf_has _ _ (.inl ⟨_, PySem.mem_of_lookup hx, rfl⟩), fun x y c h1 h2 => by
      rcases clOf_sub _ _ hs h1 with z | z
      · cases z
      · rcases clOf_sub _ _ hs h2 with z2 | z2
        · cases z2
        · exact I.ok.inj x y c z z2, Z.ba _ _ _ _ _, Z.nm⟩
  have hg := I.mod.glob.keeps I.bk
  have hP : s.heap.get? T = some (tabObj ps) := I.hok T _ hT
  have hgP : mainGlobals ≠ T := fun z => by
    obtain ⟨o, es, ep, e, _⟩ := I.mod.glob
    have := (I.bs _ _ e).2
    rw [z, hT] at this
    cases this
  have hb : s.heap.BuiltinsAt X.mg T := let ⟨bm, o, b1, b2, b3, b4, b5, r⟩ := hB; ⟨bm, o, b1, b2, b3, b4, I.bk _ _ b5, r⟩
  refine kla_eval Z.df ?_
  rcases am lpos with hn | ⟨c, hf, oc, vs, t, hc, hd, hv⟩
  · refine kla_makeFunction (mg := X.mg) (clos_eq hs) I.ok.glob hg hcode (hC.keeps I.bk) hP tr hn hgP hb fun c' ctv h' tk hx hge hlt hrec htb => ?_
    obtain ⟨c₂, oc, vs, t, e2, hoc, hd, hv⟩ := hrec
    cases e2
    obtain ⟨un, ok⟩ := mk_un (P := X.prog) (w := X.w) (fs := frs X.stack) (h' := h'.push (kla_obj "<lambda>" (X.env.qual ++ "<lambda>") params body scope (clOf X.env.cells scope.names []) ((X.mg "__name__").getD .none) c' ctv)) (fl := h'.objs.size) hT I.hok
      (fun b o n e => Heap.get?_push_of_some _ (hx b o n e)) (Heap.get?_push_of_some _ htb) hge (Nat.le_trans hge (Nat.le_of_lt hlt)) (Nat.ne_of_lt hlt) (Heap.get?_push_of_some _ hoc) (Heap.get?_push_size _ rfl)
    have J := I.call (ch := []) (g' := s.gens) (t' := tk) (d' := s.drawn) un ok I.bare fun b z => absurd z (by simp)
    have nc : H c' = none := I.hok.fresh hge
    have nf : H h'.objs.size = none := I.hok.fresh (Nat.le_trans hge (Nat.le_of_lt hlt))
    have kp : ∀ b o, b ≠ T → H b = some o → upd (upd (upd H T (.tbl (ps ++ #[rawInt lpos.line, rawInt lpos.col, .ref c']))) c' (held oc)) h'.objs.size (held (kla_obj "<lambda>" (X.env.qual ++ "<lambda>") params body scope (clOf X.env.cells scope.names []) ((X.mg "__name__").getD .none) c' ctv)) b = some o := fun b o n e => by
      rw [upd_ne (ne_of_none e nf), upd_ne (ne_of_none e nc), upd_ne n]
      exact e
    have cd : CodeAt (upd (upd (upd H T (.tbl (ps ++ #[rawInt lpos.line, rawInt lpos.col, .ref c']))) c' (held oc)) h'.objs.size (held (kla_obj "<lambda>" (X.env.qual ++ "<lambda>") params body scope (clOf X.env.cells scope.names []) ((X.mg "__name__").getD .none) c' ctv))) c' (X.env.qual ++ "<lambda>") :=
      ⟨oc, vs, t, by rw [upd_ne (Nat.ne_of_lt hlt), upd_same], hd, hv⟩
    refine ⟨.ref h'.objs.size, _, J, rfl, q _ ((X.mg "__name__").getD .none) (.ref c') ctv _ kp ⟨ps ++ #[rawInt lpos.line, rawInt lpos.col, .ref c'], ?_, ?_, fun l => ?_⟩ nf ⟨⟨_, upd_same, rfl⟩, ?_⟩ (lam _ _ _ _)⟩
    · rw [upd_ne (ne_of_none hT nf), upd_ne (ne_of_none hT nc), upd_same]
    · rw [Array.toList_append]
      exact TriplesOk_snoc _ _ _ _ tr
    · rw [Array.toList_append, among_app _ tr]
      rcases am l with z | ⟨c, z, oc2, vs2, t2, y, r⟩
      · rw [z]
        show codeAmong l [rawInt lpos.line, rawInt lpos.col, .ref c'] = none ∨ _
        simp only [codeAmong, rawInt]
        by_cases e : ((lpos.line : Int) == (l.line : Int) && (lpos.col : Int) == (l.col : Int)) = true
        · refine .inr ⟨c', ?_, cd⟩
          show codeAmong l [rawInt lpos.line, rawInt lpos.col, .ref c'] = some (.ref c')
          simp only [codeAmong, rawInt]
          rw [if_pos e]
        · refine .inl ?_
          rw [if_neg e]
      · rw [z]
        exact .inr ⟨c, rfl, oc2, vs2, t2, kp _ _ (fun w' => by rw [w', hT] at y; cases y) y, r⟩
    · obtain ⟨oc3, vs3, t3, a1, a2, a3⟩ := cd
      exact ⟨c', oc3, vs3, t3, rfl, a1, a2, a3⟩
  · refine kla_makeFunctionHit (mg := X.mg) (clos_eq hs) I.ok.glob hg hcode (hC.keeps I.bk) hP tr hf hb fun ctv h' tk hk hsz => ?_
    have J := I.laid (a := h'.objs.size) (o := held (kla_obj "<lambda>" (X.env.qual ++ "<lambda>") params body scope (clOf X.env.cells scope.names []) ((X.mg "__name__").getD .none) c ctv)) (h' := h'.push (kla_obj "<lambda>" (X.env.qual ++ "<lambda>") params body scope (clOf X.env.cells scope.names []) ((X.mg "__name__").getD .none) c ctv)) (t' := tk)
      (fun b u e => Heap.get?_push_of_some _ (hk b u e)) hsz (held_ok (Heap.get?_push_size _ rfl))
    have nf : H h'.objs.size = none := I.hok.fresh hsz
    have kp : Same H (upd H h'.objs.size (held (kla_obj "<lambda>" (X.env.qual ++ "<lambda>") params body scope (clOf X.env.cells scope.names []) ((X.mg "__name__").getD .none) c ctv))) := fun b o e => by
      rw [upd_ne (ne_of_none e nf)]
      exact e
    exact ⟨.ref h'.objs.size, _, J, rfl, q _ ((X.mg "__name__").getD .none) (.ref c) ctv _ (fun b o _ e => kp b o e) (TabOk.same ⟨ps, hT, tr, am⟩ kp) nf ⟨⟨_, upd_same, rfl⟩, c, oc, vs, t, rfl, kp _ _ hc, hd, hv⟩ (lam _ _ _ _)⟩
/-- the cells that a lambda reads, held -/
structure CellsOf (cl : List (Str × Addr)) (N : List Str) (vs : List V) (H : Hp) (cs : List (Addr × Obj)) : Prop where
  no : ∀ b o, cs.lookup b = some o → H b = none
  cell : ∀ x c, cl.lookup x = some c → ∃ o v, cs.lookup c = some o ∧ o.data = .cell v
  val : ∀ (i : Nat) (x : Str) (v : V), N[i]? = some x → vs[i]? = some v → ∃ c u o, cl.lookup x = some c ∧ RelV v u ∧ cs.lookup c = some o ∧ o.data = .cell (some u)
theorem memA {o : Obj} {b : Addr} : ∀ {l : List (Addr × Obj)}, l.lookup b = some o → (b, o) ∈ l
  | [], e => by cases e
  | (a, x) :: r, e => by
    rw [List.lookup_cons] at e
    cases z : b == a with
    | true => rw [z] at e; cases e; rw [eq_of_beq z]; exact .head _
    | false => rw [z] at e; exact .tail _ (memA e)
theorem look_pins {h : Heap} {b : Addr} {o : Obj} : ∀ {fp : List Addr}, (pinsAt fp h).lookup b = some o → b ∈ fp ∧ h.get? b = some o := fun {fp} e => of_pinsAt (p := (b, o)) (memA e)
theorem look_pins' {h : Heap} {b : Addr} {o : Obj} (e : h.get? b = some o) : ∀ {fp : List Addr}, b ∈ fp → (pinsAt fp h).lookup b = some o
  | [], z => absurd z (by simp)
  | a :: r, z => by
    have un : pinsAt (a :: r) h = match (h.get? a).map (fun o => (a, o)) with | some p => p :: pinsAt r h | none => pinsAt r h := by
      unfold pinsAt
      rw [List.filterMap_cons]
      cases (h.get? a).map (fun o => (a, o)) <;> rfl
    rw [un]
    by_cases y : b = a
    · subst y
      rw [e]
      show List.lookup b ((b, o) :: pinsAt r h) = _
      rw [List.lookup_cons, beq_self_eq_true]
    · have ih := look_pins' e (fp := r) ((List.mem_cons.mp z).resolve_left y)
      cases q : h.get? a with
      | none => exact ih
      | some o' =>
        show List.lookup b ((a, o') :: pinsAt r h) = _
        rw [List.lookup_cons, show (b == a) = false by simpa using y]
        exact ih
theorem clOf_mem {cells : List (Str × Addr)} {q : Str × Addr} : ∀ (l : List (Str × NameKind)) (acc : List (Str × Addr)), q ∈ clOf cells l acc → q ∈ acc ∨ ∃ k, (q.1, k) ∈ l ∧ k = NameKind.free ∧ q.2 = (cells.lookup q.1).getD 0
  | [], _, h => .inl h
  | (n, k) :: r, acc, h => by
    have h' : q ∈ clOf cells r (if k = .free then (n, (cells.lookup n).getD 0) :: acc else acc) := h
    rcases clOf_mem r _ h' with e | ⟨k', e1, e2⟩
    · by_cases hk : k = .free
      · rw [if_pos hk] at e
        rcases List.mem_cons.mp e with z | z
        · cases z
          exact .inr ⟨k, List.mem_cons_self, hk, rfl⟩
        · exact .inl z
      · rw [if_neg hk] at e
        exact .inl e
    · exact .inr ⟨k', List.mem_cons_of_mem _ e1, e2⟩
/-- g(lambda: ..): the lambda's cells are held through the call -/
def tSaid (sp : Sp) (N : List Str) (ix : List Nat) (cl : List (Str × Addr)) (te : TE) : TE := fun σ H Q => te σ H fun v H1 => ∃ vs : List V, vs.length = N.length ∧ (∀ (j i : Nat) (u : V), ix[j]? = some i → vs[j]? = some u → σ[i]? = some (some u)) ∧
  ∀ cs, CellsOf cl N vs H1 cs → sp [v] (fz H1 cs) (fun v H2 => Q v (er H2 cs)) E0
theorem pe_said {X : Cx} {k : Nat} {f : Addr} {fd : FuncData} {y x : Str} {sp : Sp} {p pos lpos : Pos} {params : Arguments} {body : Expr} {scope : Scope} {N : List Str} {ix : List Nat} {te : TE} (F : FnOk X.prog X.w X.K X.mg X.base CX0 k f fd [y] sp) (hr : Room k X.A) (hg : Gl X x) (hm : X.mg x = some (.ref f))
    (hk : PySem.W.keepIn X.K (.ref f) = true) (hb : Binds X.K fd [y] []) (hx : X.ex = []) (hp : ∀ p ∈ scope.names, p.2 = NameKind.free → X.env.kindOf p.1 = some .cell ∧ X.fn p.1 = true) (hN : ∀ (j : Nat) (x : Str), N[j]? = some x → ∃ i, ix[j]? = some i ∧ X.N[i]? = some x ∧ scope.names.lookup x = some .free)
    (ha : PE X (.Lambda params body scope lpos) te) (hdb : (x == ("__debug__" : Str)) = false := by decide) (he : starEach [.Lambda params body scope lpos] X.env = (false, eval (.Lambda params body scope lpos) X.env) :: starEach [] X.env := by rfl) (hpl : (backTo pos (starEach [] X.env)).any (·.1) = false := by rfl) :
    PE X (.Call (.Name x p) [.Lambda params body scope lpos] [] pos) (tSaid sp N ix (clOf X.env.cells scope.names []) te) := by
  intro pins s σ H Q I h
  refine wpAny_Call_Name_kw (ld_glob I hg hm ?_ hdb)
  refine PySem.W.callWith_K (h₀ := X.base) I.ok.mod.kin hk (thn (pa_cons ha pa_nil he pos pins s σ H (fun vs H1 => ∃ ws : List V, ws.length = N.length ∧ (∀ (j i : Nat) (u : V), ix[j]? = some i → ws[j]? = some u → σ[i]? = some (some u)) ∧
    ∀ cs, CellsOf (clOf X.env.cells scope.names []) N ws H1 cs → sp vs (fz H1 cs) (fun v H2 => Q v (er H2 cs)) E0) I h) fun us s1 z => ?_) he hpl
  obtain ⟨vs, H1, I1, r, ws, hw, hσ, q⟩ := z
  refine ⟨I1.kIn, ?_⟩
  have hs : ∀ p ∈ scope.names, p.2 = NameKind.free → (X.env.cells.lookup p.1).isSome = true := fun p hpm e => by
    obtain ⟨c, z⟩ := I1.ok.has p.1 (.inl (hp p hpm e).1)
    rw [z]
    rfl
  -- the cells
  have sub : ∀ x c, (clOf X.env.cells scope.names []).lookup x = some c → X.env.cells.lookup x = some c := fun x c e => by
    rcases clOf_sub _ _ hs e with z | z
    · cases z
    · exact z
  have at' : ∀ b ∈ (clOf X.env.cells scope.names []).map (·.2), ∃ x, X.env.cells.lookup x = some b ∧ X.fn x = true := fun b hb' => by
    obtain ⟨q', hq', rfl⟩ := List.mem_map.mp hb'
    rcases clOf_mem _ _ hq' with z | ⟨k', hk', rfl, e⟩
    · cases z
    · obtain ⟨c, hc⟩ := Option.isSome_iff_exists.mp (hs _ hk' rfl)
      refine ⟨q'.1, ?_, (hp _ hk' rfl).2⟩
      rw [e, show X.env.cells.lookup q'.1 = some c from hc]
      rfl
  obtain ⟨cs, ecs⟩ : ∃ cs, cs = pinsAt ((clOf X.env.cells scope.names []).map (·.2)) s1.heap := ⟨_, rfl⟩
  have inn : ∀ x c, (clOf X.env.cells scope.names []).lookup x = some c → c ∈ (clOf X.env.cells scope.names []).map (·.2) := fun x c e => List.mem_map.mpr ⟨(x, c), PySem.mem_of_lookup e, rfl⟩
  have L : Loose H1 s1.heap (frs X.stack) cs := fun b o e => by
    rw [ecs] at e
    obtain ⟨hb', e'⟩ := look_pins e
    obtain ⟨x', hx', hfn⟩ := at' b hb'
    refine ⟨e', I1.freeC x' b hx', fun z => ?_⟩
    rcases List.mem_cons.mp (I1.stkSub b z) with y' | y'
    · exact I1.cne x' b hx' y'
    · obtain ⟨_, o', ho', _⟩ := I1.ok.funs.mem y'
      exact absurd (Nat.lt_of_lt_of_le (Heap.lt_size ho') (I1.ok.cab x' b hfn hx')) (Nat.lt_irrefl _)
  have C : CellsOf (clOf X.env.cells scope.names []) N ws H1 cs := by
    refine ⟨fun b o e => (L b o e).2.1, fun x' c e => ?_, fun i x' v e1 e2 => ?_⟩
    · obtain ⟨v, o, ho, hd⟩ := I1.cell x' c (sub x' c e)
      exact ⟨o, v, by rw [ecs]; exact look_pins' ho (inn x' c e), hd⟩
    · obtain ⟨j, e3, e4, e5⟩ := hN i x' e1
      obtain ⟨m, hn, hl⟩ := I1.loc
      have hkc := (hp (x', .free) (PySem.mem_of_lookup e5) rfl).1
      obtain ⟨u, ru, lk⟩ := hl j x' v e4 (hσ i j v e3 e2) (.inr (.inl hkc))
      rcases lk with ⟨kl, _⟩ | ⟨_, c, ec, o, ho, hd⟩
      · rw [hkc] at kl
        cases kl
      · obtain ⟨c', hc'⟩ := clOf_has (cells := X.env.cells) (x := x') scope.names [] (.inl ⟨_, PySem.mem_of_lookup e5, rfl⟩)
        have := sub x' c' hc'
        rw [ec] at this
        cases this
        exact ⟨c, u, o, hc', ru, by rw [ecs]; exact look_pins' ho (inn x' c hc'), hd⟩
  have q := q cs C
  have hok := I1.hok.fz L
  have e0 : Env0 X.prog X.w X.K X.mg X.base X.A X.stack s1 (fz H1 cs) := by
    have e1 := I1.env0
    refine ⟨e1.frames, e1.mod, fun b o e => ⟨(e1.bs b o e).1, ?_⟩, e1.bsz, e1.funs, fun b hb' => ?_, hok, e1.bare⟩
    · cases z : cs.lookup b with
      | none => rw [fz_ne z]; exact (e1.bs b o e).2
      | some o' =>
        have z' := z
        rw [ecs] at z'
        obtain ⟨x', hx', hfn⟩ := at' b (look_pins z').1
        exact absurd (Nat.lt_of_lt_of_le (Heap.lt_size (I1.ok.bs b o e).1) (I1.ok.cab x' b hfn hx')) (Nat.lt_irrefl _)
    · cases z : cs.lookup b with
      | none => rw [fz_ne z]; exact e1.frf b hb'
      | some o' => exact absurd hb' (L b o' z).2.2
  have hl : (us ++ []).length = [y].length := by rw [List.append_nil, ← r.length]; exact F.len _ _ _ _ q
  have hbd := hb s1 us I1.kIn hl
  rw [List.append_nil] at hbd
  refine wpAny_call (codeAny_mono (F.run X.A X.stack s1 (fz H1 cs) ⟨us, []⟩ us vs _ E0 hr e0 hbd r q) fun rr s' hq => ?_)
  cases rr with
  | error e => exact (show False from hq).elim
  | ok fl =>
    cases fl with
    | ret u =>
      obtain ⟨v, H2, os, bare, un, hok2, rv, qq⟩ := hq
      obtain ⟨un', ok', _⟩ := un.held hok2 L
      exact I1.after (Q := Q) ⟨v, er H2 cs, os, bare, un', ok', rv, qq⟩
    | next => exact False.elim hq
    | brk => exact False.elim hq
    | cont => exact False.elim hq
end L2

set_option Elab.async false
set_option linter.all false
set_option maxRecDepth 100000
/-! a lambda in a def: what its text says, by one look; things behind the call. -/
namespace L2
open PySem PySem.Spec PyProof.Rows PySem.Calls PySem.W
def lamOk (scope sc : Scope) (NX N : List Str) (ix : List Nat) : Bool :=
  decide (scope.kind = .function) && !scope.isCoroutine && !scope.isGenerator && scope.names.all (fun p => decide (p.2 ≠ NameKind.cell) && (decide (p.2 ≠ NameKind.free) || decide (sc.names.lookup p.1 = some NameKind.cell))) &&
  (N.zip ix).all (fun q => decide (NX[q.2]? = some q.1) && decide (scope.names.lookup q.1 = some NameKind.free)) && decide (N.length = ix.length)
theorem pe_saidD {X : Cx} {k : Nat} {f T cc : Addr} {fd : FuncData} {y x : Str} {sp : Sp} {p pos lpos : Pos} {params : Arguments} {body : Expr} {scope sc : Scope} {N NX : List Str} {ix : List Nat} (F : FnOk X.prog X.w X.K X.mg X.base CX0 k f fd [y] sp) (hr : Room k X.A) (hg : Gl X x) (hm : X.mg x = some (.ref f))
    (hk : PySem.W.keepIn X.K (.ref f) = true) (hb : Binds X.K fd [y] []) (hx : X.ex = []) (hfn : ∀ x, X.fn x = true) (hcode : X.env.code = .ref cc) (hC : CodeHd X.base cc T) (hB : X.base.BuiltinsAt X.mg T) (hsc : X.env.scope = sc) (hNX : X.N = NX)
    (hdf : defaultsOf params X.env = ([], [])) (hba : ∀ qual cl pm cv ct, bindArgs (kla_fn "<lambda>" qual params body scope cl pm cv ct) ⟨[], []⟩ = pure []) (ok : lamOk scope sc NX N ix = true) (hdb : (x == ("__debug__" : Str)) = false := by decide)
    (he : starEach [.Lambda params body scope lpos] X.env = (false, eval (.Lambda params body scope lpos) X.env) :: starEach [] X.env := by rfl) (hpl : (backTo pos (starEach [] X.env)).any (·.1) = false := by rfl) :
    PE X (.Call (.Name x p) [.Lambda params body scope lpos] [] pos) (tSaid sp N ix (clOf X.env.cells scope.names []) (tMk T (X.env.qual ++ "<lambda>") params body scope (clOf X.env.cells scope.names []) N)) := by
  subst hsc hNX
  unfold lamOk at ok
  simp only [Bool.and_eq_true, decide_eq_true_eq, Bool.not_eq_true', List.all_eq_true, Bool.or_eq_true] at ok
  obtain ⟨⟨⟨⟨⟨kd, co⟩, ge⟩, nms⟩, zs⟩, hl⟩ := ok
  have kc : ∀ p ∈ scope.names, p.2 = NameKind.free → X.env.kindOf p.1 = some .cell := fun p hp e => by
    rcases (nms p hp).2 with z | z
    · exact absurd e z
    · exact z
  have hz : ∀ (j : Nat) (x : Str), N[j]? = some x → ∃ i, ix[j]? = some i ∧ X.N[i]? = some x ∧ scope.names.lookup x = some .free := fun j x e => by
    have hj := (List.getElem?_eq_some_iff.mp e).1
    have e2 : ix[j]? = some (ix[j]'(by omega)) := List.getElem?_eq_getElem (by omega)
    have := zs (x, ix[j]'(by omega)) (List.mem_of_getElem? (i := j) (by rw [List.getElem?_zip_eq_some]; exact ⟨e, e2⟩))
    exact ⟨_, e2, this.1, this.2⟩
  refine pe_said F hr hg hm hk hb hx (fun p hp e => ⟨kc p hp e, hfn _⟩) hz (pe_mklam ⟨hdf, kd, co, ge, fun p hp => (nms p hp).1, fun p hp e => .inl (kc p hp e), hba, fun x hx => ?_⟩ hcode hC hB) hdb he hpl
  obtain ⟨j, e⟩ := List.mem_iff_getElem?.mp hx
  obtain ⟨_, _, _, z⟩ := hz j x e
  exact z
/-- a def whose code is known -/
theorem Fun.okC {P : Program} {w : World} {K : PySem.W.Frag} {mg : Str → Option Value} {base : Heap} {x qual : Str} {st : Stmt} {f cc : Addr} {fd : FuncData} {N ps : List Str} {k : Nat} {sp : Sp} (F : Fun K x qual st f fd) (hc : fd.code = .ref cc) (S : FnScope N ps (defScope st)) (len : ∀ vs H Q E, sp vs H Q E → vs.length = ps.length)
    (hbody : ∀ (A : Around) (outer : List Env) (s : Shared) (H : Hp) (vs : List V) (Q : VK) (E : XK), Room k (A.deeper (envOfC qual (defScope st) s.heap.objs.size f (.ref cc))) → sp vs H Q E →
      ∃ t, PSs (cxOf CX0 P w K mg base N qual (defScope st) f (.ref cc) A outer s H E).nox (defBody st) t ∧ t { nx := fun _ H' => Q .non H', rt := Q } (start N vs) H) : FnOk P w K mg base CX0 (k + 1) f fd ps sp := by
  obtain ⟨oc, od, kV, doc, pm, an, cdv, ct, osl, rfl, lk, hcd⟩ := F.ex
  have hc : cdv = .ref cc := hc
  subst hc
  refine fn_of lk hcd S len fun A outer s H vs Q E hr hsp => ?_
  obtain ⟨t, h, q⟩ := hbody A outer s H vs Q E hr hsp
  exact ⟨t, h.nox, q⟩
/-! ### things, where other objects are turned -/
section
variable {S S' : Addr → Prop} {H H' : Hp} {cs : List (Addr × Obj)}
mutual
theorem IsTh.kp (k : ∀ b o, (∀ ps, o ≠ HO.tbl ps) → (∀ ob u, o ≠ HO.frz ob u) → H b = some o → H' b = some o) (hS : ∀ b o, (∀ ps, o ≠ HO.tbl ps) → (∀ ob u, o ≠ HO.frz ob u) → S b → H b = some o → S' b) : ∀ {v : V} {d : PyData}, IsTh S H v d → IsTh S' H' v d
  | _, _, .non => .non
  | _, _, .bl b => .bl b
  | _, _, .int i => .int i
  | _, _, .str x => .str x
  | _, _, .lst s e r => .lst (hS _ _ (fun _ z => by cases z) (fun _ _ z => by cases z) s e) (k _ _ (fun _ z => by cases z) (fun _ _ z => by cases z) e) (IsThs.kp k hS r)
  | _, _, .tup e r => .tup (k _ _ (fun _ z => by cases z) (fun _ _ z => by cases z) e) (IsThs.kp k hS r)
  | _, _, .dct s e => .dct (hS _ _ (fun _ z => by cases z) (fun _ _ z => by cases z) s e) (k _ _ (fun _ z => by cases z) (fun _ _ z => by cases z) e)
theorem IsThs.kp (k : ∀ b o, (∀ ps, o ≠ HO.tbl ps) → (∀ ob u, o ≠ HO.frz ob u) → H b = some o → H' b = some o) (hS : ∀ b o, (∀ ps, o ≠ HO.tbl ps) → (∀ ob u, o ≠ HO.frz ob u) → S b → H b = some o → S' b) : ∀ {vs : List V} {ds : List PyData}, IsThs S H vs ds → IsThs S' H' vs ds
  | _, _, .nil => .nil
  | _, _, .cons h t => .cons (IsTh.kp k hS h) (IsThs.kp k hS t)
end
/-- the table turned -/
theorem IsTh.tbl {T : Addr} {q : Str} {v : V} {d : PyData} (h : IsTh S H v d) (t : TabOk H T q) (k : ∀ b o, b ≠ T → H b = some o → H' b = some o) : IsTh S H' v d :=
  h.kp (fun b o n1 _ e => k b o (fun z => by obtain ⟨ps, y, _⟩ := t; rw [z, y] at e; cases e; exact n1 _ rfl) e) fun _ _ _ _ s _ => s
theorem er_fz (no : NoC cs H) : er (fz H cs) cs = H := by
  funext b
  cases q : cs.lookup b with
  | some o => rw [er_at q, no b o q]
  | none => rw [er_ne q, fz_ne q]
theorem Same.fz (s : Same H H') : Same (L2.fz H cs) (L2.fz H' cs) := fun b o e => by
  cases q : cs.lookup b with
  | some u =>
    rw [fz_at q] at e ⊢
    exact e
  | none =>
    rw [fz_ne q] at e ⊢
    exact s b o e
/-- held through the call, let go behind it -/
theorem er_held {H1 : Hp} (s : Same (fz H cs) H1) {b : Addr} {o : HO} (n : ∀ ob u, o ≠ HO.frz ob u) (e : H1 b = some o) : er H1 cs b = some o := by
  cases q : cs.lookup b with
  | some u =>
    rw [s b _ (fz_at q)] at e
    cases e
    exact absurd rfl (n _ _)
  | none => rw [er_ne q]; exact e
theorem Same.er {H1 : Hp} (s : Same (L2.fz H cs) H1) (no : NoC cs H) : Same H (L2.er H1 cs) := fun b o e => by
  cases q : cs.lookup b with
  | some u => rw [no b u q] at e; cases e
  | none =>
    rw [er_ne q]
    exact s b o (by rw [fz_ne q]; exact e)
end
end L2

set_option Elab.async false
set_option linter.all false
set_option maxRecDepth 100000
/-! the head where a def's table may grow. -/
namespace L2
open PySem PySem.Spec PyProof.Rows PySem.W
theorem law_callT {P : Program} {w : World} {K : PySem.W.Frag} {mg mb : Str → Option Value} {CX : CXT} {k : Nat} {fa a c T : Addr} {fd : FuncData} {x qn : Str} {sp : Sp} {s₁ : Shared} {vs : List Value} {ns : List Int}
    (KX : K.In s₁.heap) (hns : s₁.heap.Ns mainGlobals mg) (hb : s₁.heap.Ns builtinsNs mb) (hbb : ∀ x : Str, x ≠ "__name__" → mb x = bootBuiltins x) (hlim : s₁.heap.NoLimit) (hg : s₁.gens = #[])
    (hC : CodeHd s₁.heap c T) (hT : s₁.heap.get? T = some (tabObj #[])) (hK : noTabs K = true) (bmain : ∃ bm ob, mg "__builtins__" = some (.ref bm) ∧ bm ≠ builtinsNs ∧ s₁.heap.get? bm = some ob ∧ ob.cls = .type "module" ∧ ob.dict = some builtinsNs ∧ ob.data = .plain)
    (ha : s₁.heap.get? a = some { cls := .type "list", data := .seq vs.toArray }) (hi : IntsAre vs ns) (hl : ns.length ≤ sizeLine) (hr : Room k callerA)
    (F : ∀ base : Heap, K.In base → base.Ns mainGlobals mg → CodeHd base c T → base.BuiltinsAt mg T → FnOk P w K mg base CX k fa fd [x] sp) (hbind : ∀ (s : Shared) (u : Value), BindsTo s fd ⟨[u], []⟩ [(x, u)])
    (hsp : ∀ H : Hp, SqL K H a (ns.map V.int) → TabOk H T qn → sp [.ref a] H (fun v _ => v = .bl true) fun _ _ _ => False) (hCX : ∀ (H : Hp) (e : Value) (s' : Shared), CX [] H s₁ (fun _ _ _ => False) e s' → False) :
    codeAny (model P w) callerA (.call (.ref fa) ⟨[.ref a], []⟩) (fun r s' => r = .ok (.ret (.bool true)) ∧ OldK s₁.heap s'.heap ∧ s'.os = s₁.os ∧ AllBare s'.gens) s₁ := by
  have rv := vals_ints hi
  have lenV := hi.length
  have neT : a ≠ T := fun z => by
    rw [z, hT] at ha
    cases ha
  have noK : K.lookup T = none := by
    cases e : K.lookup T with
    | none => rfl
    | some o =>
      have h1 := KX _ _ e
      rw [hT] at h1
      cases h1
      have h2 := List.all_eq_true.mp hK _ (mem_of_lookupK e)
      exact absurd (show false = true from h2) Bool.false_ne_true
  have core : ∀ H : Hp, H T = some (.tbl #[]) → (∀ b, b ≠ T → H b = none ∨ ∃ o xs, H b = some (.frz o (.lst xs))) → SqL K H a (ns.map V.int) → HOk P w H s₁.heap → (∀ b, H b ≠ none → b = a ∨ b = T) → (H a ≠ none → K.lookup a = none) →
      codeAny (model P w) callerA (.call (.ref fa) ⟨[.ref a], []⟩) (fun r s' => r = .ok (.ret (.bool true)) ∧ OldK s₁.heap s'.heap ∧ s'.os = s₁.os ∧ AllBare s'.gens) s₁ := by
    intro H eT hO hS hok hA hKa
    have base_of : ∀ {b : Addr} {o : Obj}, s₁.heap.get? b = some o → H b = none → (hidT s₁.heap H).get? b = some o := fun e n => hidT_get e n
    have apart : ∀ {b : Addr} {o : Obj}, s₁.heap.get? b = some o → (∀ its n, o.data ≠ .seq its n) → o.cls ≠ .none → H b = none := fun {b o} e h1 h2 => by
      cases q : H b with
      | none => rfl
      | some u =>
        rcases hA b (by rw [q]; simp) with z | z
        · rw [z, ha] at e
          cases e
          exact absurd rfl (h1 _ _)
        · rw [z, hT] at e
          cases e
          exact absurd rfl h2
    have noA : ∀ {b : Addr} {o : Obj} {es : Array DictEntry} {ep : Nat}, s₁.heap.get? b = some o → o.data = .dict es ep → H b = none := fun {b o es ep} e d => by
      cases q : H b with
      | none => rfl
      | some u =>
        rcases hA b (by rw [q]; simp) with z | z
        · rw [z, ha] at e
          cases e
          cases d
        · rw [z, hT] at e
          cases e
          cases d
    have nsK : ∀ {b : Addr} {m : Str → Option Value}, s₁.heap.Ns b m → (hidT s₁.heap H).Ns b m := fun {b m} ⟨o, es, ep, e, d, r⟩ => ⟨o, es, ep, base_of e (noA e d), d, r⟩
    have hKb : K.In (hidT s₁.heap H) := fun b o e => base_of (KX b o e) (by
      cases q : H b with
      | none => rfl
      | some u =>
        rcases hA b (by rw [q]; simp) with z | z
        · subst z
          rw [hKa (by rw [q]; simp)] at e
          cases e
        · rw [z, noK] at e
          cases e)
    have hM : Mod K mg (hidT s₁.heap H) := ⟨hKb, nsK hns, ⟨mb, nsK hb, hbb⟩, let ⟨mc, h1, h2⟩ := hlim; ⟨mc, nsK h1, h2⟩⟩
    have e0 : Env0 P w K mg (hidT s₁.heap H) callerA [] s₁ H := ⟨rfl, hM, fun b o e => of_hidT e, Nat.le_of_eq (hidT_size _ _), trivial, fun b hb => absurd (show b ∈ ([] : List Addr) from hb) (by simp), hok, .of_eq hg⟩
    have hCb : CodeHd (hidT s₁.heap H) c T := by
      obtain ⟨o, vs', file, tf, flags, tg, inF, text, tt, e, h1, h2, r⟩ := hC
      exact ⟨o, vs', file, tf, flags, tg, inF, text, tt, base_of e (apart e (fun its n z => by rw [h2] at z; cases z) fun z => by rw [h1] at z; cases z), h1, h2, r⟩
    have hBb : (hidT s₁.heap H).BuiltinsAt mg T := by
      obtain ⟨bm, ob, b1, b2, b3, b4, b5, b6⟩ := bmain
      refine ⟨bm, ob, b1, b2, fun z => ?_, fun z => ?_, base_of b3 (apart b3 (fun its n z => by rw [b6] at z; cases z) fun z => by rw [b4] at z; cases z), b4, b5, b6⟩
      · obtain ⟨o, es, ep, e, d, _⟩ := hns
        rw [z, e] at b3
        cases b3
        rw [d] at b6
        cases b6
      · rw [z, hT] at b3
        cases b3
        cases b4
    refine codeAny_mono ((F _ hKb (nsK hns) hCb hBb).run callerA [] s₁ H ⟨[.ref a], []⟩ [.ref a] [.ref a] _ _ hr e0 (hbind s₁ (.ref a)) (.cons rfl .nil) (hsp H hS ⟨#[], eT, trivial, fun l => .inl rfl⟩)) fun r s' h => ?_
    cases r with
    | error e => exact (hCX H e s' h).elim
    | ok fl =>
      cases fl with
      | next => exact False.elim h
      | brk => exact False.elim h
      | cont => exact False.elim h
      | ret u =>
        obtain ⟨v, H', os, bare, un, hok', r', q⟩ := h
        have q' : v = .bl true := q
        subst q'
        obtain rfl : u = Value.bool true := r'
        have kept : ∀ b o, b ≠ T → s₁.heap.get? b = some o → s'.heap.get? b = some o := fun b o nb e => by
          rcases hO b nb with z | ⟨ob, xs, z⟩
          · exact un.keep b o e z (by intro z; exact absurd (show b ∈ ([] : List Addr) from z) (by simp)) (by simp)
          · have z2 := un.frzs b ob _ z
            obtain ⟨e1, _⟩ := hok b _ z
            obtain ⟨e2, _⟩ := hok' b _ z2
            rw [e] at e1
            cases e1
            exact e2
        obtain ⟨more, eT'⟩ := un.tbls T #[] eT
        have hT' : s'.heap.get? T = some (tabObj (#[] ++ more)) := hok' T _ eT'
        refine ⟨rfl, ⟨fun b o e => ?_, fun b o e => ?_⟩, os, bare⟩
        · by_cases z : b = T
          · subst z
            rw [hT] at e
            cases e
            exact .inr (.inl ⟨(hC.tab hT).isCodeTable, rfl, #[], more, rfl, hT'⟩)
          · exact .inl (kept b o z e)
        · by_cases z : b = T
          · rw [z]
            exact ⟨_, hT'⟩
          · exact ⟨o, kept b o z e⟩
  cases hk : K.lookup a with
  | some o =>
    have e := KX a o hk
    rw [ha] at e
    cases e
    refine core (fun b => if b = T then some (.tbl #[]) else none) (if_pos rfl) (fun b nb => .inl (if_neg nb)) (.inr ⟨_, vs.toArray, _, hk, rfl, rfl, rfl, by rw [List.size_toArray, lenV]; exact hl, by simpa using rv⟩) (fun b u z => ?_) (fun b z => ?_) fun z => absurd (if_neg neT) z
    · by_cases hb' : b = T
      · have z' := (if_pos hb').symm.trans z
        cases z'
        subst hb'
        exact hT
      · have z' := (if_neg hb').symm.trans z
        cases z'
    · by_cases hb' : b = T
      · exact .inr hb'
      · exact absurd (if_neg hb') z
  | none =>
    refine core (fun b => if b = T then some (.tbl #[]) else if b = a then some (.frz { cls := .type "list", data := .seq vs.toArray } (.lst (ns.map V.int))) else none) (if_pos rfl) (fun b nb => ?_) (.inl (.inr ⟨{ cls := .type "list", data := .seq vs.toArray }, (if_neg neT).trans (if_pos rfl)⟩)) (fun b u z => ?_) (fun b z => ?_) fun _ => hk
    · by_cases hb' : b = a
      · exact .inr ⟨_, _, (if_neg nb).trans (if_pos hb')⟩
      · exact .inl ((if_neg nb).trans (if_neg hb'))
    · by_cases hb1 : b = T
      · have z' := (if_pos hb1).symm.trans z
        cases z'
        subst hb1
        exact hT
      · by_cases hb' : b = a
        · have z' := ((if_neg hb1).trans (if_pos hb')).symm.trans z
          cases z'
          subst hb'
          exact ⟨ha, by rw [List.length_map]; exact hl, vs, _, rv, ha⟩
        · have z' := ((if_neg hb1).trans (if_neg hb')).symm.trans z
          cases z'
    · by_cases hb1 : b = T
      · exact .inr hb1
      · by_cases hb' : b = a
        · exact .inl hb'
        · exact absurd ((if_neg hb1).trans (if_neg hb')) z
theorem walk_ofT {l : PySem.W.OpenLaw} {n k : Nat} {q : Program} {loose : List Str} {XP : (Str → Option Value) → Heap → Prop} {YP : World → Heap → Prop} {d dr : DefRec} {K : Params → PySem.W.Frag} {CX : World → CXT} {sp : World → Sp} {x nm qn : Str} {c T : Addr}
    (hn : l.most = some n) (hn2 : n ≤ sizeLine) (hdf : d.params.defaults = []) (hr : Room k callerA)
    (hY : ∀ (w : World) (h : Heap), YP w h → (K w.params).In h)
    (hfd : (recsOf q).find? (fun e => e.name == nm) = some dr) (htb : ∀ p : Params, tabIn (K p) nm = some (c, T)) (hnt : ∀ p : Params, noTabs (K p) = true)
    (F : ∀ (w : World) (mg : Str → Option Value) (fa : Addr) (h : Heap), (K w.params).In h → h.Ns mainGlobals mg → mg d.name = some (.ref fa) →
      ∃ fd : FuncData, (∀ (s : Shared) (u : Value), BindsTo s fd ⟨[u], []⟩ [(x, u)]) ∧
        ∀ base : Heap, (K w.params).In base → base.Ns mainGlobals mg → CodeHd base c T → base.BuiltinsAt mg T → FnOk l.prog w (K w.params) mg base (CX w) k fa fd [x] (sp w))
    (hsp : ∀ (w : World) (H : Hp) (a : Addr) (ns : List Int), ns.length ≤ n → SqL (K w.params) H a (ns.map V.int) → TabOk H T qn → sp w [.ref a] H (fun v _ => v = .bl true) fun _ _ _ => False)
    (hCX : ∀ (w : World) (H : Hp) (s : Shared) (e : Value) (s' : Shared), CX w [] H s (fun _ _ _ => False) e s' → False) :
    PySem.W.WalkO q loose XP YP l.row.toRowW d [] (fun f vs => PySem.call f vs) := by
  refine Att.attach_call hn hdf fun w s₀ s₁ mg mb fa o pm cd doc a vs ns G Y ho hd hcd hmg hobj hints hlen hg => ?_
  have KX := hY w _ Y
  obtain ⟨fd, hb, hF⟩ := F w mg fa _ KX G.T.g hmg
  obtain ⟨hC, hT⟩ := tab_of G.T KX hfd (htb w.params)
  exact law_callT KX G.T.g G.T.b G.T.builtins G.T.nolimit hg hC hT (hnt w.params) G.T.bmain hobj hints (Nat.le_trans hlen hn2) hr hF hb (fun H hS hTb => hsp w H a ns hlen hS hTb) fun H e s' => hCX w H s₁ e s'
end L2

set_option Elab.async false
set_option linter.all false
set_option maxRecDepth 100000
set_option maxHeartbeats 400000
namespace K12
open PySem L2
def top (i : Nat) : Stmt := PySem.Challenge.pw_woolyears_k12_what_cannot_be_parted.main.body.getD i (.Pass ⟨0, 0, 0, 0⟩)
/-! ### what is asked of a thing -/
def wholeD (d : PyData) : Bool := isIntD d && !isBoolD d
def items : PyData → List PyData
  | .tuple ds => ds
  | _ => []
def intOf : PyData → Int
  | .int i => i
  | _ => 0
def tupOfD (d : PyData) (f m : Int) : Bool := isTupD d && (decide (f ≤ (items d).length) && decide (((items d).length : Int) ≤ m))
def wholesD (d : PyData) (n : Int) : Bool := tupOfD d n n && (items d).all wholeD
theorem nd1 (x : Str) : ([x] : List Str).Nodup := by simp
theorem sz_pos (d : PyData) : 1 ≤ sz d := by cases d <;> simp [sz]
theorem len_szs : ∀ (ds : List PyData), ds.length ≤ szs ds
  | [] => Nat.zero_le _
  | d :: ds => by
    have := len_szs ds
    have := sz_pos d
    simp only [List.length_cons, szs]
    omega
theorem mem_szs : ∀ {ds : List PyData} {d : PyData}, d ∈ ds → sz d ≤ szs ds
  | x :: ds, d, h => by
    simp only [szs]
    rcases List.mem_cons.mp h with e | e
    · rw [e]; omega
    · have := mem_szs e
      omega
theorem in_sz {ds : List PyData} {d : PyData} (h : d ∈ ds) (hz : sz (.tuple ds) ≤ 4000) : sz d ≤ 4000 := by
  have := mem_szs h
  simp only [sz] at hz
  omega
theorem len_line {S : Addr → Prop} {H : Hp} {xs : List V} {ds : List PyData} (r : IsThs S H xs ds) (hz : sz (.tuple ds) ≤ 4000) : xs.length < sizeLine := by
  have := len_szs ds
  have := r.length
  simp only [sz] at hz
  rw [sizeLine_eq]
  omega
/-! ### the promises -/
/-- one thing in; a truth of it out; nothing that there was is turned -/
def spT (f : PyData → Bool) : Sp := fun vs H Q _ => ∃ S v d, vs = [v] ∧ IsTh S H v d ∧ sz d ≤ 4000 ∧ ∀ H', Same H H' → Q (.bl (f d)) H'
def spT1 (f : PyData → Int → Bool) : Sp := fun vs H Q _ => ∃ S v d n, vs = [v, .int n] ∧ IsTh S H v d ∧ sz d ≤ 4000 ∧ ∀ H', Same H H' → Q (.bl (f d n)) H'
def spT2 (f : PyData → Int → Int → Bool) : Sp := fun vs H Q _ => ∃ S v d n m, vs = [v, .int n, .int m] ∧ IsTh S H v d ∧ sz d ≤ 4000 ∧ ∀ H', Same H H' → Q (.bl (f d n m)) H'
structure Mg (mg : Str → Option Value) : Prop where
  isinstance : mg "isinstance" = none
  int : mg "int" = none
  bool : mg "bool" = none
  tuple : mg "tuple" = none
  len : mg "len" = none
  all : mg "all" = none
theorem boot_int : bootBuiltins "int" = some (.type "int") := by decide +kernel
theorem boot_bool : bootBuiltins "bool" = some (.type "bool") := by decide +kernel
theorem boot_tuple : bootBuiltins "tuple" = some (.type "tuple") := by decide +kernel
theorem boot_isinstance : bootBuiltins "isinstance" = some (.builtin "isinstance") := by decide +kernel
theorem boot_all : bootBuiltins "all" = some (.builtin "all") := by decide +kernel
/-- all([.. for x in t]) of a tuple of things: read -/
theorem all_things {K : PySem.W.Frag} {S : Addr → Prop} {te : TE} {src : List (Option Nat)} {i j : Nat} {σ : St} {H : Hp} {Q : VK} {a : Addr} {xs : List V} {ds : List PyData} (f : PyData → Bool) (hσ : σ[i]? = some (some (.ref a))) (ea : H a = some (.tup xs)) (r : IsThs S H xs ds) (hl : xs.length < sizeLine)
    (hte : ∀ v d H1 Q1, d ∈ ds → Same H H1 → IsTh S H1 v d → (∀ H', Same H1 H' → Q1 (.bl (f d)) H') → te ((capσ σ src).set j (some v)) H1 Q1) (q : ∀ H', Same H H' → Q (.bl (ds.all f)) H') :
    tCB (fun xs H Q => ∃ (p : Addr) (bs : List Bool), xs = [.ref p] ∧ SqL K H p (bs.map V.bl) ∧ Q (.bl (bs.all id)) H) (tCons (tComp (iTup K (tVar i)) src (gName j) tYes te) tNil) σ H Q := by
  refine ⟨_, hσ, a, rfl, ⟨xs, SqT.of ea⟩, comp_truths (j := j) f ea r hl hte fun H2 s2 D hD => ⟨D, ds.map f, rfl, ?_, ?_⟩⟩
  · rw [← bools_of]
    exact SqL.of upd_same
  · rw [all_of]
    exact q _ (s2.updR hD)
/-- the module's numbers -/
structure Nums (mg : Str → Option Value) : Prop where
  many : ∃ t, mg "MOST_WEIGHTS" = some (.int 80 t)
  most : ∃ t, mg "MOST_WEIGHT" = some (.int 99 t)
theorem whole_int {S : Addr → Prop} {H : Hp} {v : V} {d : PyData} (h : IsTh S H v d) (e : wholeD d = true) : ∃ i, v = .int i ∧ d = .int i := by
  cases h with
  | int i => exact ⟨i, rfl, rfl⟩
  | _ => cases e
theorem tupOf_len {ds : List PyData} {n m : Int} (h : tupOfD (.tuple ds) n m = true) : n ≤ (ds.length : Int) ∧ (ds.length : Int) ≤ m := by
  have h : (true && (decide (n ≤ (ds.length : Int)) && decide ((ds.length : Int) ≤ m))) = true := h
  rw [Bool.true_and, Bool.and_eq_true] at h
  exact ⟨of_decide_eq_true h.1, of_decide_eq_true h.2⟩
/-- a def that may be called by its name -/
def Cal (P : Program) (w : World) (K : PySem.W.Frag) (mg : Str → Option Value) (base : Heap) (k : Nat) (x : Str) (ps : List Str) (sp : Sp) : Prop :=
  ∃ f fd, FnOk P w K mg base CX0 k f fd ps sp ∧ mg x = some (.ref f) ∧ PySem.W.keepIn K (.ref f) = true ∧ Binds K fd ps []
theorem pe_cal {X : Cx} {k j : Nat} {x : Str} {ps : List Str} {sp : Sp} {p pos : Pos} {e : Expr} {es : List Expr} {t : TA} (c : Cal X.prog X.w X.K X.mg X.base j x ps sp) (hr : Room k X.A) (hjk : j ≤ k) (hg : Gl X x) (ha : PA X (e :: es) t)
    (hdb : (x == ("__debug__" : Str)) = false := by decide) (he : starEach (e :: es) X.env = (false, eval e X.env) :: starEach es X.env := by rfl) (hpl : (backTo pos (starEach es X.env)).any (·.1) = false := by rfl) :
    PE X (.Call (.Name x p) (e :: es) [] pos) (tCall sp [] E0 t) := by
  obtain ⟨f, fd, F, hm, hk, hb⟩ := c
  exact pe_call F (hr.mono hjk) hg hm hk hb .nil pass0 ha hdb he hpl
def betD (d : PyData) (lo hi : Int) : Bool := wholeD d && (decide (lo ≤ intOf d) && decide (intOf d ≤ hi))
def weightsD (d : PyData) : Bool := tupOfD d 1 80 && (items d).all fun x => betD x 1 99
theorem boot_sorted : bootBuiltins "sorted" = some (.builtin "sorted") := by decide +kernel
theorem boot_sum : bootBuiltins "sum" = some (.builtin "sum") := by decide +kernel
/-- a comprehension of n turns -/
theorem comp_gen {J : It} {g : TG} {te : TE} {σ0 : St} {H0 : Hp} {Fin : List V → Hp → Prop} (n : Nat) (Pv : Nat → List V → St → Hp → Prop) (h0 : Pv 0 [] σ0 H0) (hz : n < sizeLine)
    (step : ∀ i ys σ H, i < n → ys.length = i → Pv i ys σ H → J.go i H ∧ ∀ x H', J.yld i H x H' → ∀ R : V → St → Hp → Prop, (∀ y σ2 H4, Pv (i + 1) (ys ++ [y]) σ2 H4 → R y σ2 H4) → g x σ H' fun σ2 H2 => te σ2 H2 fun y H4 => R y σ2 H4)
    (fin : ∀ ys σ H, ys.length = n → Pv n ys σ H → J.stop n H ∧ Fin ys H) : CompW J g tYes te Fin σ0 H0 := by
  refine ⟨fun i m ys σ H => m = n - i ∧ i ≤ n ∧ ys.length = i ∧ Pv i ys σ H, ⟨_, rfl, Nat.zero_le _, rfl, h0⟩, ?_⟩
  rintro i m ys σ H ⟨rfl, hi, hy, p⟩
  refine ⟨by omega, ?_⟩
  by_cases hlt : i < n
  · obtain ⟨go, st⟩ := step i ys σ H hlt hy p
    exact .inr ⟨go, fun x H' y => st x H' y _ fun y σ2 H4 p2 => ⟨n - (i + 1), by omega, rfl, hlt, by rw [List.length_append, hy]; rfl, p2⟩⟩
  · have e : i = n := by omega
    subst e
    exact .inl (fin ys σ H hy p)
theorem nd2 (x y : Str) (h : x ≠ y) : ([x, y] : List Str).Nodup := by simp [h]
section
variable {P : Program} {w : World} {K : PySem.W.Frag} {mg : Str → Option Value} {base : Heap}

theorem sc1 : FnScope ["thing"] ["thing"] (defScope (top 20)) := ⟨rfl, rfl, rfl, by decide +kernel, rfl, by decide +kernel, by decide +kernel⟩
theorem ok_is_whole {f : Addr} {fd : FuncData} (F : Fun K "is_whole" "is_whole" (top 20) f fd) (T : Mg mg) : FnOk P w K mg base CX0 1 f fd ["thing"] (spT wholeD) := by
  refine F.ok sc1 (fun vs H Q E h => ?_) (fun cdv A outer s H vs Q E hr h => ?_)
  · obtain ⟨S, v, d, rfl, _⟩ := h
    rfl
  · obtain ⟨S, v, d, rfl, th, hz, q⟩ := h
    refine ⟨_, pss_one (ps_ret (pe_and (pe_callB call_isinst rfl T.isinstance boot_isinstance (pa_cons (pv 0) (pa_cons (pe_bltn rfl T.int boot_int (v := .ty "int") rfl) pa_nil)))
      (pe_one (pe_not (pe_callB call_isinst rfl T.isinstance boot_isinstance (pa_cons (pv 0) (pa_cons (pe_bltn rfl T.bool boot_bool (v := .ty "bool") rfl) pa_nil))))))), ?_⟩
    refine ⟨_, rfl, v, _, "int", isIntD d, rfl, th.ty, kit_int d, _, rfl, ?_⟩
    have fin := q H (Same.refl H)
    unfold wholeD at fin
    cases e : isIntD d with
    | false =>
      rw [e] at fin
      exact iteF fin
    | true =>
      rw [e] at fin
      exact iteT ⟨_, rfl, v, _, "bool", isBoolD d, rfl, th.ty, kit_bool d, _, rfl, fin⟩
/-! ### is_tuple_of -/
theorem sc2 : FnScope ["thing", "fewest", "most"] ["thing", "fewest", "most"] (defScope (top 22)) := ⟨rfl, rfl, rfl, by decide +kernel, rfl, by decide +kernel, by decide +kernel⟩
theorem ok_is_tuple_of {f : Addr} {fd : FuncData} (F : Fun K "is_tuple_of" "is_tuple_of" (top 22) f fd) (T : Mg mg) : FnOk P w K mg base CX0 1 f fd ["thing", "fewest", "most"] (spT2 tupOfD) := by
  refine F.ok sc2 (fun vs H Q E h => ?_) (fun cdv A outer s H vs Q E hr h => ?_)
  · obtain ⟨S, v, d, n, m, rfl, _⟩ := h
    rfl
  · obtain ⟨S, v, d, n, m, rfl, th, hz, q⟩ := h
    refine ⟨_, pss_one (ps_ret (pe_and (pe_callB call_isinst rfl T.isinstance boot_isinstance (pa_cons (pv 0) (pa_cons (pe_bltn rfl T.tuple boot_tuple (v := .ty "tuple") rfl) pa_nil)))
      (pe_one (pe_chain op_le op_le (pv 1) (pe_callB call_len_seq rfl T.len PySem.boot_len (pa_cons (pv 0) pa_nil)) (pv 2))))), ?_⟩
    refine ⟨_, rfl, v, _, "tuple", isTupD d, rfl, th.ty, kit_tup d, _, rfl, ?_⟩
    have fin := q H (Same.refl H)
    unfold tupOfD at fin
    cases e : isTupD d with
    | false =>
      rw [e] at fin
      exact iteF fin
    | true =>
      rw [e] at fin
      refine iteT ?_
      cases th with
      | @tup a xs ds ea r =>
        have hl := r.length
        refine ⟨_, rfl, _, rfl, a, xs, rfl, .inr (SqT.of ea), _, _, rfl, rfl, _, rfl, ?_⟩
        rw [hl]
        have fin : Q (.bl (true && (decide (n ≤ (ds.length : Int)) && decide ((ds.length : Int) ≤ m)))) H := fin
        cases e1 : decide (n ≤ (ds.length : Int)) with
        | false =>
          rw [e1] at fin
          exact iteF fin
        | true =>
          rw [e1] at fin
          exact iteT ⟨_, rfl, _, _, rfl, rfl, fin⟩
      | _ => cases e
/-! ### is_whole_from -/
theorem sc6 : FnScope ["thing", "least", "most"] ["thing", "least", "most"] (defScope (top 21)) := ⟨rfl, rfl, rfl, by decide +kernel, rfl, by decide +kernel, by decide +kernel⟩
theorem ok_whole_from {f : Addr} {fd : FuncData} (F : Fun K "is_whole_from" "is_whole_from" (top 21) f fd) (c1 : Cal P w K mg base 1 "is_whole" ["thing"] (spT wholeD)) : FnOk P w K mg base CX0 2 f fd ["thing", "least", "most"] (spT2 betD) := by
  refine F.ok sc6 (fun vs H Q E h => ?_) (fun cdv A outer s H vs Q E hr h => ?_)
  · obtain ⟨S, v, d, n, m, rfl, _⟩ := h
    rfl
  · obtain ⟨S, v, d, n, m, rfl, th, hz, q⟩ := h
    refine ⟨_, pss_one (ps_ret (pe_and (pe_cal c1 hr (Nat.le_refl _) rfl (pa_cons (pv 0) pa_nil)) (pe_one (pe_chain op_le op_le (pv 1) (pv 0) (pv 2))))), ?_⟩
    refine ⟨_, rfl, S, v, d, rfl, th, hz, fun H1 s1 => ⟨_, rfl, ?_⟩⟩
    have fin := q H1 s1
    unfold betD at fin
    cases e : wholeD d with
    | false =>
      rw [e] at fin
      exact iteF fin
    | true =>
      rw [e] at fin
      obtain ⟨i, rfl, rfl⟩ := whole_int th e
      exact iteT (ev_chain (ev_v rfl) (ev_v rfl) (ev_v rfl) _ fin)
/-! ### are_weights -/
theorem sc19 : FnScope ["thing"] ["thing"] (defScope (top 27)) := ⟨rfl, rfl, rfl, by decide +kernel, rfl, by decide +kernel, by decide +kernel⟩
theorem ok_are_weights {f : Addr} {fd : FuncData} (F : Fun K "are_weights" "are_weights" (top 27) f fd) (T : Mg mg) (N : Nums mg) (c1 : Cal P w K mg base 2 "is_whole_from" ["thing", "least", "most"] (spT2 betD)) (c2 : Cal P w K mg base 1 "is_tuple_of" ["thing", "fewest", "most"] (spT2 tupOfD)) :
    FnOk P w K mg base CX0 4 f fd ["thing"] (spT weightsD) := by
  refine F.ok sc19 (fun vs H Q E h => ?_) (fun cdv A outer s H vs Q E hr h => ?_)
  · obtain ⟨S, v, d, rfl, _⟩ := h
    rfl
  · obtain ⟨S, v, d, rfl, th, hz, q⟩ := h
    obtain ⟨t3, e3⟩ := N.many
    obtain ⟨t4, e4⟩ := N.most
    refine ⟨_, pss_one (ps_ret (pe_and (pe_cal c2 hr (by decide) rfl (pa_cons (pv 0) (pa_cons pe_int (pa_cons (pe_glob (v := .int 80) rfl e3 ⟨_, rfl⟩) pa_nil))))
      (pe_one (pe_callB (call_all rfl) rfl T.all boot_all (pa_cons (pe_comp ["part"] [none] rfl (pi_tup (pv 0))
        (fun C fp pins s₂ H₂ => ⟨pg_name (i := 0) (nd1 _) rfl (Or.inl rfl), pts_nil, pe_cal c1 hr (by decide) rfl (pa_cons (pv 0) (pa_cons pe_int (pa_cons (pe_glob (v := .int 99) rfl e4 ⟨_, rfl⟩) pa_nil)))⟩) (fun C => trivial) ⟨rfl, rfl, rfl, rfl⟩) pa_nil))))), ?_⟩
    refine ⟨_, rfl, S, v, d, 1, 80, rfl, th, hz, fun H1 s1 => ⟨_, rfl, ?_⟩⟩
    have th1 := th.same s1
    have fin := fun H' (s : Same H H') => q H' s
    unfold weightsD at fin
    cases e : tupOfD d 1 80 with
    | false =>
      rw [e] at fin
      exact iteF (fin _ s1)
    | true =>
      rw [e] at fin
      refine iteT ?_
      cases th1 with
      | @tup a xs ds ea r => exact all_things (fun x => betD x 1 99) rfl ea r (len_line r hz) (fun v d H2 Q2 hm s2 t2 q2 => ⟨_, rfl, S, v, d, 1, 99, rfl, t2, in_sz hm hz, q2⟩) fun H2 s2 => fin _ (s1.trans s2)
      | _ => cases e
end
theorem get_listP {X : Cx} : PGet X (fun x y H Q => ∃ p xs i v, x = .ref p ∧ y = .int i ∧ SqL X.K H p xs ∧ 0 ≤ i ∧ xs[i.toNat]? = some v ∧ Q v H) := by
  intro pins s σ H x y v u Q I rx ry h
  obtain ⟨p, xs, i, z, rfl, rfl, hq, h0, he, q⟩ := h
  cases rx
  obtain ⟨t, rfl⟩ := ry
  obtain ⟨its, r, pl, hz⟩ := I.list hq
  obtain ⟨w, ew, rw'⟩ := r.get he
  have hn := line63
  have hl := r.length
  have hi := (List.getElem?_eq_some_iff.mp he).1
  exact PySem.wpAny_getItem_list pl.isList h0 (by omega) (by simpa using ew) ⟨z, H, I, rw', q⟩
section
variable {X : Cx} {K : PySem.W.Frag} {tg l : Expr} {tl : TE}
end
/-- the state of the draws, at st -/
def StAt (H : Hp) (st : Addr) : Prop := ∃ a b c : Int, H st = some (.lst [.int a, .int b, .int c]) ∧ 0 ≤ a ∧ 0 ≤ b ∧ b < 4294967296
/-- nothing that there was is turned, but the draws at st -/
structure Dr (st : Addr) (H H' : Hp) : Prop where
  bt : ∀ b o, H b = some o → b ≠ st → H' b = some o
  sa : StAt H' st
theorem Dr.same {st : Addr} {H H1 H2 : Hp} (g : Dr st H H1) (s : Same H1 H2) : Dr st H H2 := by
  obtain ⟨a, b, c, e, h⟩ := g.sa
  exact ⟨fun b' o' e' ne => s _ _ (g.bt b' o' e' ne), a, b, c, s _ _ e, h⟩
theorem Dr.trans {st : Addr} {H H1 H2 : Hp} (g : Dr st H H1) (g' : Dr st H1 H2) : Dr st H H2 := ⟨fun b' o' e' ne => g'.bt _ _ (g.bt b' o' e' ne) ne, g'.sa⟩
theorem Dr.refl {st : Addr} {H : Hp} (h : StAt H st) : Dr st H H := ⟨fun _ _ e _ => e, h⟩
theorem Dr.draw {st : Addr} {H H1 : Hp} (g : Dr st H H1) {a b c : Int} (h1 : 0 ≤ a) (h2 : 0 ≤ b) (h3 : b < 4294967296) : Dr st H (upd H1 st (.lst [.int a, .int b, .int c])) :=
  ⟨fun b' o' e' ne => by rw [upd_ne ne]; exact g.bt _ _ e' ne, a, b, c, upd_same, h1, h2, h3⟩
theorem Dr.ne {st p : Addr} {H H1 : Hp} (g : Dr st H H1) (hp : H1 p = none) : p ≠ st := fun z => by
  obtain ⟨a, b, c, e, _⟩ := g.sa
  rw [z, e] at hp
  cases hp
theorem Dr.tups {st : Addr} {H H1 : Hp} (g : Dr st H H1) (h0 : StAt H st) : ∀ b xs, H b = some (.tup xs) → H1 b = some (.tup xs) := fun b xs e => g.bt _ _ e fun z => by
  obtain ⟨_, _, _, e', _⟩ := h0
  rw [z, e'] at e
  cases e
def spCell (K : PySem.W.Frag) : Sp := fun vs H Q _ => ∃ (a : Addr) (ns : List Int) (k : Int), vs = [.ref a, .int k] ∧ SqL K H a (ns.map V.int) ∧ 0 ≤ k ∧ ∀ i, Q (.int i) H
def spState (K : PySem.W.Frag) : Sp := fun vs H Q _ => ∃ (a : Addr) (ns : List Int) (k : Int), vs = [.ref a, .int k] ∧ SqL K H a (ns.map V.int) ∧ 0 ≤ k ∧ ∀ (p : Addr) (x y z : Int), H p = none → 0 ≤ x → 0 ≤ y → y < 4294967296 → Q (.ref p) (upd H p (.lst [.int x, .int y, .int z]))
def spChoice : Sp := fun vs H Q _ => ∃ (st : Addr) (n : Int), vs = [.ref st, .int n] ∧ StAt H st ∧ 1 ≤ n ∧ n < 1073741824 ∧ ∀ r a b c : Int, 0 ≤ r → r < n → 0 ≤ a → 0 ≤ b → b < 4294967296 → Q (.int r) (upd H st (.lst [.int a, .int b, .int c]))
theorem boot_max' : bootBuiltins "max" = some (.builtin "max") := by decide +kernel
theorem boot_min' : bootBuiltins "min" = some (.builtin "min") := by decide +kernel
theorem boot_repr' : bootBuiltins "repr" = some (.builtin "repr") := by decide +kernel
theorem room_sz {A : Around} {k : Nat} (hr : Room k A) (hk : 60 ≤ k) {d : PyData} (h : sz d ≤ 1000) : A.units + (sz d + 1) < cLine := by
  have := hr.un
  omega
section
variable {P : Program} {w : World} {K : PySem.W.Frag} {mg : Str → Option Value} {base : Heap}
theorem sc25 : FnScope ["_law_script", "_law_k"] ["_law_script", "_law_k"] (defScope (top 34)) := ⟨rfl, rfl, rfl, by decide +kernel, rfl, by decide +kernel, by decide +kernel⟩
theorem ok_cell {f : Addr} {fd : FuncData} (F : Fun K "_law_cell_at" "_law_cell_at" (top 34) f fd) (T : Mg mg) : FnOk P w K mg base CX0 1 f fd ["_law_script", "_law_k"] (spCell K) := by
  refine F.ok sc25 (fun vs H Q E h => ?_) (fun cdv A outer s H vs Q E hr h => ?_)
  · obtain ⟨a, ns, k, rfl, _⟩ := h
    rfl
  · obtain ⟨a, ns, k, rfl, hS, h0, q⟩ := h
    refine ⟨_, pss_cons (ps_if (pt_cmpR op_lt (pv 1) (pe_callB call_len_seq rfl T.len PySem.boot_len (pa_cons (pv 0) pa_nil)) (nomark _)) (pss_one (ps_ret (pe_ix ix_list (pv 0) (pv 1) (fun _ _ => rfl)))) pss_nil) (pss_one (ps_ret pe_int)), ?_⟩
    refine ⟨_, rfl, _, rfl, a, _, rfl, .inl hS, _, _, rfl, rfl, _, rfl, ?_⟩
    refine ite2 (fun c => ?_) (fun _ => q 0)
    have c := of_decide_eq_true c
    rw [List.length_map] at c
    have hk : k.toNat < ns.length := by omega
    refine ⟨_, rfl, _, rfl, a, _, k, .int ns[k.toNat], rfl, rfl, hS, ?_, q _⟩
    have e : (ns.map V.int)[k.toNat]? = some (.int ns[k.toNat]) := by rw [List.getElem?_map, List.getElem?_eq_getElem hk]; rfl
    have := atI_nat e
    rw [show ((k.toNat : Nat) : Int) = k by omega] at this
    exact this
theorem sc26 : FnScope ["_law_script", "_law_k", "_law_cell"] ["_law_script", "_law_k"] (defScope (top 35)) := ⟨rfl, rfl, rfl, by decide +kernel, rfl, by decide +kernel, by decide +kernel⟩
theorem ok_state {f : Addr} {fd : FuncData} (F : Fun K "_law_state" "_law_state" (top 35) f fd) (Tm : mg "max" = none) (c1 : Cal P w K mg base 1 "_law_cell_at" ["_law_script", "_law_k"] (spCell K)) : FnOk P w K mg base CX0 2 f fd ["_law_script", "_law_k"] (spState K) := by
  refine F.ok sc26 (fun vs H Q E h => ?_) (fun cdv A outer s H vs Q E hr h => ?_)
  · obtain ⟨a, ns, k, rfl, _⟩ := h
    rfl
  · obtain ⟨a, ns, k, rfl, hS, h0, q⟩ := h
    refine ⟨_, pss_cons (ps_set (i := 2) sc26.nd rfl (Or.inl rfl) (pe_cal c1 hr (Nat.le_refl _) rfl (pa_cons (pv 0) (pa_cons (pv 1) pa_nil))))
      (pss_one (ps_ret (pe_lst (pa_c (pe_callB (call_max2 rfl) rfl Tm boot_max' (pa_c pe_int (pa_c (pe_op op_sub (pv 2) (pe_op op_pow pe_int pe_int)) pa_nil))) (pa_c (pe_op op_add (pe_op op_mod (pv 2) pe_int) pe_int) (pa_c pe_int pa_nil)))))), ?_⟩
    refine ⟨_, rfl, _, rfl, a, ns, k, rfl, hS, h0, fun c => ?_⟩
    refine ⟨_, rfl, _, _, rfl, rfl, ⟨by decide, by decide, by decide⟩, _, _, rfl, rfl, _, _, rfl, _, rfl, _, _, rfl, rfl, (by show (0 : Int) < 2147483629; decide), _, _, rfl, rfl, (by show 3 ≤ sizeLine; decide), fun p hp => ?_⟩
    refine q p _ _ _ hp ?_ ?_ ?_
    · split <;> omega
    · show 0 ≤ c % 2147483629 + 1
      omega
    · show c % 2147483629 + 1 < 4294967296
      omega
theorem sc27 : FnScope ["_law_state_here", "_law_many", "_law_found", "_law_mixed"] ["_law_state_here", "_law_many"] (defScope (top 36)) := ⟨rfl, rfl, rfl, by decide +kernel, rfl, by decide +kernel, by decide +kernel⟩
theorem ok_choice {f : Addr} {fd : FuncData} (F : Fun K "_law_choice" "_law_choice" (top 36) f fd) : FnOk P w K mg base CX0 1 f fd ["_law_state_here", "_law_many"] spChoice := by
  refine F.ok sc27 (fun vs H Q E h => ?_) (fun cdv A outer s H vs Q E hr h => ?_)
  · obtain ⟨st, n, rfl, _⟩ := h
    rfl
  · obtain ⟨st, n, rfl, ⟨a, b, c, es, ha, hb, hb2⟩, h1, h2, q⟩ := h
    refine ⟨_, pss_cons (ps_if (pt_cmpR op_gt (pe_ix ix_list (pv 0) pe_int (fun _ _ => rfl)) pe_int (nomark _))
        (pss_cons (ps_set (i := 2) sc27.nd rfl (Or.inl rfl) (pe_op op_mod (pe_ix ix_list (pv 0) pe_int (fun _ _ => rfl)) (pv 1)))
          (pss_cons (ps_asg (pe_op op_fdiv (pe_ix ix_list (pv 0) pe_int (fun _ _ => rfl)) (pv 1)) (pg_sub (pv 0) pe_int set_list)) (pss_one (ps_ret (pv 2))))) pss_nil)
      (pss_cons (ps_asg (pe_op op_add (pe_ix ix_list (pv 0) pe_int (fun _ _ => rfl)) pe_int) (pg_sub (pv 0) pe_int set_list))
      (pss_cons (ps_asg (pe_op op_mod (pe_op op_add (pe_op op_add (pe_op op_mul (pe_ix ix_list (pv 0) pe_int (fun _ _ => rfl)) pe_int) pe_int) (pe_ix ix_list (pv 0) pe_int (fun _ _ => rfl))) pe_int) (pg_sub (pv 0) pe_int set_list))
      (pss_cons (ps_set (i := 3) sc27.nd rfl (Or.inl rfl) (pe_op op_mod (pe_op op_add (pe_op op_add (pe_op op_mul (pe_ix ix_list (pv 0) pe_int (fun _ _ => rfl)) (pe_ix ix_list (pv 0) pe_int (fun _ _ => rfl))) (pe_op op_mul pe_int (pe_ix ix_list (pv 0) pe_int (fun _ _ => rfl)))) pe_int) pe_int))
      (pss_cons (ps_set (i := 3) sc27.nd rfl (Or.inl rfl) (pe_op op_mod (pe_op op_add (pe_op op_mul (pv 3) (pv 3)) (pe_op op_mul pe_int (pv 3))) pe_int))
      (pss_one (ps_ret (pe_op op_mod (pe_op op_fdiv (pv 3) pe_int) (pv 1)))))))), ?_⟩
    refine ⟨_, rfl, st, _, 0, .int a, rfl, rfl, SqL.of es, rfl, _, _, rfl, rfl, _, rfl, ?_⟩
    refine ite2 (fun hc => ?_) (fun _ => ?_)
    · refine ⟨_, rfl, st, _, 0, .int a, rfl, rfl, SqL.of es, rfl, _, rfl, _, _, rfl, rfl, (by show 0 < n; omega), ?_⟩
      refine ⟨_, rfl, st, _, 0, .int a, rfl, rfl, SqL.of es, rfl, _, rfl, _, _, rfl, rfl, ⟨by omega, h2⟩, _, rfl, st, _, 0, 0, rfl, rfl, es, rfl, _, rfl, ?_⟩
      exact q (a % n) (a / n) b c (Int.emod_nonneg a (by omega)) (Int.emod_lt_of_pos a (by omega)) (Int.ediv_nonneg ha (by omega)) hb hb2
    · refine ⟨_, rfl, st, _, 2, .int c, rfl, rfl, SqL.of es, rfl, _, _, rfl, rfl, _, rfl, st, _, 2, 2, rfl, rfl, es, rfl, ?_⟩
      have eL : ([V.int a, V.int b, V.int c].set 2 ((fun i j : Int => V.int (i + j)) c 1)) = [V.int a, V.int b, V.int (c + 1)] := rfl
      rw [eL]
      have es1 : upd H st (.lst [.int a, .int b, .int (c + 1)]) st = some (.lst [.int a, .int b, .int (c + 1)]) := upd_same
      refine ⟨_, rfl, st, _, 1, .int b, rfl, rfl, SqL.of es1, rfl, _, _, rfl, rfl, .inl ⟨by omega, by omega⟩, _, _, rfl, rfl, _, rfl, st, _, 2, .int (c + 1), rfl, rfl, SqL.of es1, rfl, _, _, rfl, rfl, _, _, rfl, rfl, (by show (0 : Int) < 2147483647; decide), _, rfl, st, _, 1, 1, rfl, rfl, es1, rfl, ?_⟩
      have hm0 : 0 ≤ (b * 48271 + 29 + (c + 1)) % 2147483647 := Int.emod_nonneg _ (by decide)
      have hm1 : (b * 48271 + 29 + (c + 1)) % 2147483647 < 2147483647 := Int.emod_lt_of_pos _ (by decide)
      obtain ⟨m, hm⟩ : ∃ m, m = (b * 48271 + 29 + (c + 1)) % 2147483647 := ⟨_, rfl⟩
      rw [← hm] at hm0 hm1
      have eL : ([V.int a, V.int b, V.int (c + 1)].set 1 ((fun i j : Int => V.int (i % j)) (b * 48271 + 29 + (c + 1)) 2147483647)) = [V.int a, V.int m, V.int (c + 1)] := by rw [hm]; rfl
      rw [eL]
      have eu : upd (upd H st (.lst [.int a, .int b, .int (c + 1)])) st (.lst [.int a, .int m, .int (c + 1)]) = upd H st (.lst [.int a, .int m, .int (c + 1)]) := by
        funext z
        by_cases hz : z = st
        · rw [hz, upd_same, upd_same]
        · rw [upd_ne hz, upd_ne hz, upd_ne hz]
      rw [eu]
      have es' : upd H st (.lst [.int a, .int m, .int (c + 1)]) st = some (.lst [.int a, .int m, .int (c + 1)]) := upd_same
      refine ⟨_, rfl, st, _, 1, .int m, rfl, rfl, SqL.of es', rfl, _, rfl, st, _, 1, .int m, rfl, rfl, SqL.of es', rfl, _, _, rfl, rfl, .inl ⟨by omega, by omega⟩, _, rfl, st, _, 1, .int m, rfl, rfl, SqL.of es', rfl, _, _, rfl, rfl, .inl ⟨by decide, by decide⟩, _, _, rfl, rfl, _, _, rfl, rfl, _, _, rfl, rfl, (by show (0 : Int) < 2147483629; decide), ?_⟩
      have hx0 : 0 ≤ (m * m + 39373 * m + 7) % 2147483629 := Int.emod_nonneg _ (by decide)
      have hx1 : (m * m + 39373 * m + 7) % 2147483629 < 2147483629 := Int.emod_lt_of_pos _ (by decide)
      refine ⟨_, rfl, _, rfl, _, _, rfl, rfl, .inl ⟨Int.lt_of_lt_of_le (by decide) hx0, Int.lt_trans hx1 (by decide)⟩, _, rfl, _, _, rfl, rfl, .inl ⟨by decide, by decide⟩, _, _, rfl, rfl, _, _, rfl, rfl, (by show (0 : Int) < 2147483587; decide), ?_⟩
      refine ⟨_, rfl, _, _, rfl, rfl, ⟨by decide, by decide⟩, _, rfl, _, _, rfl, rfl, (by show 0 < n; omega), ?_⟩
      exact q _ a m (c + 1) (Int.emod_nonneg _ (by omega)) (Int.emod_lt_of_pos _ (by omega)) ha hm0 (by omega)
end
theorem ok_b {X : Cx} {body : List Stmt} {t : TS} {R : TS → Prop} (h : BSs X body t) (q : R t) : ∃ t, PSs X body t ∧ R t := ⟨t, h.run, q⟩
end K12

set_option Elab.async false
set_option linter.all false
set_option maxRecDepth 100000
set_option maxHeartbeats 400000
namespace K12
/-! ### who comes first: the greater rest, of equal ones the lesser place -/
def rr (rs : List Int) (i : Nat) : Int := rs.getD i 0
def bef (rs : List Int) (i j : Nat) : Bool := decide (rr rs j < rr rs i) || (decide (rr rs i = rr rs j) && decide (i ≤ j))
theorem bef_iff {rs : List Int} {i j : Nat} : bef rs i j = true ↔ rr rs j < rr rs i ∨ (rr rs i = rr rs j ∧ i ≤ j) := by
  unfold bef
  rw [Bool.or_eq_true, Bool.and_eq_true, decide_eq_true_iff, decide_eq_true_iff, decide_eq_true_iff]
structure Ord (rs : List Int) (pl : List Nat) : Prop where
  pm : pl.Perm (List.range rs.length)
  so : pl.Pairwise fun i j => bef rs i j = true
theorem ord_ex (rs : List Int) : ∃ pl, Ord rs pl := by
  refine ⟨(List.range rs.length).mergeSort (bef rs), List.mergeSort_perm _ _, List.pairwise_mergeSort (fun a b c h1 h2 => ?_) (fun a b => ?_) _⟩
  · rw [bef_iff] at h1 h2 ⊢
    omega
  · rw [Bool.or_eq_true, bef_iff, bef_iff]
    omega
theorem ord_un {rs : List Int} {p q : List Nat} (h : Ord rs p) (h' : Ord rs q) : p = q := by
  refine List.Perm.eq_of_pairwise (fun a b _ _ h1 h2 => ?_) h.so h'.so (h.pm.trans h'.pm.symm)
  rw [bef_iff] at h1 h2
  omega
/-- one more at each of these places -/
def addAt (fs : List Int) (pl : List Nat) : List Int := pl.foldl (fun l i => l.set i (l.getD i 0 + 1)) fs
theorem addAt_snoc (fs : List Int) (pl : List Nat) (i : Nat) : addAt fs (pl ++ [i]) = (addAt fs pl).set i ((addAt fs pl).getD i 0 + 1) := by
  unfold addAt
  rw [List.foldl_append]
  rfl
theorem addAt_len : ∀ (pl : List Nat) (fs : List Int), (addAt fs pl).length = fs.length
  | [], _ => rfl
  | i :: pl, fs => by
    show (addAt (fs.set i _) pl).length = _
    rw [addAt_len pl, List.length_set]
end K12

set_option Elab.async false
set_option linter.all false
set_option maxRecDepth 100000
set_option maxHeartbeats 400000
namespace K12
open PySem L2
/-! ### what each weight gets -/
def fs (n : Int) (ws : List Int) : List Int := ws.map fun w => n * w / ws.sum
def rs (n : Int) (ws : List Int) : List Int := ws.map fun w => n * w % ws.sum
def lf (n : Int) (ws : List Int) : Int := n - (fs n ws).sum
def OkW (ws : List Int) : Prop := 1 ≤ ws.length ∧ ws.length ≤ 80 ∧ ∀ w ∈ ws, 1 ≤ w ∧ w ≤ 99
theorem sum_le {B : Int} : ∀ {l : List Int}, (∀ a ∈ l, a ≤ B) → l.sum ≤ B * l.length
  | [], _ => by simp
  | a :: l, h => by
    have h1 := sum_le (B := B) (l := l) fun b hb => h b (.tail _ hb)
    have h2 := h a (.head _)
    rw [List.sum_cons, List.length_cons, show B * ((l.length + 1 : Nat) : Int) = B * l.length + B by rw [Int.natCast_add, Int.mul_add]; simp]
    omega
theorem le_sum : ∀ {l : List Int}, (∀ a ∈ l, 0 ≤ a) → 0 ≤ l.sum
  | [], _ => by simp
  | a :: l, h => by
    have h1 := le_sum (l := l) fun b hb => h b (.tail _ hb)
    have h2 := h a (.head _)
    rw [List.sum_cons]
    omega
theorem OkW.pos {ws : List Int} (h : OkW ws) : 1 ≤ ws.sum := by
  obtain ⟨h1, _, h3⟩ := h
  match ws, h1, h3 with
  | w :: ws, _, h3 =>
    have := le_sum (l := ws) fun a ha => by have := h3 a (.tail _ ha); omega
    have := h3 w (.head _)
    rw [List.sum_cons]
    omega
theorem OkW.top {ws : List Int} (h : OkW ws) : ws.sum ≤ 7920 := by
  have h1 := sum_le (B := 99) fun a ha => (h.2.2 a ha).2
  have := h.2.1
  omega
theorem divs (n T : Int) : ∀ ws : List Int, T * (ws.map fun w => n * w / T).sum + (ws.map fun w => n * w % T).sum = n * ws.sum
  | [] => by simp
  | w :: ws => by
    have h1 := divs n T ws
    have h2 := Int.mul_ediv_add_emod (n * w) T
    simp only [List.map_cons, List.sum_cons, Int.mul_add]
    omega
theorem lf_T (n : Int) (ws : List Int) : ws.sum * lf n ws = (rs n ws).sum := by
  have h := divs n ws.sum ws
  unfold lf fs rs
  rw [Int.mul_sub, Int.mul_comm ws.sum n]
  omega
theorem rs_nn {n : Int} {ws : List Int} (h : OkW ws) : ∀ r ∈ rs n ws, 0 ≤ r := fun r hr => by
  obtain ⟨w, _, rfl⟩ := List.mem_map.mp hr
  have := h.pos
  exact Int.emod_nonneg _ (by omega)
theorem rs_lt {n : Int} {ws : List Int} (h : OkW ws) : ∀ r ∈ rs n ws, r ≤ ws.sum := fun r hr => by
  obtain ⟨w, _, rfl⟩ := List.mem_map.mp hr
  have := h.pos
  exact Int.le_of_lt (Int.emod_lt_of_pos _ (by omega))
theorem fs_len (n : Int) (ws : List Int) : (fs n ws).length = ws.length := List.length_map _
theorem rs_len (n : Int) (ws : List Int) : (rs n ws).length = ws.length := List.length_map _
theorem lf_nn {n : Int} {ws : List Int} (h : OkW ws) : 0 ≤ lf n ws := by
  have h1 := lf_T n ws
  have h2 := le_sum (rs_nn (n := n) h)
  have h3 := h.pos
  refine Int.le_of_not_gt fun c => ?_
  have := Int.mul_le_mul_of_nonneg_left (c := ws.sum) (show lf n ws ≤ -1 by omega) (by omega)
  omega
theorem lf_le {n : Int} {ws : List Int} (h : OkW ws) : lf n ws ≤ ws.length := by
  have h1 := lf_T n ws
  have h2 := sum_le (rs_lt (n := n) h)
  rw [rs_len] at h2
  have h3 := h.pos
  refine Int.le_of_not_gt fun c => ?_
  have := Int.mul_le_mul_of_nonneg_left (c := ws.sum) (show (ws.length : Int) + 1 ≤ lf n ws by omega) (by omega)
  rw [Int.mul_add] at this
  omega
theorem Ord.len {r : List Int} {pl : List Nat} (h : Ord r pl) : pl.length = r.length := by rw [h.pm.length_eq, List.length_range]
theorem Ord.lt {r : List Int} {pl : List Nat} (h : Ord r pl) : ∀ i ∈ pl, i < r.length := fun i hi => List.mem_range.mp (h.pm.mem_iff.mp hi)
noncomputable def res (n : Int) (ws : List Int) : List Int := addAt (fs n ws) ((ord_ex (rs n ws)).choose.take (lf n ws).toNat)
theorem res_of {n : Int} {ws : List Int} {pl : List Nat} (h : Ord (rs n ws) pl) : addAt (fs n ws) (pl.take (lf n ws).toNat) = res n ws := by
  unfold res
  rw [ord_un h (ord_ex (rs n ws)).choose_spec]
end K12

set_option Elab.async false
set_option linter.all false
set_option maxRecDepth 100000
set_option maxHeartbeats 400000
namespace K12
open PySem L2
/-- ints made of a tuple of ints -/
theorem comp_ints {K : PySem.W.Frag} {te : TE} {p : Addr} {ws : List Int} {σ0 : St} {H0 : Hp} {Fin : List V → Hp → Prop} (f : Int → Int) (ep : H0 p = some (.tup (ws.map V.int))) (hl : ws.length < sizeLine)
    (hte : ∀ (z : Int) (Q : VK), z ∈ ws → Q (.int (f z)) H0 → te (σ0.set 0 (some (.int z))) H0 Q) (fin : Fin ((ws.map f).map V.int) H0) : CompW (Itt K p) (gName 0) tYes te Fin σ0 H0 := by
  refine comp_gen ws.length (fun i ys σ H => H = H0 ∧ (∀ o, σ.set 0 o = σ0.set 0 o) ∧ ys = ((ws.take i).map f).map V.int) ⟨rfl, fun _ => rfl, rfl⟩ hl ?_ ?_
  · rintro i ys σ H hi hy ⟨rfl, hσ, rfl⟩
    have hz : (ws.map V.int)[i]? = some (.int ws[i]) := by rw [List.getElem?_map, List.getElem?_eq_getElem hi]; rfl
    refine ⟨⟨_, _, SqT.of ep, hz⟩, fun v H' y' R hR => ?_⟩
    obtain ⟨rfl, y'⟩ := y'
    have hv := y' _ (SqT.of ep)
    rw [hz] at hv
    cases hv
    show te (σ.set 0 (some (.int ws[i]))) _ _
    rw [hσ]
    refine hte ws[i] _ (List.getElem_mem hi) (hR _ _ _ ⟨rfl, fun o => by rw [List.set_set], ?_⟩)
    rw [List.take_add_one, List.getElem?_eq_getElem hi, List.map_append, List.map_append]
    rfl
  · rintro ys σ H hy ⟨rfl, hσ, rfl⟩
    refine ⟨⟨_, SqT.of ep, by rw [List.length_map]; exact Nat.le_refl _⟩, ?_⟩
    rw [List.take_length]
    exact fin
/-! ### refuse_unpartable -/
def wD (ws : List Int) : PyData := .tuple (ws.map PyData.int)
theorem szs_ints : ∀ (r : List Int), szs (r.map PyData.int) = r.length
  | [] => rfl
  | _ :: r => by
    show 1 + szs (r.map PyData.int) = r.length + 1
    rw [szs_ints r, Nat.add_comm]
theorem sz_w (ws : List Int) : sz (wD ws) = 1 + ws.length := by
  show 1 + szs (ws.map PyData.int) = _
  rw [szs_ints]
def spPlaces : Sp := fun vs H Q _ => ∃ p rests, vs = [.ref p] ∧ H p = some (.lst ((rests : List Int).map V.int)) ∧ rests.length < sizeLine ∧ ∀ H' q pl, Ord rests pl → Same H H' → H q = none → H' q = some (.lst (pl.map fun j : Nat => V.int (j : Int))) → Q (.ref q) H'
def spParts : Sp := fun vs H Q _ => ∃ n p ws, vs = [.int n, .ref p] ∧ H p = some (.tup (ws.map V.int)) ∧ OkW ws ∧ 0 ≤ n ∧ n ≤ ws.sum ∧ ∀ H' q, Same H H' → H' q = some (.tup ((res n ws).map V.int)) → Q (.ref q) H'
def sndAt (H : Hp) (a : Addr) : Nat := match H a with
  | some (.tup [_, .int y]) => y.toNat
  | _ => 0
def rowAt (H : Hp) (a : Addr) : List Int := match H a with
  | some (.tup [.int x, .int y]) => [x, y]
  | _ => []
theorem rr_of {rests : List Int} {i : Nat} {x : Int} (h : rests[i]? = some x) : rr rests i = x := by
  unfold rr
  rw [List.getD_eq_getElem?_getD, h]
  rfl
theorem lex_bef {rests : List Int} {i j : Nat} (h : HT.lexLt [-(rr rests j), (j : Int)] [-(rr rests i), (i : Int)] = false) : bef rests i j = true := by
  rw [bef_iff]
  rw [HT.lexLt_cons] at h
  by_cases e : -(rr rests j) = -(rr rests i)
  · rw [if_pos e, HT.lexLt_cons] at h
    by_cases e2 : (j : Int) = (i : Int)
    · exact .inr ⟨by omega, by omega⟩
    · rw [if_neg e2] at h
      have := of_decide_eq_false h
      exact .inr ⟨by omega, by omega⟩
  · rw [if_neg e] at h
    have := of_decide_eq_false h
    exact .inl (by omega)
section
variable {P : Program} {w : World} {K : PySem.W.Frag} {mg : Str → Option Value} {base : Heap}
theorem sc13 : FnScope ["rests", "ranked"] ["rests"] (defScope (top 29)) := ⟨rfl, rfl, rfl, by decide +kernel, rfl, by decide +kernel, by decide +kernel⟩
theorem ok_places {f : Addr} {fd : FuncData} (F : Fun K "places_by_rest" "places_by_rest" (top 29) f fd) (Te : mg "enumerate" = none) (Ts : mg "sorted" = none) : FnOk P w K mg base CX0 1 f fd ["rests"] spPlaces := by
  refine F.ok sc13 (fun vs H Q E h => ?_) (fun cdv A outer s H vs Q E hr h => ?_)
  · obtain ⟨p, rests, rfl, _⟩ := h
    rfl
  · obtain ⟨p, rests, rfl, ep, hz, q⟩ := h
    refine ⟨_, pss_cons (ps_set (i := 1) sc13.nd rfl (Or.inl rfl) (pe_callB call_sortedT rfl Ts boot_sorted (pa_c (pe_comp (g := gTup K 2 (gCons (gName 0) (gCons (gName 1) gNil))) ["at", "rest"] [none, none] rfl (EL.pi_enum rfl Te (pa_c (pv 0) pa_nil))
        (fun C fp pins s₂ H₂ => ⟨pg_tupK rfl rfl (pgs_cons (pg_name (i := 0) (nd2 _ _ (by decide)) rfl (Or.inl rfl) (Or.inr rfl)) (pgs_cons (pg_name (i := 1) (nd2 _ _ (by decide)) rfl (Or.inl rfl) (Or.inr rfl)) pgs_nil)), pts_nil,
          pe_tup (pa_c (pe_un un_neg (pv 1)) (pa_c (pv 0) pa_nil))⟩) (fun C => trivial) ⟨rfl, rfl, rfl, rfl⟩) pa_nil)))
      (pss_one (ps_ret (pe_comp (g := gTup K 2 (gCons (gName 0) (gCons (gName 1) gNil))) ["minus", "at"] [none, none] rfl (pi_list (pv 1))
        (fun C fp pins s₂ H₂ => ⟨pg_tupK rfl rfl (pgs_cons (pg_name (i := 0) (nd2 _ _ (by decide)) rfl (Or.inl rfl) (Or.inr rfl)) (pgs_cons (pg_name (i := 1) (nd2 _ _ (by decide)) rfl (Or.inl rfl) (Or.inr rfl)) pgs_nil)), pts_nil,
          pv 1⟩) (fun C => trivial) ⟨rfl, rfl, rfl, rfl⟩))), ?_⟩
    refine rd_seq ?_
    refine ⟨_, rfl, p, _, rfl, SqL.of ep, comp_gen rests.length (fun i ys σ Hc => Same H Hc ∧ (∃ o1 o2, σ = [o1, o2]) ∧ ∃ ts : List Addr, ys = ts.map V.ref ∧ ∀ j, j < i → ∃ a, ts[j]? = some a ∧ Hc a = some (.tup [.int (-(rr rests j)), .int (j : Int)])) ⟨Same.refl H, ⟨_, _, rfl⟩, [], rfl, fun j hj => absurd hj (Nat.not_lt_zero _)⟩ hz ?_ ?_⟩
    · rintro i ys σ Hc hi hy ⟨s1, ⟨o1, o2, rfl⟩, ts, rfl, hts⟩
      rw [List.length_map] at hy
      have sq1 : SqL K Hc p (rests.map V.int) := SqL.of (s1 _ _ ep)
      have hx : (rests.map V.int)[i]? = some (.int (rr rests i)) := by
        rw [List.getElem?_map, List.getElem?_eq_getElem hi, rr_of (List.getElem?_eq_getElem hi)]
        rfl
      refine ⟨⟨_, _, sq1, hx⟩, fun v H' y R hR => ?_⟩
      obtain ⟨T, nT, rfl, y⟩ := y
      obtain ⟨x', hx', rfl⟩ := y _ sq1
      rw [hx] at hx'
      cases hx'
      have s2 := s1.updR (o := .tup [.int (i : Int), .int (rr rests i)]) nT
      refine ⟨T, _, rfl, SqT.of upd_same, rfl, _, _, rfl, _, _, rfl, rfl, _, rfl, rr rests i, rfl, _, rfl, (by show 2 ≤ sizeLine; decide), fun t ht => ?_⟩
      refine hR _ _ _ ⟨s2.updR ht, ⟨_, _, rfl⟩, ts ++ [t], by rw [List.map_append]; rfl, fun j hj => ?_⟩
      by_cases e : j < i
      · obtain ⟨a, h1, h2⟩ := hts j e
        refine ⟨a, by rw [List.getElem?_append_left (by omega)]; exact h1, ?_⟩
        exact Same.upd ht _ _ (Same.upd nT _ _ h2)
      · have e : j = i := by omega
        subst e
        refine ⟨t, by rw [List.getElem?_append_right (by omega), hy, Nat.sub_self]; rfl, upd_same⟩
    · rintro ys σ Hc hy ⟨s1, _, ts, rfl, hts⟩
      rw [List.length_map] at hy
      refine ⟨⟨_, SqL.of (s1 _ _ ep), by rw [List.length_map]; exact Nat.le_refl _⟩, fun D hD => ?_⟩
      have s2 := s1.updR (o := .lst (ts.map V.ref)) hD
      have hts2 : ∀ j, j < rests.length → ∃ a, ts[j]? = some a ∧ upd Hc D (.lst (ts.map V.ref)) a = some (.tup [.int (-(rr rests j)), .int (j : Int)]) := fun j hj => by
        obtain ⟨a, h1, h2⟩ := hts j hj
        exact ⟨a, h1, Same.upd hD _ _ h2⟩
      have eD := upd_same (H := Hc) (a := D) (o := .lst (ts.map V.ref))
      generalize upd Hc D (.lst (ts.map V.ref)) = H2 at s2 hts2 eD ⊢
      clear hts hD s1
      have hta : ∀ a ∈ ts, ∃ j, j < rests.length ∧ H2 a = some (.tup [.int (-(rr rests j)), .int (j : Int)]) := fun a ha => by
        obtain ⟨j, hj, e⟩ := List.getElem_of_mem ha
        obtain ⟨b, h1, h2⟩ := hts2 j (by omega)
        rw [List.getElem?_eq_getElem hj] at h1
        injection h1 with h1
        refine ⟨j, by omega, ?_⟩
        rw [← e, h1]
        exact h2
      refine ⟨D, ts, rowAt H2, rfl, SqL.of eD, fun a ha => ?_, fun q' l' hq pm so => ?_⟩
      · obtain ⟨j, hj, e⟩ := hta a ha
        have er : rowAt H2 a = [-(rr rests j), (j : Int)] := by unfold rowAt; rw [e]
        rw [er]
        exact ⟨SqT.of e, by simp⟩
      have hla : ∀ a ∈ l', ∃ j, j < rests.length ∧ H2 a = some (.tup [.int (-(rr rests j)), .int (j : Int)]) := fun a ha => hta a (pm.mem_iff.mp ha)
      have sn : ∀ a ∈ l', H2 a = some (.tup [.int (-(rr rests (sndAt H2 a))), .int (sndAt H2 a : Int)]) ∧ rowAt H2 a = [-(rr rests (sndAt H2 a)), (sndAt H2 a : Int)] := fun a ha => by
        obtain ⟨j, hj, e⟩ := hla a ha
        have er : rowAt H2 a = [-(rr rests j), (j : Int)] := by unfold rowAt; rw [e]
        have es : sndAt H2 a = j := by unfold sndAt; rw [e]; exact Int.toNat_natCast j
        rw [er, es]
        exact ⟨e, rfl⟩
      have ord : Ord rests (l'.map (sndAt H2)) := by
        refine ⟨?_, ?_⟩
        · refine (pm.map _).trans (List.Perm.of_eq (List.ext_getElem? fun j => ?_))
          by_cases hj : j < rests.length
          · obtain ⟨a, h1, h2⟩ := hts2 j hj
            rw [List.getElem?_map, h1, List.getElem?_range hj]
            show some (sndAt H2 a) = some j
            unfold sndAt
            rw [h2]
            exact congrArg some (Int.toNat_natCast j)
          · rw [List.getElem?_eq_none (by rw [List.length_map]; omega), List.getElem?_eq_none (by rw [List.length_range]; omega)]
        · refine List.pairwise_map.mpr (so.imp_of_mem fun {a b} ha hb h => ?_)
          rw [(sn a ha).2, (sn b hb).2] at h
          exact lex_bef h
      have s3 := s2.updR (o := .lst (l'.map V.ref)) hq
      have ell : l'.length = rests.length := by rw [pm.length_eq, hy]
      have eq' := upd_same (H := H2) (a := q') (o := .lst (l'.map V.ref))
      have sn3 : ∀ a ∈ l', upd H2 q' (.lst (l'.map V.ref)) a = some (.tup [.int (-(rr rests (sndAt H2 a))), .int (sndAt H2 a : Int)]) := fun a ha => Same.upd hq _ _ (sn a ha).1
      generalize sndAt H2 = sd at ord sn3
      generalize upd H2 q' (.lst (l'.map V.ref)) = H3 at s3 eq' sn3 ⊢
      dsimp only
      refine rd_ret ?_
      refine ⟨_, rfl, q', rfl, ⟨_, SqL.of eq'⟩, comp_gen rests.length (fun i ys σ Hc => Same H3 Hc ∧ (∃ o1 o2, σ = [o1, o2]) ∧ ys = ((l'.take i).map sd).map fun j : Nat => V.int (j : Int)) ⟨Same.refl H3, ⟨_, _, rfl⟩, rfl⟩ hz ?_ ?_⟩
      · rintro i ys σ Hc hi hy ⟨s4, ⟨o1, o2, rfl⟩, rfl⟩
        have hi' : i < l'.length := by omega
        have hu : (l'.map V.ref)[i]? = some (.ref l'[i]) := by rw [List.getElem?_map, List.getElem?_eq_getElem hi']; rfl
        refine ⟨⟨_, _, SqL.of (s4 _ _ eq'), hu⟩, fun v H' y R hR => ?_⟩
        obtain ⟨rfl, y⟩ := y
        have hv := y _ (SqL.of (s4 _ _ eq'))
        rw [hu] at hv
        cases hv
        refine ⟨l'[i], _, rfl, SqT.of (s4 _ _ (sn3 _ (List.getElem_mem hi'))), rfl, _, _, rfl, _, _, rfl, rfl, _, rfl, hR _ _ _ ⟨s4, ⟨_, _, rfl⟩, ?_⟩⟩
        rw [List.take_add_one, List.getElem?_eq_getElem hi', List.map_append, List.map_append]
        rfl
      · rintro ys σ Hc hy' ⟨s4, _, rfl⟩
        refine ⟨⟨_, SqL.of (s4 _ _ eq'), by rw [List.length_map]; omega⟩, fun D' hD' => ?_⟩
        have s5 := s3.trans s4
        have hn : H D' = none := s5.free hD'
        refine q _ D' _ ord (s5.updR hD') hn ?_
        rw [upd_same, List.take_of_length_le (by omega)]
end
end K12

set_option Elab.async false
set_option linter.all false
set_option maxRecDepth 100000
set_option maxHeartbeats 400000
namespace K12
open PySem L2
theorem cut_take {xs : List V} {i : Nat} (h : i ≤ xs.length) : cutV xs none (some (i : Int)) = xs.take i := by
  unfold cutV
  rw [HT.sIx_none, HT.sIx_nat, List.drop_zero, Nat.min_eq_left h, Nat.sub_zero]
theorem ixN_nat {n j : Nat} (h : j < n) : ixN n (j : Int) = some j := by
  unfold ixN
  rw [if_pos (by omega), if_pos (by omega), Int.toNat_natCast]
theorem line_w {ws : List Int} (ok : OkW ws) : ws.length < sizeLine := by
  have := ok.2.1
  rw [sizeLine_eq]
  omega
section
variable {P : Program} {w : World} {K : PySem.W.Frag} {mg : Str → Option Value} {base : Heap}
theorem nd3w : (["weight", "sacks", "together"] : List Str).Nodup := by decide +kernel
theorem sc14 : FnScope ["sacks", "weights", "together", "parts", "rests", "left", "at"] ["sacks", "weights"] (defScope (top 30)) := ⟨rfl, rfl, rfl, by decide +kernel, rfl, by decide +kernel, by decide +kernel⟩
theorem ok_parts {f : Addr} {fd : FuncData} (F : Fun K "parts_of" "parts_of" (top 30) f fd) (T : Mg mg) (Ts : mg "sum" = none) (c1 : Cal P w K mg base 1 "places_by_rest" ["rests"] spPlaces) : FnOk P w K mg base CX0 2 f fd ["sacks", "weights"] spParts := by
  refine F.ok sc14 (fun vs H Q E h => ?_) (fun cdv A outer s H vs Q E hr h => ?_)
  · obtain ⟨n, p, ws, rfl, _⟩ := h
    rfl
  · obtain ⟨n, p, ws, rfl, ep, ok, n0, n1, q⟩ := h
    refine ⟨_, pss_cons (ps_set (i := 2) sc14.nd rfl (Or.inr rfl) (pe_callB (call_sumL rfl) rfl Ts boot_sum (pa_c (pv 1) pa_nil)))
      (pss_cons (ps_comp (i := 3) ["weight", "sacks", "together"] [none, some 0, some 2] rfl sc14.nd rfl (Or.inl rfl) (pi_tup (pv 1))
        (fun C fp pins s₂ H₂ => ⟨pg_name (i := 0) nd3w rfl (Or.inl rfl), pts_nil, pe_op op_fdiv (pe_op op_mul (pv 1) (pv 0)) (pv 2)⟩) (fun C => ⟨⟨rfl, .inl rfl, rfl, .inl rfl⟩, ⟨rfl, .inl rfl, rfl, .inl rfl⟩, trivial⟩) ⟨rfl, rfl, rfl, rfl⟩)
      (pss_cons (ps_comp (i := 4) ["weight", "sacks", "together"] [none, some 0, some 2] rfl sc14.nd rfl (Or.inl rfl) (pi_tup (pv 1))
        (fun C fp pins s₂ H₂ => ⟨pg_name (i := 0) nd3w rfl (Or.inl rfl), pts_nil, pe_op op_mod (pe_op op_mul (pv 1) (pv 0)) (pv 2)⟩) (fun C => ⟨⟨rfl, .inl rfl, rfl, .inl rfl⟩, ⟨rfl, .inl rfl, rfl, .inl rfl⟩, trivial⟩) ⟨rfl, rfl, rfl, rfl⟩)
      (pss_cons (ps_set (i := 5) sc14.nd rfl (Or.inl rfl) (pe_op op_sub (pv 0) (pe_callB (call_sumL rfl) rfl Ts boot_sum (pa_c (pv 3) pa_nil))))
      (pss_cons (ps_for PassesOwn.never rfl (pi_list (pe_slice sl_list (pe_cal c1 hr (by decide) rfl (pa_c (pv 4) pa_nil)) po_none (po_some (pv 5)))) (pg_name (i := 6) sc14.nd rfl (Or.inl rfl))
        (pss_one (ps_augS (pv 3) (pv 6) get_listP pe_int ip_add set_list)))
      (pss_one (ps_ret (pe_callTy call_tuple_of rfl T.tuple boot_tuple (pa_c (pv 3) pa_nil)))))))), ?_⟩
    have hp := ok.pos
    have ht := ok.top
    have hln := line_w ok
    refine rd_seq ?_
    refine ⟨_, rfl, p, ws, rfl, .inr (SqT.of ep), ?_⟩
    dsimp only
    refine rd_seq ?_
    refine ⟨_, rfl, p, rfl, ⟨_, SqT.of ep⟩, comp_ints (fun z => n * z / ws.sum) ep hln (fun z Q hz h => ⟨_, rfl, _, rfl, _, _, rfl, rfl, .inl ⟨by omega, by omega⟩, _, rfl, _, _, rfl, rfl, ⟨by omega, by omega⟩, h⟩) ?_⟩
    rw [show ws.map (fun z => n * z / ws.sum) = fs n ws from rfl]
    intro l1 hl1
    have s1 := Same.upd (o := .lst ((fs n ws).map V.int)) hl1
    have el1 := upd_same (H := H) (a := l1) (o := .lst ((fs n ws).map V.int))
    generalize upd H l1 _ = H1 at s1 el1 ⊢
    dsimp only
    refine rd_seq ?_
    refine ⟨_, rfl, p, rfl, ⟨_, SqT.of (s1 _ _ ep)⟩, comp_ints (fun z => n * z % ws.sum) (s1 _ _ ep) hln (fun z Q hz h => ⟨_, rfl, _, rfl, _, _, rfl, rfl, .inl ⟨by omega, by omega⟩, _, rfl, _, _, rfl, rfl, (by show 0 < ws.sum; omega), h⟩) ?_⟩
    rw [show ws.map (fun z => n * z % ws.sum) = rs n ws from rfl]
    intro l2 hl2
    have s2 := s1.updR (o := .lst ((rs n ws).map V.int)) hl2
    have el2 := upd_same (H := H1) (a := l2) (o := .lst ((rs n ws).map V.int))
    have el12 := Same.upd (o := .lst ((rs n ws).map V.int)) hl2 _ _ el1
    have nl1 : H l1 = none := hl1
    clear hl1 hl2
    generalize upd H1 l2 _ = H2 at s2 el2 el12 ⊢
    clear el1 s1
    dsimp only
    refine rd_seq ?_
    refine ⟨_, rfl, _, rfl, l1, fs n ws, rfl, .inl (SqL.of el12), _, _, rfl, rfl, ?_⟩
    show _
    dsimp only
    rw [show n - (fs n ws).sum = lf n ws from rfl]
    refine rd_seq ?_
    refine ⟨_, rfl, l2, rs n ws, rfl, el2, by rw [rs_len]; exact hln, fun H3 l3 pl ord s3 nl3 el3 => ⟨_, rfl, _, rfl, l3, _, rfl, SqL.of el3, fun l4 hl4 => ⟨l4, rfl, ⟨_, SqL.of upd_same⟩, ?_⟩⟩⟩
    have lnn := lf_nn (n := n) ok
    have lle := lf_le (n := n) ok
    have lpl := ord.len
    rw [rs_len] at lpl
    have ecut : cutV (pl.map fun j : Nat => V.int (j : Int)) none (some (lf n ws)) = (pl.take (lf n ws).toNat).map fun j : Nat => V.int (j : Int) := by
      rw [List.map_take, ← cut_take (i := (lf n ws).toNat) (by rw [List.length_map]; omega), show ((lf n ws).toNat : Int) = lf n ws by omega]
    rw [ecut]
    have fin := res_of ord
    have inr : ∀ j ∈ pl.take (lf n ws).toNat, j < ws.length := fun j hj => by
      have := ord.lt j (List.mem_of_mem_take hj)
      rw [rs_len] at this
      exact this
    generalize pl.take (lf n ws).toNat = pk at fin inr hl4 ⊢
    have s4 := (s2.trans s3).updR (o := .lst (pk.map fun j : Nat => V.int (j : Int))) hl4
    have el4 := upd_same (H := H3) (a := l4) (o := .lst (pk.map fun j : Nat => V.int (j : Int)))
    have el14 := Same.upd (o := .lst (pk.map fun j : Nat => V.int (j : Int))) hl4 _ _ (s3 _ _ el12)
    have n14 : l4 ≠ l1 := fun z => by
      rw [z, s3 _ _ el12] at hl4
      cases hl4
    generalize upd H3 l4 (.lst (pk.map fun j : Nat => V.int (j : Int))) = H4 at s4 el4 el14 ⊢
    clear hl4 el3 nl3 s3 el12 el2 s2
    refine for_list (xs := pk.map fun j : Nat => V.int (j : Int)) (fun i σ Hc => ∃ o6, σ = [some (.int n), some (.ref p), some (.int ws.sum), some (.ref l1), some (.ref l2), some (.int (lf n ws)), o6] ∧ Same H Hc ∧ Hc l4 = some (.lst (pk.map fun j : Nat => V.int (j : Int))) ∧ Hc l1 = some (.lst ((addAt (fs n ws) (pk.take i)).map V.int))) ?_ ?_ ?_ ?_
    · exact ⟨none, rfl, s4, el4, el14⟩
    · rintro i σ Hc hi ⟨o6, rfl, s5, e4, e1⟩
      exact SqL.of e4
    · rintro i v σ Hc hv ⟨o6, rfl, s5, e4, e1⟩
      rw [List.getElem?_map] at hv
      cases hj : pk[i]? with
      | none => rw [hj] at hv; cases hv
      | some j =>
        rw [hj] at hv
        cases hv
        refine rd_name ?_
        have kp : ∀ o, Same H (upd Hc l1 o) := fun o b u e => by
          rw [upd_ne (ne_of_none e nl1)]
          exact s5 _ _ e
        have hlt : j < (addAt (fs n ws) (pk.take i)).length := by
          rw [addAt_len, fs_len]
          exact inr j (List.mem_of_getElem? hj)
        have hx : ((addAt (fs n ws) (pk.take i)).map V.int)[((j : Nat) : Int).toNat]? = some (.int ((addAt (fs n ws) (pk.take i)).getD j 0)) := by
          rw [Int.toNat_natCast, List.getElem?_map, List.getElem?_eq_getElem hlt, List.getD_eq_getElem?_getD, List.getElem?_eq_getElem hlt]
          rfl
        refine ⟨_, rfl, _, rfl, l1, _, (j : Int), _, rfl, rfl, SqL.of e1, by omega, hx, _, _, rfl, rfl, l1, _, (j : Int), j, rfl, rfl, e1, ixN_nat (by rw [List.length_map]; exact hlt), ?_⟩
        refine ⟨_, rfl, kp _, by rw [upd_ne n14]; exact e4, ?_⟩
        rw [upd_same, List.take_add_one, hj]
        show _ = some (HO.lst ((addAt (fs n ws) (pk.take i ++ [j])).map V.int))
        rw [addAt_snoc, List.map_set]
    · rintro σ Hc ⟨o6, rfl, s5, e4, e1⟩
      rw [List.length_map, List.take_length, fin] at e1
      dsimp only
      refine rd_ret ?_
      exact ⟨_, rfl, l1, _, rfl, .inl ⟨SqL.of e1, fun t ht => q _ t (s5.updR ht) upd_same⟩⟩
end
end K12

set_option Elab.async false
set_option linter.all false
set_option maxRecDepth 100000
set_option maxHeartbeats 400000
namespace K12
open PySem L2
theorem be_three {X : Cx} {i j k : Int} {a b c p q r pos} : BE X (.List [.Constant (.int i) a p, .Constant (.int j) b q, .Constant (.int k) c r] pos) (tLst (tInts [i, j, k])) := ⟨pe_lst (pa_ints (.cons (.cons (.cons .nil))))⟩
def spWeights : Sp := fun vs H Q _ => ∃ st, vs = [.ref st] ∧ StAt H st ∧ ∀ t ws H', Dr st H H' → OkW ws → H' t = some (.tup (ws.map V.int)) → Q (.ref t) H'
section
variable {P : Program} {w : World} {K : PySem.W.Frag} {mg : Str → Option Value} {base : Heap}
theorem nd22 : (["_law_turn", "_law_state_here", "_law_most"] : List Str).Nodup := by decide +kernel
theorem sc22 : FnScope ["_law_state_here", "_law_most", "_law_many"] ["_law_state_here"] (defScope (top 43)) := ⟨rfl, rfl, rfl, by decide +kernel, rfl, by decide +kernel, by decide +kernel⟩
theorem ok_weights {f : Addr} {fd : FuncData} (F : Fun K "_law_weights" "_law_weights" (top 43) f fd) (T : Mg mg) (Tr : mg "range" = none) (c1 : Cal P w K mg base 1 "_law_choice" ["_law_state_here", "_law_many"] spChoice) : FnOk P w K mg base CX0 2 f fd ["_law_state_here"] spWeights := by
  refine F.ok sc22 (fun vs H Q E h => ?_) (fun cdv A outer s H vs Q E hr h => ?_)
  · obtain ⟨st, rfl, _⟩ := h
    rfl
  · obtain ⟨st, rfl, hst, q⟩ := h
    refine ok_b (bss_cons (bs_set (i := 1) sc22.nd rfl (Or.inr rfl) (be_ix ix_list be_three ⟨pe_cal c1 hr (by decide) rfl (pa_c (pv 0) (pa_c pe_int pa_nil))⟩ (fun _ _ => rfl)))
      (bss_cons ⟨ps_set (i := 2) sc22.nd rfl (Or.inl rfl) (pe_op op_add pe_int (pe_cal c1 hr (by decide) rfl (pa_c (pv 0) (pa_c (pe_be (be_ix ix_list be_three ⟨pe_cal c1 hr (by decide) rfl (pa_c (pv 0) (pa_c pe_int pa_nil))⟩ (fun _ _ => rfl))) pa_nil))))⟩
      (bss_one ⟨ps_ret (pe_callTy call_tuple_of rfl T.tuple boot_tuple (pa_c (pe_comp ["_law_turn", "_law_state_here", "_law_most"] [none, some 0, some 1] rfl (pi_range1 rfl Tr (pa_c (pv 2) pa_nil))
        (fun C fp pins s₂ H₂ => ⟨pg_name (i := 0) nd22 rfl (Or.inl rfl), pts_nil, pe_op op_add pe_int (pe_cal c1 hr (by decide) rfl (pa_c (pv 1) (pa_c (pv 2) pa_nil)))⟩)
        (fun C => ⟨⟨rfl, .inl rfl, rfl, .inl rfl⟩, ⟨rfl, .inl rfl, rfl, .inl rfl⟩, trivial⟩) ⟨rfl, rfl, rfl, rfl⟩) pa_nil))⟩))) ?_
    refine rd_seq ?_
    refine rd_asg ?_
    refine ⟨(by show 3 ≤ sizeLine; decide), fun l hl => ?_⟩
    have g1 := (Dr.refl hst).same (Same.upd (o := .lst (([1, 3, 99] : List Int).map V.int)) hl)
    have el := upd_same (H := H) (a := l) (o := .lst (([1, 3, 99] : List Int).map V.int))
    have nl := (Dr.refl hst).ne hl
    generalize upd H l _ = H1 at g1 el ⊢
    refine ⟨_, rfl, st, 3, rfl, g1.sa, by decide, by decide, fun r a b c r0 r1 a0 b0 b1 => ?_⟩
    have g2 := g1.draw (c := c) a0 b0 b1
    have el2 : upd H1 st (.lst [.int a, .int b, .int c]) l = some (.lst (([1, 3, 99] : List Int).map V.int)) := by rw [upd_ne nl]; exact el
    generalize upd H1 st (.lst [.int a, .int b, .int c]) = H2 at g2 el2 ⊢
    obtain ⟨m, em, m0, m1⟩ : ∃ m : Int, (([1, 3, 99] : List Int).map V.int)[r.toNat]? = some (.int m) ∧ 1 ≤ m ∧ m ≤ 99 := by
      have : r.toNat = 0 ∨ r.toNat = 1 ∨ r.toNat = 2 := by omega
      rcases this with z | z | z <;> rw [z]
      · exact ⟨1, rfl, by decide, by decide⟩
      · exact ⟨3, rfl, by decide, by decide⟩
      · exact ⟨99, rfl, by decide, by decide⟩
    refine ⟨l, _, r, .int m, rfl, rfl, SqL.of el2, ?_, ?_⟩
    · have := atI_nat em
      rw [show ((r.toNat : Nat) : Int) = r by omega] at this
      exact this
    refine rd_name ?_
    dsimp only
    clear el el2 nl hl em g1
    refine rd_seq ?_
    refine ⟨_, rfl, (by show 3 ≤ sizeLine; decide), fun l hl => ?_⟩
    have g3 := g2.same (Same.upd (o := .lst (([4, 12, 80] : List Int).map V.int)) hl)
    have el := upd_same (H := H2) (a := l) (o := .lst (([4, 12, 80] : List Int).map V.int))
    have nl := g2.ne hl
    generalize upd H2 l _ = H3 at g3 el ⊢
    refine ⟨_, rfl, st, 3, rfl, g3.sa, by decide, by decide, fun r a b c r0 r1 a0 b0 b1 => ?_⟩
    have g4 := g3.draw (c := c) a0 b0 b1
    have el2 : upd H3 st (.lst [.int a, .int b, .int c]) l = some (.lst (([4, 12, 80] : List Int).map V.int)) := by rw [upd_ne nl]; exact el
    generalize upd H3 st (.lst [.int a, .int b, .int c]) = H4 at g4 el2 ⊢
    obtain ⟨k, ek, k0, k1⟩ : ∃ m : Int, (([4, 12, 80] : List Int).map V.int)[r.toNat]? = some (.int m) ∧ 1 ≤ m ∧ m ≤ 80 := by
      have : r.toNat = 0 ∨ r.toNat = 1 ∨ r.toNat = 2 := by omega
      rcases this with z | z | z <;> rw [z]
      · exact ⟨4, rfl, by decide, by decide⟩
      · exact ⟨12, rfl, by decide, by decide⟩
      · exact ⟨80, rfl, by decide, by decide⟩
    refine ⟨l, _, r, .int k, rfl, rfl, SqL.of el2, ?_, ?_⟩
    · have := atI_nat ek
      rw [show ((r.toNat : Nat) : Int) = r by omega] at this
      exact this
    refine ⟨st, k, rfl, g4.sa, k0, by omega, fun y a b c y0 y1 a0 b0 b1 => ⟨_, _, rfl, rfl, ?_⟩⟩
    have g5 := g4.draw (c := c) a0 b0 b1
    generalize upd H4 st (.lst [.int a, .int b, .int c]) = H5 at g5 ⊢
    clear el el2 nl hl ek g2 g3 g4
    dsimp only
    refine rd_ret ?_
    refine ⟨_, rfl, 1 + y, rfl, by omega, by omega, ?_⟩
    have lz : (1 + y).toNat < sizeLine := by
      rw [sizeLine_eq]
      omega
    refine comp_gen (1 + y).toNat (fun i ys σ Hc => Dr st H5 Hc ∧ (∃ o, σ = [o, some (.ref st), some (.int m)]) ∧ ∃ ws : List Int, ws.length = i ∧ (∀ n ∈ ws, 1 ≤ n ∧ n ≤ 99) ∧ ys = ws.map V.int) ⟨Dr.refl g5.sa, ⟨_, rfl⟩, [], rfl, fun _ h => (List.not_mem_nil h).elim, rfl⟩ lz ?_ ?_
    · rintro i ys σ Hc hi hy ⟨g6, ⟨o, rfl⟩, ws, lws, bws, rfl⟩
      refine ⟨hi, fun v H' yl R hR => ?_⟩
      obtain ⟨eH, rfl⟩ := yl
      subst H'
      refine rd_name ?_
      refine ⟨_, rfl, _, rfl, st, m, rfl, g6.sa, m0, by omega, fun t a b c t0 t1 a0 b0 b1 => ⟨_, _, rfl, rfl, hR _ _ _ ⟨g6.draw a0 b0 b1, ⟨_, rfl⟩, ws ++ [1 + t], by rw [List.length_append, lws]; rfl, fun n hn => ?_, by rw [List.map_append]; rfl⟩⟩⟩
      rcases List.mem_append.mp hn with z | z
      · exact bws n z
      · rw [List.mem_singleton.mp z]
        omega
    · rintro ys σ Hc hy ⟨g6, _, ws, lws, bws, rfl⟩
      refine ⟨Nat.le_refl _, fun D hD => ⟨D, _, rfl, .inl ⟨SqL.of upd_same, fun t ht => ?_⟩⟩⟩
      have s6 := (Same.upd (o := .lst (ws.map V.int)) hD).updR (o := .tup (ws.map V.int)) ht
      exact q t ws _ ((g5.trans g6).same s6) ⟨by omega, by omega, bws⟩ upd_same
end
end K12

set_option Elab.async false
set_option linter.all false
set_option maxRecDepth 100000
set_option maxHeartbeats 400000
namespace K12
open PySem L2
section
variable {P : Program} {w : World} {K : PySem.W.Frag} {mg : Str → Option Value} {base : Heap}
/-! ### are_wholes -/
theorem sc3 : FnScope ["thing", "many"] ["thing", "many"] (defScope (top 23)) := ⟨rfl, rfl, rfl, by decide +kernel, rfl, by decide +kernel, by decide +kernel⟩
theorem ok_are_wholes {f : Addr} {fd : FuncData} (F : Fun K "are_wholes" "are_wholes" (top 23) f fd) (T : Mg mg) (c1 : Cal P w K mg base 1 "is_whole" ["thing"] (spT wholeD)) (c2 : Cal P w K mg base 1 "is_tuple_of" ["thing", "fewest", "most"] (spT2 tupOfD)) :
    FnOk P w K mg base CX0 2 f fd ["thing", "many"] (spT1 wholesD) := by
  refine F.ok sc3 (fun vs H Q E h => ?_) (fun cdv A outer s H vs Q E hr h => ?_)
  · obtain ⟨S, v, d, n, rfl, _⟩ := h
    rfl
  · obtain ⟨S, v, d, n, rfl, th, hz, q⟩ := h
    refine ⟨_, pss_one (ps_ret (pe_and (pe_cal c2 hr (Nat.le_refl _) rfl (pa_cons (pv 0) (pa_cons (pv 1) (pa_cons (pv 1) pa_nil))))
      (pe_one (pe_callB (call_all rfl) rfl T.all boot_all (pa_cons (pe_comp ["part"] [none] rfl (pi_tup (pv 0))
        (fun C fp pins s₂ H₂ => ⟨pg_name (i := 0) (nd1 _) rfl (Or.inl rfl), pts_nil, pe_cal c1 hr (Nat.le_refl _) rfl (pa_cons (pv 0) pa_nil)⟩) (fun C => trivial) ⟨rfl, rfl, rfl, rfl⟩) pa_nil))))), ?_⟩
    refine ⟨_, rfl, _, rfl, _, rfl, S, v, d, n, n, rfl, th, hz, fun H1 s1 => ⟨_, rfl, ?_⟩⟩
    have th1 := th.same s1
    cases e : tupOfD d n n with
    | false =>
      refine iteF ?_
      have fin := q H1 s1
      unfold wholesD at fin
      rw [e] at fin
      exact fin
    | true =>
      refine iteT ?_
      cases th1 with
      | @tup a xs ds ea r =>
        have ew : wholesD (.tuple ds) n = ds.all wholeD := by unfold wholesD; rw [e]; rfl
        refine all_things wholeD rfl ea r (len_line r hz) (fun v d H2 Q2 hm s2 t2 q2 => ⟨_, rfl, S, v, d, rfl, t2, in_sz hm hz, q2⟩) fun H2 s2 => ?_
        rw [← ew]
        exact q _ (s1.trans s2)
      | _ => cases e
end
end K12

set_option Elab.async false
set_option linter.all false
set_option maxRecDepth 100000
set_option maxHeartbeats 400000
namespace K12
open PySem L2
/-! ### fair parts -/
end K12

set_option Elab.async false
set_option linter.all false
set_option maxRecDepth 100000
set_option maxHeartbeats 400000
namespace K12
open PySem L2
section
variable {P : Program} {w : World} {K : PySem.W.Frag} {mg : Str → Option Value} {base : Heap}
end
end K12

set_option Elab.async false
set_option linter.all false
set_option maxRecDepth 100000
set_option maxHeartbeats 400000
namespace K12
open PySem L2
section
variable {P : Program} {w : World} {K : PySem.W.Frag} {mg : Str → Option Value} {base : Heap}
end
end K12

set_option Elab.async false
set_option linter.all false
set_option maxRecDepth 100000
set_option maxHeartbeats 400000
namespace K12
open PySem L2
/-- where the lists and dicts of a thing may stand -/
def SS (st : Addr) : Addr → Prop := fun a => a ≠ st ∧ a ≠ sysModules
theorem Dr.thS {st : Addr} {H H1 : Hp} {v : V} {d : PyData} (g : Dr st H H1) (h0 : StAt H st) (t : IsTh (SS st) H v d) : IsTh (SS st) H1 v d := t.keep (g.tups h0) (fun b o z e => g.bt b o e z.1) fun _ _ z _ => z
theorem Dr.thsS {st : Addr} {H H1 : Hp} {vs : List V} {ds : List PyData} (g : Dr st H H1) (h0 : StAt H st) (t : IsThs (SS st) H vs ds) : IsThs (SS st) H1 vs ds := t.keep (g.tups h0) (fun b o z e => g.bt b o e z.1) fun _ _ z _ => z
def BT (d : PyData) : Prop := tame d = true ∧ sz d ≤ 300
/-! ### tuples, somewhere -/
section
variable {X : Cx}
theorem op_catU : OpR X (binaryOp .Add) (fun x y H Q => ∃ a b xs ys, x = .ref a ∧ y = .ref b ∧ H a = some (.tup xs) ∧ H b = some (.tup ys) ∧ xs.length + ys.length ≤ sizeLine ∧ ∀ c H', Same H H' → H' c = some (.tup (xs ++ ys)) → Q (.ref c) H') := by
  intro pins s σ H x y v u Q I rx ry h
  obtain ⟨a, b, xs, ys, rfl, rfl, ha, hb, hz, q⟩ := h
  by_cases hx : xs = []
  · subst hx
    exact op_catT0 pins s σ H _ _ v u Q I rx ry ⟨a, b, ys, rfl, rfl, SqT.of ha, SqT.of hb, q b H (Same.refl H) hb⟩
  · refine op_catT pins s σ H _ _ v u Q I rx ry ⟨a, b, xs, ys, rfl, rfl, SqT.of ha, SqT.of hb, hx, hz, fun e => q a H (Same.refl H) ?_, fun _ p hp => q p _ (Same.upd hp) upd_same⟩
    rw [e, List.append_nil]
    exact ha
theorem sl_tupU : SlR X (fun x lo hi H Q => ∃ a xs, x = .ref a ∧ H a = some (.tup xs) ∧ ∀ c H', Same H H' → H' c = some (.tup (cutV xs lo hi)) → Q (.ref c) H') := by
  intro pins s σ H x v vl vu lo hi sl Q I rx hs pl pu h
  obtain ⟨a, xs, rfl, ha, q⟩ := h
  refine sl_tupW pins s σ H _ v vl vu lo hi sl Q I rx hs pl pu ⟨a, xs, rfl, SqT.of ha, fun hw => q a H (Same.refl H) ?_, fun _ p hp => q p _ (Same.upd hp) upd_same⟩
  rw [ha]
  unfold cutV
  rw [hw.1, hw.2, List.drop_zero, Nat.sub_zero, List.take_length]
end
abbrev rCatU : R2 := fun x y H Q => ∃ a b xs ys, x = .ref a ∧ y = .ref b ∧ H a = some (.tup xs) ∧ H b = some (.tup ys) ∧ xs.length + ys.length ≤ sizeLine ∧ ∀ c H', Same H H' → H' c = some (.tup (xs ++ ys)) → Q (.ref c) H'
abbrev rSlU : V → Option Int → Option Int → Hp → VK → Prop := fun x lo hi H Q => ∃ a xs, x = .ref a ∧ H a = some (.tup xs) ∧ ∀ c H', Same H H' → H' c = some (.tup (cutV xs lo hi)) → Q (.ref c) H'
/-- t gives a tuple of these items, none of the old things turned -/
def TuE (σ : St) (H : Hp) (t : TE) (vs : List V) : Prop := ∀ H0, Same H H0 → ∀ Q : VK, (∀ c H', Same H0 H' → H' c = some (.tup vs) → Q (.ref c) H') → t σ H0 Q
section
variable {σ : St} {H : Hp} {S : Addr → Prop}
theorem tu_v {i : Nat} {p : Addr} {vs : List V} (h : σ[i]? = some (some (.ref p))) (e : H p = some (.tup vs)) : TuE σ H (tVar i) vs := fun H0 s0 Q q => ⟨_, h, q p H0 (Same.refl _) (s0 _ _ e)⟩
theorem tu_cat {ta tb : TE} {xs ys : List V} (ha : TuE σ H ta xs) (hb : TuE σ H tb ys) (hz : xs.length + ys.length ≤ 4000) : TuE σ H (tOp rCatU ta tb) (xs ++ ys) := fun H0 s0 Q q =>
  ha H0 s0 _ fun c H1 s1 e1 => hb H1 (s0.trans s1) _ fun c2 H2 s2 e2 => ⟨c, c2, xs, ys, rfl, rfl, s2 _ _ e1, e2, by rw [sizeLine_eq]; omega, fun c3 H3 s3 e3 => q c3 H3 (s1.trans (s2.trans s3)) e3⟩
/-- a part of a slice: no turn, this number -/
def PtE (σ : St) (H : Hp) (t : TO) (o : Option Int) : Prop := ∀ H0, Same H H0 → ∀ Q : Option Int → Hp → Prop, Q o H0 → t σ H0 Q
theorem pt_none : PtE σ H tNoPart none := fun H0 _ Q q => q
theorem pt_some {te : TE} {i : Int} (h : ∀ H', Ev σ H' te (.int i)) : PtE σ H (tPart te) (some i) := fun H0 _ Q q => h H0 _ ⟨i, rfl, q⟩
theorem tu_sl {ta : TE} {tl th : TO} {xs : List V} {lo hi : Option Int} (ha : TuE σ H ta xs) (hl : PtE σ H tl lo) (hh : PtE σ H th hi) : TuE σ H (tSl rSlU ta tl th) (cutV xs lo hi) := fun H0 s0 Q q =>
  ha H0 s0 _ fun c H1 s1 e1 => hl H1 (s0.trans s1) _ (hh H1 (s0.trans s1) _ ⟨c, xs, rfl, e1, fun c2 H2 s2 e2 => q c2 H2 (s1.trans s2) e2⟩)
theorem tu_rev {K : PySem.W.Frag} {ta : TE} {xs : List V} (ha : TuE σ H ta xs) : TuE σ H (tRev K ta) xs.reverse := fun H0 s0 Q q =>
  ha H0 s0 _ fun c H1 s1 e1 => ⟨c, xs, rfl, SqT.of e1, fun p hp => q p _ (s1.updR hp) upd_same⟩
theorem tu_one {te : TE} {v : V} (h : ∀ H', Ev σ H' te v) : TuE σ H (tTup (tCons te tNil)) [v] := fun H0 s0 Q q => h H0 _ ⟨by show 1 ≤ sizeLine; decide, fun p hp => q p _ (Same.upd hp) upd_same⟩
theorem th_tu {t : TE} {vs : List V} {ds : List PyData} (h : TuE σ H t vs) (ht : ∀ H', IsThs S H' vs ds) : ThE S σ H t (.tuple ds) := fun H0 s0 Q q => h H0 s0 _ fun c H' s e => q _ H' s (.tup e (ht H'))
end
/-! ### items that are ints or None -/
def vD : V → PyData
  | .int i => .int i
  | _ => .none
def scV : V → Prop
  | .int i => -2 ≤ i ∧ i ≤ 101
  | .non => True
  | _ => False
theorem ths_sc {S : Addr → Prop} {H : Hp} : ∀ {vs : List V}, (∀ v ∈ vs, scV v) → IsThs S H vs (vs.map vD)
  | [], _ => .nil
  | v :: vs, h => by
    refine .cons ?_ (ths_sc fun u hu => h u (.tail _ hu))
    have := h v (.head _)
    cases v with
    | int i => exact .int i
    | non => exact .non
    | _ => exact this.elim
theorem tames_mem : ∀ {ds : List PyData}, (∀ d ∈ ds, tame d = true) → tames ds = true
  | [], _ => rfl
  | d :: ds, h => by
    show (tame d && tames ds) = true
    rw [h d (.head _), tames_mem fun e he => h e (.tail _ he)]
    rfl
theorem szs_one : ∀ {ds : List PyData}, (∀ d ∈ ds, sz d = 1) → szs ds = ds.length
  | [], _ => rfl
  | d :: ds, h => by
    show sz d + szs ds = ds.length + 1
    rw [h d (.head _), szs_one fun e he => h e (.tail _ he), Nat.add_comm]
theorem vD_ok {v : V} (h : scV v) : tame (vD v) = true ∧ sz (vD v) = 1 := by
  cases v with
  | int i =>
    have h : -2 ≤ i ∧ i ≤ 101 := h
    exact ⟨decide_eq_true (show i.natAbs < 2 ^ 128 by omega), rfl⟩
  | non => exact ⟨rfl, rfl⟩
  | _ => exact h.elim
theorem sc_ok {vs : List V} (h : ∀ v ∈ vs, scV v) (hl : vs.length ≤ 250) : BT (.tuple (vs.map vD)) ∧ BT (.list (vs.map vD)) := by
  have h1 : tames (vs.map vD) = true := tames_mem fun d hd => by
    obtain ⟨v, hv, rfl⟩ := List.mem_map.mp hd
    exact (vD_ok (h v hv)).1
  have h2 : szs (vs.map vD) = vs.length := by
    rw [szs_one fun d hd => by obtain ⟨v, hv, rfl⟩ := List.mem_map.mp hd; exact (vD_ok (h v hv)).2, List.length_map]
  exact ⟨⟨h1, by show 1 + szs (vs.map vD) ≤ 300; omega⟩, ⟨h1, by show 1 + szs (vs.map vD) ≤ 300; omega⟩⟩
theorem sc_ints {ns : List Int} (h : ∀ n ∈ ns, -2 ≤ n ∧ n ≤ 101) : ∀ v ∈ ns.map V.int, scV v := fun v hv => by
  obtain ⟨n, hn, rfl⟩ := List.mem_map.mp hv
  exact h n hn
theorem sc_cut {vs : List V} (h : ∀ v ∈ vs, scV v) (lo hi : Option Int) : ∀ v ∈ cutV vs lo hi, scV v := fun v hv => by
  unfold cutV at hv
  exact h v (List.mem_of_mem_drop (List.mem_of_mem_take hv))
theorem sc_app {a b : List V} (h : ∀ v ∈ a, scV v) (h' : ∀ v ∈ b, scV v) : ∀ v ∈ a ++ b, scV v := fun v hv => (List.mem_append.mp hv).elim (h v) (h' v)
/-! ### a sack moved -/
theorem boot_list : bootBuiltins "list" = some (.type "list") := by decide +kernel
section
variable {P : Program} {w : World} {K : PySem.W.Frag} {mg : Str → Option Value} {base : Heap}
end
end K12

set_option Elab.async false
set_option linter.all false
set_option maxRecDepth 100000
set_option maxHeartbeats 800000
namespace K12
open PySem L2
theorem boot_dict : bootBuiltins "dict" = some (.type "dict") := by decide +kernel
section
variable {σ : St} {H : Hp}
theorem pt_v {i : Nat} {n : Int} (h : σ[i]? = some (some (.int n))) : PtE σ H (tPart (tVar i)) (some n) := pt_some fun _ => ev_v h
theorem pt_v1 {i : Nat} {n : Int} (h : σ[i]? = some (some (.int n))) : PtE σ H (tPart (tOp (rI0 fun i j => .int (i + j)) (tVar i) (tC (.int 1)))) (some (n + 1)) := pt_some fun _ => ev_op0 (ev_v h) ev_c
theorem pt_m1 : PtE σ H (tPart (tUn (rU fun i => .int (-i)) (tC (.int 1)))) (some (-1)) := fun H0 _ Q q => ⟨1, rfl, _, rfl, q⟩
theorem pt_c {n : Int} : PtE σ H (tPart (tC (.int n))) (some n) := pt_some fun _ => ev_c
theorem tu_catS {ta tb : TE} {xs ys : List V} (ha : TuE σ H ta xs) (hb : TuE σ H tb ys) (hx : xs.length ≤ 1000) (hy : ys.length ≤ 1000) : TuE σ H (tOp rCatU ta tb) (xs ++ ys) := tu_cat ha hb (by omega)
theorem cut_le {vs : List V} {lo hi : Option Int} (h : vs.length ≤ 80) : (cutV vs lo hi).length ≤ 1000 := by
  have := cutV_length vs lo hi
  omega
end
/-- list of a tuple, as a thing -/
theorem th_lof {K : PySem.W.Frag} {S : Addr → Prop} {σ : St} {H : Hp} {i : Nat} {p : Addr} {vs : List V} {ds : List PyData} (h : σ[i]? = some (some (.ref p))) (e : H p = some (.tup vs)) (ht : ∀ H', IsThs S H' vs ds) (hS : ∀ H', Same H H' → ∀ p, H' p = none → p ≠ sysModules → S p) :
    ThE S σ H (tCB (fun xs H Q => ∃ p ys, xs = [.ref p] ∧ SqT K H p ys ∧ ∀ l, H l = none → l ≠ sysModules → Q (.ref l) (upd H l (.lst ys))) (tCons (tVar i) tNil)) (.list ds) := fun H0 s0 Q q =>
  ⟨_, h, p, vs, rfl, SqT.of (s0 _ _ e), fun l hl nl => q _ _ (Same.upd hl) (.lst (hS H0 s0 l hl nl) upd_same (ht _))⟩
/-- dict of the pairs of two letters -/
theorem th_ab {S : Addr → Prop} {σ : St} {H : Hp} {src : List (Option Nat)} (hsrc : capσ σ src = [none]) (hS : ∀ H', Same H H' → ∀ p, H' p = none → p ≠ sysModules → S p) :
    ThE S σ H (tCB (fun xs H Q => ∃ (p : Addr) (l : List Addr) (kvs : List (Key × V)), xs = [.ref p] ∧ H p = some (.lst (l.map V.ref)) ∧ kvs.length = l.length ∧ (∀ (j : Nat) (kv : Key × V), kvs[j]? = some kv → ∃ a, l[j]? = some a ∧ H a = some (.tup [kV kv.1, kv.2])) ∧ ∀ q, H q = none → q ≠ sysModules → Q (.ref q) (upd H q (.dK (mergeK [] kvs))))
      (tCons (tComp (iStr (tC (.str "ab"))) src (gName 0) tYes (tTup (tCons (tVar 0) (tCons (tC (.int 1)) tNil)))) tNil)) (.dict [(.str "a", .int 1), (.str "b", .int 1)]) := fun H0 s0 Q q => by
  refine ⟨"ab", rfl, by decide +kernel, ?_⟩
  rw [hsrc]
  have two : ("ab" : Str).cps.size = 2 := by decide +kernel
  have l0 : ("ab" : Str).cps[0]? = some 97 := by decide +kernel
  have l1 : ("ab" : Str).cps[1]? = some 98 := by decide +kernel
  refine comp_gen 2 (fun i ys σ Hc => Same H0 Hc ∧ (∃ o, σ = [o]) ∧ ∃ ts : List Addr, ys = ts.map V.ref ∧ (1 ≤ i → ∃ a, ts[0]? = some a ∧ Hc a = some (.tup [.str ⟨#[97]⟩, .int 1])) ∧ (2 ≤ i → ∃ a, ts[1]? = some a ∧ Hc a = some (.tup [.str ⟨#[98]⟩, .int 1]))) ⟨Same.refl _, ⟨_, rfl⟩, [], rfl, fun h => absurd h (by decide), fun h => absurd h (by decide)⟩ (by decide) ?_ ?_
  · rintro i ys σ Hc hi hy ⟨s1, ⟨o, rfl⟩, ts, rfl, h1, h2⟩
    rw [List.length_map] at hy
    refine ⟨by show i < ("ab" : Str).cps.size; rw [two]; exact hi, fun v H' yl R hR => ?_⟩
    obtain ⟨eH, c, hc, rfl⟩ := yl
    subst H'
    refine rd_name ?_
    refine ⟨_, rfl, (by show 2 ≤ sizeLine; decide), fun t ht => hR _ _ _ ⟨s1.updR ht, ⟨_, rfl⟩, ts ++ [t], by rw [List.map_append]; rfl, fun _ => ?_, fun _ => ?_⟩⟩
    · by_cases z : i = 0
      · subst z
        rw [l0] at hc
        cases hc
        exact ⟨t, by rw [List.getElem?_append_right (by omega), hy]; rfl, upd_same⟩
      · obtain ⟨a, e1, e2⟩ := h1 (by omega)
        exact ⟨a, by rw [List.getElem?_append_left (by omega)]; exact e1, Same.upd ht _ _ e2⟩
    · have z : i = 1 := by omega
      subst z
      rw [l1] at hc
      cases hc
      exact ⟨t, by rw [List.getElem?_append_right (by omega), hy]; rfl, upd_same⟩
  · rintro ys σ Hc hy ⟨s1, _, ts, rfl, h1, h2⟩
    rw [List.length_map] at hy
    refine ⟨by show ("ab" : Str).cps.size ≤ 2; rw [two]; exact Nat.le_refl _, fun D hD => ?_⟩
    obtain ⟨a, e1, e2⟩ := h1 (by decide)
    obtain ⟨b, e3, e4⟩ := h2 (by decide)
    have la : (⟨#[97]⟩ : Str) = "a" := by decide +kernel
    have lb : (⟨#[98]⟩ : Str) = "b" := by decide +kernel
    rw [la] at e2
    rw [lb] at e4
    have m := Same.upd (o := .lst (ts.map V.ref)) hD
    refine ⟨D, ts, [(.inr "a", .int 1), (.inr "b", .int 1)], rfl, upd_same, by rw [hy]; rfl, fun j kv hj => ?_, fun p hp np => ?_⟩
    · match j, hj with
      | 0, hj => cases hj; exact ⟨a, e1, m _ _ e2⟩
      | 1, hj => cases hj; exact ⟨b, e3, m _ _ e4⟩
      | j + 2, hj => simp at hj
    · refine q _ _ ((s1.updR hD).updR hp) ?_
      have em : mergeK [] ([(.inr "a", .int 1), (.inr "b", .int 1)] : List (Key × V)) = ([(.inr "a", 1), (.inr "b", 1)] : List (Key × Int)).map fun p => (p.1, V.int p.2) := by decide +kernel
      rw [em]
      exact .dct (ks := [(.inr "a", 1), (.inr "b", 1)]) (hS _ (s0.trans (s1.updR hD)) p hp np) upd_same
theorem sc_non : ∀ v ∈ [V.non], scV v := fun v hv => by
  rw [List.mem_singleton.mp hv]
  trivial
/-- one of these things is chosen -/
theorem ths_at {S : Addr → Prop} {H : Hp} {vs : List V} {ds : List PyData} {i : Nat} (h : IsThs S H vs ds) (hi : i < ds.length) : ∃ v d, vs[i]? = some v ∧ d ∈ ds ∧ IsTh S H v d := by
  have hl := h.length
  have hv : vs[i]? = some vs[i] := List.getElem?_eq_getElem (by omega)
  obtain ⟨d, hd, t⟩ := h.get hv
  exact ⟨_, d, hv, List.mem_of_getElem? hd, t⟩
def spRowB : Sp := fun vs H Q _ => ∃ st p ns, vs = [.ref st, .ref p] ∧ StAt H st ∧ H p = some (.tup ((ns : List Int).map V.int)) ∧ 1 ≤ ns.length ∧ ns.length ≤ 80 ∧ (∀ n ∈ ns, 0 ≤ n ∧ n ≤ 99) ∧ ∀ v d H', Dr st H H' → BT d → IsTh (SS st) H' v d → Q v H'
section
variable {P : Program} {w : World} {K : PySem.W.Frag} {mg : Str → Option Value} {base : Heap}
theorem scB : FnScope ["_law_state_here", "_law_things", "_law_kind", "_law_at", "_law_some"] ["_law_state_here", "_law_things"] (defScope (top 41)) := ⟨rfl, rfl, rfl, by decide +kernel, rfl, by decide +kernel, by decide +kernel⟩
theorem ok_rowB {f : Addr} {fd : FuncData} (F : Fun K "_law_row_bent" "_law_row_bent" (top 41) f fd) (T : Mg mg) (Tl : mg "list" = none) (Td : mg "dict" = none) (c1 : Cal P w K mg base 1 "_law_choice" ["_law_state_here", "_law_many"] spChoice) : FnOk P w K mg base CX0 2 f fd ["_law_state_here", "_law_things"] spRowB := by
  refine F.ok scB (fun vs H Q E h => ?_) (fun cdv A outer s H vs Q E hr h => ?_)
  · obtain ⟨st, p, ns, rfl, _⟩ := h
    rfl
  · obtain ⟨st, p, ns, rfl, hst, ep, l1, l2, bn, q⟩ := h
    refine ok_b (bss_cons ⟨ps_par (i := 2) (j := 3) rfl scB.nd rfl rfl (by decide) rfl rfl (pa_c (pe_cal c1 hr (by decide) rfl (pa_c (pv 0) (pa_c pe_int pa_nil))) (pa_c (pe_cal c1 hr (by decide) rfl (pa_c (pv 0) (pa_c (pe_op op_add (pe_callB call_len_seq rfl T.len PySem.boot_len (pa_c (pv 1) pa_nil)) pe_int) pa_nil))) pa_nil)) rfl⟩
      (bss_cons (bs_set (i := 4) scB.nd rfl (Or.inl rfl) (be_lst (ab_c ⟨pe_callTy call_list_ofS rfl Tl boot_list (pa_c (pv 1) pa_nil)⟩
          (ab_c ⟨pe_op op_catU (pe_slice sl_tupU (pv 1) po_none (po_some (pv 3))) (pe_slice sl_tupU (pv 1) (po_some (pe_op op_add (pv 3) pe_int)) po_none)⟩
          (ab_c ⟨pe_rev (pv 1)⟩ (ab_c ⟨pe_op op_catU (pv 1) (pe_slice sl_tupU (pv 1) (po_some (pe_un un_neg pe_int)) po_none)⟩
          (ab_c ⟨pe_op op_catU (pe_slice sl_tupU (pv 1) po_none (po_some (pv 3))) (pe_slice sl_tupU (pv 1) po_none (po_some pe_int))⟩ aa_nil)))))))
      (bss_cons (bs_set (i := 4) scB.nd rfl (Or.inl rfl) (be_op op_cat ⟨pv 4⟩ (be_lst (ab_c ⟨pe_op op_catU (pe_slice sl_tupU (pv 1) (po_some (pv 3)) po_none) (pe_slice sl_tupU (pv 1) po_none (po_some (pv 3)))⟩
          (ab_c ⟨pe_op op_catU (pe_op op_catU (pe_slice sl_tupU (pv 1) po_none (po_some (pv 3))) (pe_tup (pa_c pe_non pa_nil))) (pe_slice sl_tupU (pv 1) (po_some (pv 3)) po_none)⟩
          (ab_c ⟨pe_callTy (call_dict_rows rfl) rfl Td boot_dict (pa_c (pe_comp ["_law_one"] [none] rfl (pi_str pe_str) (fun C fp pins s₂ H₂ => ⟨pg_name (i := 0) (nd1 _) rfl (Or.inl rfl), pts_nil, pe_tup (pa_c (pv 0) (pa_c pe_int pa_nil))⟩) (fun C => trivial) ⟨rfl, rfl, rfl, rfl⟩) pa_nil)⟩ aa_nil))))))
      (bss_one (bs_ret (be_ix ix_list (be_op op_cat ⟨pv 4⟩ (be_lst (ab_c be_non aa_nil))) ⟨pv 2⟩ (fun _ _ => rfl))))))) ?_
    have hlen : (ns.map V.int).length = ns.length := List.length_map _
    refine rd_seq ?_
    refine ⟨_, rfl, st, 9, rfl, hst, by decide, by decide, fun r1 a b c r10 r11 a0 b0 b1 => ?_⟩
    have g2 := (Dr.refl hst).draw (c := c) a0 b0 b1
    have ep2 := g2.tups hst _ _ ep
    generalize upd H st (.lst [.int a, .int b, .int c]) = H2 at g2 ep2 ⊢
    refine ⟨_, rfl, _, rfl, p, _, rfl, .inr (SqT.of ep2), _, _, rfl, rfl, st, _, rfl, g2.sa, by rw [hlen]; omega, by rw [hlen]; omega, fun r2 a b c r20 r21 a0 b0 b1 => ⟨_, _, rfl, ?_⟩⟩
    rw [hlen] at r21
    have g3 := g2.draw (c := c) a0 b0 b1
    have ep3 := ((Dr.refl g2.sa).draw (c := c) a0 b0 b1).tups g2.sa _ _ ep2
    generalize upd H2 st (.lst [.int a, .int b, .int c]) = H3 at g3 ep3 ⊢
    clear ep2 g2
    dsimp only
    have hS : ∀ H', Same H3 H' → ∀ p, H' p = none → p ≠ sysModules → SS st p := fun H' s p hp np => by
      obtain ⟨a, b, c, e, _⟩ := g3.sa
      refine ⟨fun z => ?_, np⟩
      rw [z, s _ _ e] at hp
      cases hp
    have bI : ∀ v ∈ ns.map V.int, scV v := sc_ints fun n hn => by have := bn n hn; omega
    have cl := fun lo hi => cutV_length (ns.map V.int) lo hi
    have evI : ∀ (i : Nat) (n : Int) (σ : St), σ[i]? = some (some (.int n)) → ∀ H', Ev σ H' (tVar i) (.int n) := fun i n σ h H' => ev_v h
    refine rd_seq ?_
    refine rd_asg ?_
    refine rd_lst ?_
    have l80 : (ns.map V.int).length ≤ 80 := by rw [hlen]; exact l2
    have l1k : (ns.map V.int).length ≤ 1000 := by omega
    have A1 : ThA (SS st) [some (.ref st), some (.ref p), some (.int r1), some (.int r2), none] H3 _ _ :=
      th_cons (th_lof (K := K) (i := 1) rfl ep3 (fun H' => ths_sc bI) hS)
      (th_cons (th_tu (tu_catS (tu_sl (tu_v (i := 1) rfl ep3) pt_none (pt_v (i := 3) rfl)) (tu_sl (tu_v (i := 1) rfl ep3) (pt_v1 (i := 3) rfl) pt_none) (cut_le l80) (cut_le l80)) fun H' => ths_sc (sc_app (sc_cut bI _ _) (sc_cut bI _ _)))
      (th_cons (th_tu (tu_rev (K := K) (tu_v (i := 1) rfl ep3)) fun H' => ths_sc fun v hv => bI v (List.mem_reverse.mp hv))
      (th_cons (th_tu (tu_catS (tu_v (i := 1) rfl ep3) (tu_sl (tu_v (i := 1) rfl ep3) pt_m1 pt_none) l1k (cut_le l80)) fun H' => ths_sc (sc_app bI (sc_cut bI _ _)))
      (th_cons (th_tu (tu_catS (tu_sl (tu_v (i := 1) rfl ep3) pt_none (pt_v (i := 3) rfl)) (tu_sl (tu_v (i := 1) rfl ep3) pt_none (pt_c (n := 1))) (cut_le l80) (cut_le l80)) fun H' => ths_sc (sc_app (sc_cut bI _ _) (sc_cut bI _ _))) th_nil))))
    refine A1 H3 (Same.refl _) _ fun vs1 H4 s4 t4 => ?_
    refine ⟨?_, fun L1 hL1 => ?_⟩
    · rw [t4.length]
      show 5 ≤ sizeLine
      decide
    refine rd_name ?_
    dsimp only
    have s5 := s4.updR (o := .lst vs1) hL1
    have eL1 := upd_same (H := H4) (a := L1) (o := .lst vs1)
    have t5 := t4.same (Same.upd (o := .lst vs1) hL1)
    generalize upd H4 L1 _ = H5 at s5 eL1 t5 ⊢
    clear t4 s4 hL1
    have ep5 := s5 _ _ ep3
    have hS5 : ∀ H', Same H5 H' → ∀ p, H' p = none → p ≠ sysModules → SS st p := fun H' s => hS H' (s5.trans s)
    refine rd_seq ?_
    refine rd_asg ?_
    refine ⟨_, rfl, ?_⟩
    refine rd_lst ?_
    have A2 : ThA (SS st) [some (.ref st), some (.ref p), some (.int r1), some (.int r2), some (.ref L1)] H5 _ _ :=
      th_cons (th_tu (tu_catS (tu_sl (tu_v (i := 1) rfl ep5) (pt_v (i := 3) rfl) pt_none) (tu_sl (tu_v (i := 1) rfl ep5) pt_none (pt_v (i := 3) rfl)) (cut_le l80) (cut_le l80)) fun H' => ths_sc (sc_app (sc_cut bI _ _) (sc_cut bI _ _)))
      (th_cons (th_tu (tu_cat (tu_catS (tu_sl (tu_v (i := 1) rfl ep5) pt_none (pt_v (i := 3) rfl)) (tu_one (v := .non) fun H' => ev_c) (cut_le l80) (by show 1 ≤ 1000; decide)) (tu_sl (tu_v (i := 1) rfl ep5) (pt_v (i := 3) rfl) pt_none) (by have := cut_le (lo := none) (hi := some r2) l80; have := cut_le (lo := some r2) (hi := none) l80; rw [List.length_append]; show _ + 1 + _ ≤ 4000; omega)) fun H' => ths_sc (sc_app (sc_app (sc_cut bI _ _) sc_non) (sc_cut bI _ _)))
      (th_cons (th_ab (src := [none]) rfl hS5) th_nil))
    refine A2 H5 (Same.refl _) _ fun vs2 H6 s6 t6 => ?_
    refine ⟨?_, fun L2 hL2 => ?_⟩
    · rw [t6.length]
      show 3 ≤ sizeLine
      decide
    have m6 := Same.upd (o := .lst vs2) hL2
    have e1 := m6 _ _ (s6 _ _ eL1)
    refine ⟨L1, L2, vs1, vs2, rfl, rfl, e1, upd_same, ?_, fun L3 hL3 => ?_⟩
    · rw [t5.length, t6.length]
      show 8 ≤ sizeLine
      decide
    have s7 := ((s5.trans s6).updR (o := .lst vs2) hL2).updR (o := .lst (vs1 ++ vs2)) hL3
    have t7 := ((t5.same s6).append t6).same (m6.updR (o := .lst (vs1 ++ vs2)) hL3)
    have eL3 := upd_same (H := upd H6 L2 (.lst vs2)) (a := L3) (o := .lst (vs1 ++ vs2))
    generalize upd (upd H6 L2 _) L3 _ = H7 at s7 t7 eL3 ⊢
    refine rd_name ?_
    dsimp only
    refine rd_ret ?_
    refine ⟨_, rfl, (by show 1 ≤ sizeLine; decide), fun L4 hL4 => ?_⟩
    have m8 := Same.upd (o := .lst [V.non]) hL4
    refine ⟨L3, L4, _, _, rfl, rfl, m8 _ _ eL3, upd_same, ?_, fun L5 hL5 => ?_⟩
    · rw [t7.length]
      show 9 ≤ sizeLine
      decide
    have s9 := (s7.updR (o := .lst [V.non]) hL4).updR (o := .lst (vs1 ++ vs2 ++ [V.non])) hL5
    have t9 := (t7.append (.cons .non .nil)).same (m8.updR (o := .lst (vs1 ++ vs2 ++ [V.non])) hL5)
    have eL5 := upd_same (H := upd H7 L4 (.lst [V.non])) (a := L5) (o := .lst (vs1 ++ vs2 ++ [V.non]))
    generalize upd (upd H7 L4 _) L5 _ = H9 at s9 t9 eL5 ⊢
    obtain ⟨v, d, hv, hd, tv⟩ := ths_at (i := r1.toNat) t9 (by show r1.toNat < 9; omega)
    have y1 := atI_nat hv
    rw [show ((r1.toNat : Nat) : Int) = r1 by omega] at y1
    refine ⟨_, rfl, L5, _, r1, v, rfl, rfl, SqL.of eL5, y1, q v d H9 (g3.same s9) ?_ tv⟩
    simp only [List.cons_append, List.nil_append, List.mem_cons, List.not_mem_nil, or_false] at hd
    have cl2 := fun (a b c e : Option Int) => show (cutV (ns.map V.int) a b ++ cutV (ns.map V.int) c e).length ≤ 250 by rw [List.length_append]; have := cl a b; have := cl c e; omega
    rcases hd with rfl | rfl | rfl | rfl | rfl | rfl | rfl | rfl | rfl
    · exact (sc_ok bI (by omega)).2
    · exact (sc_ok (sc_app (sc_cut bI _ _) (sc_cut bI _ _)) (cl2 _ _ _ _)).1
    · exact (sc_ok (fun v hv => bI v (List.mem_reverse.mp hv)) (by rw [List.length_reverse]; omega)).1
    · exact (sc_ok (sc_app bI (sc_cut bI _ _)) (by rw [List.length_append]; have := cl (some (-1)) none; omega)).1
    · exact (sc_ok (sc_app (sc_cut bI _ _) (sc_cut bI _ _)) (cl2 _ _ _ _)).1
    · exact (sc_ok (sc_app (sc_cut bI _ _) (sc_cut bI _ _)) (cl2 _ _ _ _)).1
    · exact (sc_ok (sc_app (sc_app (sc_cut bI _ _) sc_non) (sc_cut bI _ _)) (by rw [List.length_append, List.length_append]; have := cl none (some r2); have := cl (some r2) none; show _ + 1 + _ ≤ 250; omega)).1
    · exact ⟨by decide +kernel, by decide⟩
    · exact ⟨rfl, by decide⟩
end
end K12

set_option Elab.async false
set_option linter.all false
set_option maxRecDepth 100000
set_option maxHeartbeats 800000
namespace K12
open PySem L2
theorem boot_str : bootBuiltins "str" = some (.type "str") := by decide +kernel
/-- t != () of a tuple of ints -/
theorem op_neT {X : Cx} (hu : X.A.units + 64 < cLine) : OpR X (compareOp .NotEq) (fun x y H Q => ∃ (a b : Addr) (ns : List Int), x = .ref a ∧ y = .ref b ∧ H a = some (.tup (ns.map V.int)) ∧ H b = some (.tup []) ∧ Q (.bl (!decide (ns = []))) H) := by
  intro pins s σ H x y v u Q I rx ry h
  obtain ⟨a, b, ns, rfl, rfl, ha, hb, q⟩ := h
  obtain ⟨as, ra, _⟩ := (IsTh.tup (S := fun _ => False) ha (IsThs.ints ns)).reads I rx
  obtain ⟨bs, rb, _⟩ := (IsTh.tup (S := fun _ => False) hb .nil).reads I ry
  have h1 : SeqAt.shaped (.tuple (ns.map PyData.int)) = true := by
    simp [SeqAt.shaped, PyData.canLay0, PyData.depth, PySem.W.ke_canLayAll0, PySem.W.ke_depthAll]
  have h2 : SeqAt.shaped (.tuple []) = true := rfl
  have h3 : SeqAt.noMix (.tuple (ns.map PyData.int)) (.tuple []) = true := by
    cases ns <;> simp [SeqAt.noMix, SeqAt.noMixAll]
  have h4 : PySem.Spec.same (.tuple (ns.map PyData.int)) (.tuple []) = decide (ns = []) := by
    have := PySem.W.ke_sameAll ns []
    simp only [PySem.Spec.same]
    exact this
  refine PyProof.Rows.ne_dataH_same ra rb h1 h2 hu h3 ?_
  rw [h4]
  exact ⟨.bl _, H, I, rfl, q⟩
theorem strs_ok : ∀ i : Fin 100, tame (.str (Str.ofString (toString ((i.val : Nat) : Int)))) = true := by decide +kernel
theorem str_ok {i : Int} (h0 : 0 ≤ i) (h1 : i ≤ 99) : tame (.str (Str.ofString (toString i))) = true := by
  have := strs_ok ⟨i.toNat, by omega⟩
  rw [show (((⟨i.toNat, by omega⟩ : Fin 100).val : Nat) : Int) = i by show ((i.toNat : Nat) : Int) = i; omega] at this
  exact this
theorem room64 {A : Around} {k : Nat} (hr : Room k A) : A.units + 64 < cLine := by
  have := hr.un
  omega
theorem log_ok {i : Int} (h0 : 0 ≤ i) (h1 : i ≤ 99) : i.natAbs.log2 < 1920 := by
  have : i.natAbs < 2 ^ 128 := by omega
  by_cases z : i.natAbs = 0
  · rw [z]; decide
  · exact Nat.lt_trans ((Nat.log2_lt z).mpr this) (by decide)
def BT0 (d : PyData) : Prop := tame d = true ∧ sz d ≤ 2
def spBent0 : Sp := fun vs H Q _ => ∃ st i k, vs = [.ref st, .int i, .int k] ∧ StAt H st ∧ 0 ≤ i ∧ i ≤ 99 ∧ ∀ v d H', Dr st H H' → BT0 d → IsTh (SS st) H' v d → Q v H'
def spBent : Sp := fun vs H Q _ => ∃ st p ns, vs = [.ref st, .ref p, .int 1] ∧ StAt H st ∧ H p = some (.tup ((ns : List Int).map V.int)) ∧ 1 ≤ ns.length ∧ ns.length ≤ 80 ∧ (∀ n ∈ ns, 0 ≤ n ∧ n ≤ 99) ∧ ∀ v d H', Dr st H H' → BT d → IsTh (SS st) H' v d → Q v H'
theorem kit_str {K : PySem.W.Frag} : PySem.W.kitOne K (.type "int") (.type "str") = some false := by kernel_rfl
theorem th_ev0 {S : Addr → Prop} {σ : St} {H : Hp} {t : TE} {v : V} {d : PyData} (h : ∀ H', Ev σ H' t v) (hd : ∀ H', IsTh S H' v d) : ThE S σ H t d := fun H0 _ Q q => h H0 _ (q _ H0 (Same.refl _) (hd H0))
theorem tames_app : ∀ {a b : List PyData}, tames a = true → tames b = true → tames (a ++ b) = true
  | [], _, _, h => h
  | x :: a, b, h, h' => by
    have h : (tame x && tames a) = true := h
    rw [Bool.and_eq_true] at h
    show (tame x && tames (a ++ b)) = true
    rw [h.1, tames_app h.2 h']
    rfl
theorem szs_app : ∀ {a b : List PyData}, szs (a ++ b) = szs a + szs b
  | [], b => by show szs b = 0 + szs b; omega
  | x :: a, b => by
    show sz x + szs (a ++ b) = sz x + szs a + szs b
    rw [szs_app]
    omega
section
variable {P : Program} {w : World} {K : PySem.W.Frag} {mg : Str → Option Value} {base : Heap}
theorem scC : FnScope ["_law_state_here", "_law_thing", "_law_deep", "_law_at"] ["_law_state_here", "_law_thing", "_law_deep"] (defScope (top 42)) := ⟨rfl, rfl, rfl, by decide +kernel, rfl, by decide +kernel, by decide +kernel⟩
theorem ok_bent0 {f : Addr} {fd : FuncData} (F : Fun K "_law_bent" "_law_bent" (top 42) f fd) (T : Mg mg) (Tt : mg "str" = none) (c1 : Cal P w K mg base 1 "_law_choice" ["_law_state_here", "_law_many"] spChoice) : FnOk P w K mg base CX0 2 f fd ["_law_state_here", "_law_thing", "_law_deep"] spBent0 := by
  refine F.ok scC (fun vs H Q E h => ?_) (fun cdv A outer s H vs Q E hr h => ?_)
  · obtain ⟨st, i, k, rfl, _⟩ := h
    rfl
  · obtain ⟨st, i, k, rfl, hst, i0, i1, q⟩ := h
    refine ok_b (bss_cons ⟨ps_if (PW.pt (pw_and (pt_val (pe_callB call_isinst rfl T.isinstance boot_isinstance (pa_c (pv 1) (pa_c (pe_bltn rfl T.tuple boot_tuple (v := .ty "tuple") rfl) pa_nil)))) (pw_and (pt_cmpR (op_neT (room64 hr)) (pv 1) (pe_tup pa_nil) (nomark _)) (pw_and (pt_cmpR op_gt (pv 2) pe_int (nomark _)) (pw_and1 (pt_cmpR op_gt (pe_cal c1 hr (by decide) rfl (pa_c (pv 0) (pa_c pe_int pa_nil))) pe_int (nomark _))))))) (pss_cons ps_never (pss_one ps_never)) pss_nil⟩
      (bss_cons ⟨ps_if (pt_val (pe_callB call_isinst rfl T.isinstance boot_isinstance (pa_c (pv 1) (pa_c (pe_bltn rfl T.tuple boot_tuple (v := .ty "tuple") rfl) pa_nil)))) (pss_one ps_never) pss_nil⟩
      (bss_cons ⟨ps_if (pt_val (pe_callB call_isinst rfl T.isinstance boot_isinstance (pa_c (pv 1) (pa_c (pe_bltn rfl Tt boot_str (v := .ty "str") rfl) pa_nil)))) (pss_one ps_never) pss_nil⟩
      (bss_one (bs_ret (be_ix ix_list (be_lst (ab_c (be_op op_add ⟨pv 1⟩ be_int) (ab_c (be_op op_sub ⟨pv 1⟩ be_int) (ab_c (be_op op_sub be_int ⟨pv 1⟩) (ab_c be_non (ab_c ⟨pe_callTy call_str_int rfl Tt boot_str (pa_c (pv 1) pa_nil)⟩ (ab_c ⟨pe_cmpR op_eq (pv 1) pe_int (nomark _)⟩ (ab_c ⟨pe_tup (pa_c (pv 1) pa_nil)⟩ (ab_c be_int aa_nil)))))))))
        ⟨pe_cal c1 hr (by decide) rfl (pa_c (pv 0) (pa_c pe_int pa_nil))⟩ (fun _ _ => rfl))))))) ?_
    refine rd_seq ?_
    refine ⟨_, rfl, _, _, "tuple", false, rfl, (IsTh.int (S := SS st) (H := H) i).ty, kit_tup (.int i), _, rfl, ?_⟩
    refine iteF ?_
    refine iteF ?_
    refine rd_next ?_
    dsimp only
    refine rd_seq ?_
    refine ⟨_, rfl, _, _, "tuple", false, rfl, (IsTh.int (S := SS st) (H := H) i).ty, kit_tup (.int i), _, rfl, ?_⟩
    refine iteF ?_
    refine rd_next ?_
    dsimp only
    refine rd_seq ?_
    refine ⟨_, rfl, _, _, "str", false, rfl, (IsTh.int (S := SS st) (H := H) i).ty, kit_str, _, rfl, ?_⟩
    refine iteF ?_
    refine rd_next ?_
    dsimp only
    refine rd_ret ?_
    refine rd_lst ?_
    have ev1 : ∀ H', Ev [some (.ref st), some (.int i), some (.int k), none] H' (tVar 1) (.int i) := fun H' => ev_v rfl
    have A1 : ThA (SS st) [some (.ref st), some (.int i), some (.int k), none] H _ _ :=
      th_cons (th_ev (t := tOp (rI0 fun i j => .int (i + j)) (tVar 1) (tC (.int 1))) (i := i + 1) fun H' => ev_op0 (g := fun i j => .int (i + j)) (ev1 H') (ev_c (v := .int 1)))
      (th_cons (th_ev (i := i - 1) fun H' => ev_op0 (g := fun i j => .int (i - j)) (ev1 H') (ev_c (v := .int 1)))
      (th_cons (th_ev (i := 0 - i) fun H' => ev_op0 (g := fun i j => .int (i - j)) (ev_c (v := .int 0)) (ev1 H'))
      (th_cons th_non
      (th_cons (th_ev0 (t := tCB (fun xs H Q => ∃ i, xs = [.int i] ∧ i.natAbs.log2 < 1920 ∧ Q (.str (toString i)) H) (tCons (tVar 1) tNil)) (v := .str (toString i)) (fun H' Q h => ⟨_, rfl, i, rfl, log_ok i0 i1, h⟩) (fun H' => .str _))
      (th_cons (th_ev0 (t := tOp rEq (tVar 1) (tC (.int 1))) (v := .bl (decide (V.int i = V.int 1))) (fun H' Q h => ⟨_, rfl, rfl, h⟩) (fun H' => .bl _))
      (th_cons (th_tu (tu_one ev1) fun H' => .cons (.int i) .nil)
      (th_cons (th_int (i := 7)) th_nil)))))))
    refine A1 H (Same.refl _) _ fun vs1 H4 s4 t4 => ?_
    refine ⟨?_, fun L1 hL1 => ?_⟩
    · rw [t4.length]
      show 8 ≤ sizeLine
      decide
    have g5 := (Dr.refl hst).same (s4.updR (o := .lst vs1) hL1)
    have eL1 := upd_same (H := H4) (a := L1) (o := .lst vs1)
    have t5 := t4.same (Same.upd (o := .lst vs1) hL1)
    have nL1 : L1 ≠ st := ((Dr.refl hst).same s4).ne hL1
    generalize upd H4 L1 _ = H5 at g5 eL1 t5 ⊢
    refine ⟨_, rfl, st, 8, rfl, g5.sa, by decide, by decide, fun r a b c r0 r1 a0 b0 b1 => ?_⟩
    have g6 := g5.draw (c := c) a0 b0 b1
    have t6 := Dr.thsS ((Dr.refl g5.sa).draw (c := c) a0 b0 b1) g5.sa t5
    have eL6 : upd H5 st (.lst [.int a, .int b, .int c]) L1 = some (.lst vs1) := by rw [upd_ne nL1]; exact eL1
    generalize upd H5 st (.lst [.int a, .int b, .int c]) = H6 at g6 t6 eL6 ⊢
    obtain ⟨v, d, hv, hd, tv⟩ := ths_at (i := r.toNat) t6 (by show r.toNat < 8; omega)
    have y1 := atI_nat hv
    rw [show ((r.toNat : Nat) : Int) = r by omega] at y1
    refine ⟨L1, _, r, v, rfl, rfl, SqL.of eL6, y1, q v d H6 g6 ?_ tv⟩
    simp only [List.mem_cons, List.not_mem_nil, or_false] at hd
    have ti : ∀ j : Int, -100 ≤ j → j ≤ 1000 → BT0 (.int j) := fun j h1 h2 => ⟨decide_eq_true (show j.natAbs < 2 ^ 128 by omega), by show 1 ≤ 2; decide⟩
    rcases hd with rfl | rfl | rfl | rfl | rfl | rfl | rfl | rfl
    · exact ti _ (by omega) (by omega)
    · exact ti _ (by omega) (by omega)
    · exact ti _ (by omega) (by omega)
    · exact ⟨rfl, by decide⟩
    · exact ⟨str_ok i0 i1, by show 1 ≤ 2; decide⟩
    · exact ⟨rfl, by show 1 ≤ 2; decide⟩
    · refine ⟨?_, by show 1 + (1 + 0) ≤ 2; decide⟩
      show (tame (.int i) && true) = true
      rw [(ti i (by omega) (by omega)).1]
      rfl
    · exact ti _ (by omega) (by omega)
end
end K12

set_option Elab.async false
set_option linter.all false
set_option maxRecDepth 100000
set_option maxHeartbeats 800000
namespace K12
open PySem L2
section
variable {P : Program} {w : World} {K : PySem.W.Frag} {mg : Str → Option Value} {base : Heap}
theorem ok_bent {f : Addr} {fd : FuncData} (F : Fun K "_law_bent" "_law_bent" (top 42) f fd) (T : Mg mg) (Tt : mg "str" = none) (c1 : Cal P w K mg base 1 "_law_choice" ["_law_state_here", "_law_many"] spChoice) (c2 : Cal P w K mg base 2 "_law_row_bent" ["_law_state_here", "_law_things"] spRowB)
    (hm : mg "_law_bent" = some (.ref f)) (hb : Binds K fd ["_law_state_here", "_law_thing", "_law_deep"] []) : FnOk P w K mg base CX0 3 f fd ["_law_state_here", "_law_thing", "_law_deep"] spBent := by
  have c0 : Cal P w K mg base 2 "_law_bent" ["_law_state_here", "_law_thing", "_law_deep"] spBent0 := ⟨f, fd, ok_bent0 F T Tt c1, hm, F.kp, hb⟩
  refine F.ok scC (fun vs H Q E h => ?_) (fun cdv A outer s H vs Q E hr h => ?_)
  · obtain ⟨st, p, ns, rfl, _⟩ := h
    rfl
  · obtain ⟨st, p, ns, rfl, hst, ep, l1, l2, bn, q⟩ := h
    refine ok_b (bss_cons ⟨ps_if (PW.pt (pw_and (pt_val (pe_callB call_isinst rfl T.isinstance boot_isinstance (pa_c (pv 1) (pa_c (pe_bltn rfl T.tuple boot_tuple (v := .ty "tuple") rfl) pa_nil)))) (pw_and (pt_cmpR (op_neT (room64 hr)) (pv 1) (pe_tup pa_nil) (nomark _)) (pw_and (pt_cmpR op_gt (pv 2) pe_int (nomark _)) (pw_and1 (pt_cmpR op_gt (pe_cal c1 hr (by decide) rfl (pa_c (pv 0) (pa_c pe_int pa_nil))) pe_int (nomark _)))))))
        (pss_cons (ps_set (i := 3) scC.nd rfl (Or.inl rfl) (pe_cal c1 hr (by decide) rfl (pa_c (pv 0) (pa_c (pe_callB call_len_seq rfl T.len PySem.boot_len (pa_c (pv 1) pa_nil)) pa_nil))))
        (pss_one (ps_ret (pe_op op_catU (pe_op op_catU (pe_slice sl_tupU (pv 1) po_none (po_some (pv 3))) (pe_tup (pa_c (pe_cal c0 hr (by decide) rfl (pa_c (pv 0) (pa_c (pe_ix ix_tup (pv 1) (pv 3) (fun _ _ => rfl)) (pa_c (pe_op op_sub (pv 2) pe_int) pa_nil)))) pa_nil))) (pe_slice sl_tupU (pv 1) (po_some (pe_op op_add (pv 3) pe_int)) po_none))))) pss_nil⟩
      (bss_cons ⟨ps_if (pt_val (pe_callB call_isinst rfl T.isinstance boot_isinstance (pa_c (pv 1) (pa_c (pe_bltn rfl T.tuple boot_tuple (v := .ty "tuple") rfl) pa_nil)))) (pss_one (ps_ret (pe_cal c2 hr (by decide) rfl (pa_c (pv 0) (pa_c (pv 1) pa_nil))))) pss_nil⟩
      (bss_cons ⟨ps_never⟩ (bss_one ⟨ps_never⟩)))) ?_
    have hlen : (ns.map V.int).length = ns.length := List.length_map _
    have tp := IsTh.tup (S := SS st) ep (IsThs.ints ns)
    refine rd_seq ?_
    refine ⟨_, rfl, _, _, "tuple", true, rfl, tp.ty, kit_tup (.tuple (ns.map PyData.int)), _, rfl, ?_⟩
    refine iteT ?_
    refine ⟨_, rfl, (by show 0 ≤ sizeLine; decide), fun e0 he0 => ?_⟩
    have s1 := Same.upd (o := .tup []) he0
    have ee := upd_same (H := H) (a := e0) (o := .tup [])
    have hst1 : StAt (upd H e0 (.tup [])) st := ((Dr.refl hst).same s1).sa
    have g1 := (Dr.refl hst).same s1
    have ep1 := s1 _ _ ep
    generalize upd H e0 (.tup []) = H1 at s1 ee hst1 g1 ep1 ⊢
    refine ⟨p, e0, ns, rfl, rfl, ep1, ee, _, rfl, ?_⟩
    rw [decide_eq_false (fun z : ns = [] => by rw [z] at l1; exact absurd l1 (by decide))]
    refine iteT ?_
    refine ⟨_, rfl, _, _, rfl, rfl, _, rfl, ?_⟩
    refine iteT ?_
    refine ⟨_, rfl, st, 4, rfl, hst1, by decide, by decide, fun r a b c r0 r1 a0 b0 b1 => ⟨_, _, rfl, rfl, _, rfl, ?_⟩⟩
    have g2 := g1.draw (c := c) a0 b0 b1
    have ep2 := ((Dr.refl hst1).draw (c := c) a0 b0 b1).tups hst1 _ _ ep1
    generalize upd H1 st (.lst [.int a, .int b, .int c]) = H2 at g2 ep2 ⊢
    clear g1 hst1 ep1 ee
    by_cases gr : 0 < r
    · rw [decide_eq_true gr]
      refine iteT ?_
      refine rd_seq ?_
      refine rd_asg ?_
      refine ⟨_, rfl, _, rfl, p, _, rfl, .inr (SqT.of ep2), st, _, rfl, g2.sa, by rw [hlen]; omega, by rw [hlen]; omega, fun r2 a b c r20 r21 a0 b0 b1 => ?_⟩
      rw [hlen] at r21
      have g3 := g2.draw (c := c) a0 b0 b1
      have ep3 := ((Dr.refl g2.sa).draw (c := c) a0 b0 b1).tups g2.sa _ _ ep2
      generalize upd H2 st (.lst [.int a, .int b, .int c]) = H3 at g3 ep3 ⊢
      refine rd_name ?_
      dsimp only
      refine rd_ret ?_
      have i2 : r2.toNat < ns.length := by omega
      have x2 : (ns.map V.int)[r2.toNat]? = some (.int ns[r2.toNat]) := by rw [List.getElem?_map, List.getElem?_eq_getElem i2]; rfl
      have y2 := atI_nat x2
      rw [show ((r2.toNat : Nat) : Int) = r2 by omega] at y2
      have b2 := bn _ (List.getElem_mem i2)
      refine ⟨_, rfl, _, rfl, _, rfl, p, _, rfl, ep3, fun c4 H4 s4 e4 => ?_⟩
      have g4 := g3.same s4
      have ep4 := s4 _ _ ep3
      refine ⟨_, rfl, _, rfl, _, rfl, p, _, r2, _, rfl, rfl, SqT.of ep4, y2, _, rfl, _, _, rfl, rfl, st, _, _, rfl, g4.sa, b2.1, b2.2, fun v d H5 g5 bd tv => ?_⟩
      have e5 := g5.tups g4.sa _ _ e4
      have ep5 := g5.tups g4.sa _ _ ep4
      have g5' := g4.trans g5
      refine ⟨(by show 1 ≤ sizeLine; decide), fun t6 ht6 => ?_⟩
      have m6 := Same.upd (o := .tup [v]) ht6
      have e6 := m6 _ _ e5
      have ep6 := m6 _ _ ep5
      have ev6 := upd_same (H := H5) (a := t6) (o := .tup [v])
      have g6 := g5'.same m6
      have tv6 := tv.same m6
      generalize upd H5 t6 (.tup [v]) = H6 at e6 ep6 ev6 g6 tv6 ⊢
      have cl := fun lo hi => cutV_length (ns.map V.int) lo hi
      refine ⟨c4, t6, _, _, rfl, rfl, e6, ev6, by have := cl none (some r2); rw [sizeLine_eq]; show _ + 1 ≤ _; omega, fun c7 H7 s7 e7 => ?_⟩
      refine ⟨_, rfl, _, rfl, _, _, rfl, rfl, _, rfl, p, _, rfl, s7 _ _ ep6, fun c8 H8 s8 e8 => ?_⟩
      refine ⟨c7, c8, _, _, rfl, rfl, s8 _ _ e7, e8, by have := cl none (some r2); have := cl (some (r2 + 1)) none; rw [sizeLine_eq, List.length_append]; show _ + 1 + _ ≤ _; omega, fun c9 H9 s9 e9 => ?_⟩
      have bI : ∀ v ∈ ns.map V.int, scV v := sc_ints fun n hn => by have := bn n hn; omega
      refine q (.ref c9) (.tuple ((cutV (ns.map V.int) none (some r2)).map vD ++ [d] ++ (cutV (ns.map V.int) (some (r2 + 1)) none).map vD)) H9 (((g6.same s7).same s8).same s9) ?_ (.tup e9 (((ths_sc (sc_cut bI _ _)).append (.cons (((tv6.same s7).same s8).same s9) .nil)).append (ths_sc (sc_cut bI _ _))))
      have o1 := (sc_ok (sc_cut bI none (some r2)) (by have := cl none (some r2); omega)).1
      have o2 := (sc_ok (sc_cut bI (some (r2 + 1)) none) (by have := cl (some (r2 + 1)) none; omega)).1
      refine ⟨tames_app (tames_app o1.1 ?_) o2.1, ?_⟩
      · show (tame d && true) = true
        rw [bd.1]
        rfl
      · show 1 + szs _ ≤ 300
        rw [szs_app, szs_app, szs_one fun e he => by obtain ⟨v, hv, rfl⟩ := List.mem_map.mp he; exact (vD_ok (sc_cut bI _ _ v hv)).2, szs_one (ds := (cutV (ns.map V.int) (some (r2 + 1)) none).map vD) fun e he => by obtain ⟨v, hv, rfl⟩ := List.mem_map.mp he; exact (vD_ok (sc_cut bI _ _ v hv)).2]
        have := bd.2
        have := cl none (some r2)
        have := cl (some (r2 + 1)) none
        rw [List.length_map, List.length_map]
        show 1 + (_ + (sz d + 0) + _) ≤ 300
        omega
    · rw [decide_eq_false gr]
      refine iteF ?_
      refine rd_next ?_
      dsimp only
      refine rd_seq ?_
      refine ⟨_, rfl, _, _, "tuple", true, rfl, (IsTh.tup (S := SS st) ep2 (IsThs.ints ns)).ty, kit_tup (.tuple (ns.map PyData.int)), _, rfl, ?_⟩
      refine iteT ?_
      refine rd_ret ?_
      exact ⟨_, rfl, _, rfl, st, p, ns, rfl, g2.sa, ep2, l1, l2, bn, fun v d H' g bd tv => q v d H' (g2.trans g) bd tv⟩
end
end K12

set_option Elab.async false
set_option linter.all false
set_option maxRecDepth 100000
set_option maxHeartbeats 400000
namespace K12
open PySem L2
def CalX (P : Program) (w : World) (K : PySem.W.Frag) (mg : Str → Option Value) (base : Heap) (k : Nat) (x : Str) (ps : List Str) (sp : Sp) : Prop :=
  ∃ f fd, FnOk P w K mg base (CX1 P w) k f fd ps sp ∧ mg x = some (.ref f) ∧ PySem.W.keepIn K (.ref f) = true ∧ Binds K fd ps []
theorem pe_calX {X : Cx} {k j : Nat} {x : Str} {ps : List Str} {sp : Sp} {E : XK} {p pos : Pos} {e : Expr} {es : List Expr} {t : TA} (c : CalX X.prog X.w X.K X.mg X.base j x ps sp) (hr : Room k X.A) (hjk : j ≤ k) (hg : Gl X x) (W : Wish X fun a C H => E (.ref a) (some C) H) (hx : X.ex = []) (ha : PA X (e :: es) t)
    (hdb : (x == ("__debug__" : Str)) = false := by decide) (he : starEach (e :: es) X.env = (false, eval e X.env) :: starEach es X.env := by rfl) (hpl : (backTo pos (starEach es X.env)).any (·.1) = false := by rfl) :
    PE X (.Call (.Name x p) (e :: es) [] pos) (tCall sp [] E t) := by
  obtain ⟨f, fd, F, m, k', b⟩ := c
  exact pe_call F (hr.mono hjk) hg m k' b .nil (pass1 W hx) ha hdb he hpl
abbrev VE : List Value := [.type "ValueError", .type "Exception", .type "BaseException", .type "object"]
def words : List Str := ["clips", "promises", "sales", "book", "number", "year", "weights", "paper", "growth", "promise", "sort", "clip", "sale", "deed", "text", "line"]
theorem gen_ts {t : TS} {D : Ends} {σ : L2.St} {H : Hp} (C : Hp → Prop) (c : C H) (h : ∀ H', C H' → t D σ H') : t D σ H := h H c
theorem rd_cons {te : TE} {tr : TA} {σ : L2.St} {H : Hp} {Q : List V → Hp → Prop} (h : te σ H fun x H1 => tr σ H1 fun xs H2 => Q (x :: xs) H2) : tCons te tr σ H Q := h
theorem pe_never {X : Cx} {e : Expr} : PE X e (fun _ _ _ => False) := fun _ _ _ _ _ _ h => h.elim
structure PTB (X : Cx) (e : Expr) (t : TT) : Prop where
  run : PT X e t
section
variable {X : Cx} {a b c l : Expr} {ta tb tl : TE} {t u : TT} {pos p q : Pos}
theorem be_count {k : Bool} {j} {y : Str} {q' : Pos} (hl : BE X (.Name y q') tl) (hline : (p.endLine == pos.line) = true := by rfl) : BE X (.Call (.Attribute (.Name y q') "count" p) [.Constant (.bool k) j q] [] pos) (tBM X.K "list" rCountB tl (tCons (tC (.bl k)) tNil)) := ⟨pe_bm PySem.F.plainAttrs_list PySem.F.slot_list_count PySem.F.type_list_count mt_countB hl.run (pa_c pe_bl pa_nil) (hline := hline)⟩
theorem be_index {k : Bool} {j} {y : Str} {q' : Pos} (hl : BE X (.Name y q') tl) (hline : (p.endLine == pos.line) = true := by rfl) : BE X (.Call (.Attribute (.Name y q') "index" p) [.Constant (.bool k) j q] [] pos) (tBM X.K "list" rIndexB tl (tCons (tC (.bl k)) tNil)) := ⟨pe_bm PySem.F.plainAttrs_list PySem.F.slot_list_index PySem.F.type_list_index mt_indexB hl.run (pa_c pe_bl pa_nil) (hline := hline)⟩
theorem bt_sub (h : BE X (.Subscript a b p) ta) : PTB X (.Subscript a b p) (tB ta) := ⟨pt_val h.run⟩
theorem bt_call {es ks} (h : BE X (.Call a es ks p) ta) : PTB X (.Call a es ks p) (tB ta) := ⟨pt_val h.run⟩
theorem bt_not (h : PTB X a t) : PTB X (.UnaryOp .Not a pos) (tNot t) := ⟨pt_not h.run⟩
theorem bt_or2 (ha : PTB X a t) (hb : PTB X b u) : PTB X (.BoolOp .Or [a, b] pos) (tOr t u) := ⟨PW.pt (pw_or ha.run (pw_or1 hb.run))⟩
theorem bt_ne {i : Int} {j} (ha : BE X a ta) : PTB X (.Compare a [.NotEq] [.Constant (.int i) j q] pos) (tTest (tOp rNe ta (tC (.int i)))) := ⟨pt_cmpR op_ne ha.run pe_int (nomark _)⟩
theorem bs_if {x y : List Stmt} {v z : TS} (hc : PTB X c t) (hx : BSs X x v) (hy : BSs X y z) : BS X (.If c x y pos) (tIfS t v z) := ⟨ps_if hc.run hx.run hy.run⟩
theorem bss_nil : BSs X [] tNext := ⟨pss_nil⟩
end
structure Clss (mg : Str → Option Value) (Cs : Nat → Addr) : Prop where
  n0 : mg "NoClips" = some (.ref (Cs 0))
  n1 : mg "NoPromises" = some (.ref (Cs 1))
  n2 : mg "NoSales" = some (.ref (Cs 2))
  n3 : mg "NoBook" = some (.ref (Cs 3))
  n4 : mg "NoNumber" = some (.ref (Cs 4))
  n5 : mg "NoYear" = some (.ref (Cs 5))
  n6 : mg "NoWeights" = some (.ref (Cs 6))
  n7 : mg "NoPaper" = some (.ref (Cs 7))
  n8 : mg "NoGrowth" = some (.ref (Cs 8))
  n9 : mg "NoPromise" = some (.ref (Cs 9))
  n10 : mg "NoSort" = some (.ref (Cs 10))
  n11 : mg "NoClip" = some (.ref (Cs 11))
  n12 : mg "NoSale" = some (.ref (Cs 12))
  n13 : mg "NoDeed" = some (.ref (Cs 13))
  n14 : mg "NoText" = some (.ref (Cs 14))
  n15 : mg "NoLine" = some (.ref (Cs 15))
  n16 : mg "TooMany" = some (.ref (Cs 16))
  wool : mg "WoolError" = some (.ref (Cs 17))
structure Kind (K : PySem.W.Frag) (Cs : Nat → Addr) (j : Nat) : Prop where
  lt : j < 16
  ex : ExcC K (Cs j)
  ca : CatchC K (Cs j) (Cs 17)
  on : ∀ i, i < 17 → PySem.W.kitOne K (.ref (Cs j)) (.ref (Cs i)) = some (decide (i = j))
  ve : PySem.W.kitOne K (.ref (Cs j)) (.type "ValueError") = some true
def marks (j : Nat) : List Bool := (List.range 17).map fun i => decide (i = j)
theorem marks_count : ∀ j, j < 17 → (marks j).count true = 1 := by decide +kernel
theorem marks_at {j : Nat} (h : j < 17) : (marks j)[j]? = some true := by
  unfold marks
  rw [List.getElem?_map, List.getElem?_range h]
  simp
theorem marks_no {j i : Nat} (h : i < j) : (marks j)[i]? ≠ some true := by
  unfold marks
  rw [List.getElem?_map]
  by_cases hi : i < 17
  · rw [List.getElem?_range hi]
    simp
    omega
  · rw [List.getElem?_eq_none (by simp; omega)]
    simp
theorem boot_ve : bootBuiltins "ValueError" = some (.type "ValueError") := by decide +kernel
theorem words_at {j : Nat} (h : j < 16) : atI (words.map V.str) (j : Int) = some (.str (words.getD j "")) := by
  have hl : words.length = 16 := rfl
  have : words[j]? = some (words.getD j "") := by
    rw [List.getD_eq_getElem?_getD, List.getElem?_eq_getElem (by omega)]
    rfl
  refine atI_nat ?_
  rw [List.getElem?_map, this]
  rfl
theorem be_isx {X : Cx} {x : Str} {D : Addr} {p q r pos : Pos} {y : Str} {i : Nat} (hN : X.N[i]? = some y) (hv : Vis X.env.scope y) (hI : Gl X "isinstance") (mI : X.mg "isinstance" = none) (hg : Gl X x) (hm : X.mg x = some (.ref D)) (hd : (y == ("__debug__" : Str)) = false := by decide) (hcd : (y == ("__classdict__" : Str)) = false := by decide) (hd2 : (x == ("__debug__" : Str)) = false := by decide) :
    BE X (.Call (.Name "isinstance" p) [.Name y q, .Name x r] [] pos) (tCB (fun xs H Q => ∃ a C c b, xs = [.ref a, c] ∧ H a = some (.ext (excAt a C)) ∧ ExcC X.K C ∧ ((∃ D, c = .ref D ∧ PySem.W.kitOne X.K (.ref C) (.ref D) = some b) ∨ ∃ n, c = .ty n ∧ PySem.W.kitOne X.K (.ref C) (.type n) = some b) ∧ Q (.bl b) H) (tCons (tVar i) (tCons (tC (.ref D)) tNil))) :=
  ⟨pe_callB call_isinstX hI mI boot_isinstance (pa_c (pe_var hN hv hd hcd) (pa_c (pe_glob (v := .ref D) hg hm rfl hd2) pa_nil))⟩
theorem rd_isx {K : PySem.W.Frag} {σ : L2.St} {H : Hp} {a : Addr} {Cs : Nat → Addr} {i j : Nat} {Q : VK} (Z : Kind K Cs j) (hi : i < 17) (e : H a = some (.ext (excAt a (Cs j)))) (hσ : σ[0]? = some (some (.ref a))) (h : Q (.bl (decide (i = j))) H) :
    tCB (fun xs H Q => ∃ a C c b, xs = [.ref a, c] ∧ H a = some (.ext (excAt a C)) ∧ ExcC K C ∧ ((∃ D, c = .ref D ∧ PySem.W.kitOne K (.ref C) (.ref D) = some b) ∨ ∃ n, c = .ty n ∧ PySem.W.kitOne K (.ref C) (.type n) = some b) ∧ Q (.bl b) H) (tCons (tVar 0) (tCons (tC (.ref (Cs i))) tNil)) σ H Q :=
  ⟨_, hσ, a, Cs j, .ref (Cs i), _, rfl, e, Z.ex, .inl ⟨_, rfl, Z.on i hi⟩, h⟩
def toE (EX : Addr → Addr → Hp → Prop) : XK := fun e C H => match e, C with
  | .ref a, some C' => EX a C' H
  | _, _ => False
def LamSays (P : Program) (w : World) (K : PySem.W.Frag) (mg : Str → Option Value) (base : Heap) (kk : Nat) (H : Hp) (fl : Addr) (Qw : VK) (Ew : Addr → Addr → Hp → Prop) : Prop :=
  ∃ (fd : FuncData) (body : Expr) (N : List Str) (vs : List V) (cs : List (Addr × Obj)), LamObj H fl fd ∧ LamAt fd body N ∧ (∀ b o, cs.lookup b = some o → H b = some (held o)) ∧ (∀ x c, fd.closure.lookup x = some c → ∃ o v, cs.lookup c = some o ∧ o.data = .cell v) ∧
    (∀ (i : Nat) (x : Str) (v : V), N[i]? = some x → vs[i]? = some v → ∃ c u o, fd.closure.lookup x = some c ∧ RelV v u ∧ cs.lookup c = some o ∧ o.data = .cell (some u)) ∧ vs.length = N.length ∧
    ∀ (A : Around) (outer : List Env) (Q' : VK) (E' : XK), Room kk A → (∀ v H1, Qw v H1 → Q' v H1) → (∀ a C H1, Ew a C H1 → E' (.ref a) (some C) H1) →
      ∃ te, (∀ s, PE (cxL P w K mg base N fd fl A outer s (er H cs) (fun e C H1 => NoC cs H1 → E' e C (fz H1 cs))) body te) ∧ te (vs.map some) (er H cs) fun v H1 => NoC cs H1 → Q' v (fz H1 cs)
theorem rd_lam {X : Cx} {i kk : Nat} {E : XK} {σ : L2.St} {H : Hp} {Q : VK} {fl : Addr} {Qw : VK} {Ew : Addr → Addr → Hp → Prop} (eσ : σ[i]? = some (some (.ref fl))) (L : LamSays X.prog X.w X.K X.mg X.base kk H fl Qw Ew) (hr : Room kk X.A) (q1 : ∀ v H1, Qw v H1 → Q v H1) (q2 : ∀ a C H1, Ew a C H1 → E (.ref a) (some C) H1) : tLam X i E σ H Q := by
  obtain ⟨fd, body, N, vs, cs, L, Z, fr, cell, val, hl, run⟩ := L
  obtain ⟨te, hte, q⟩ := run X.A X.stack Q E hr q1 q2
  exact ⟨fl, fd, body, N, vs, cs, te, eσ, L, Z, fr, cell, val, hl, hte, q⟩
def CalU (P : Program) (w : World) (K : PySem.W.Frag) (mg : Str → Option Value) (base : Heap) (k : Nat) (x : Str) (ps : List Str) (sp : Sp) : Prop :=
  ∃ f fd, FnOkU P w K mg base CX0 k f fd ps sp ∧ mg x = some (.ref f) ∧ PySem.W.keepIn K (.ref f) = true ∧ Binds K fd ps []
theorem pe_calU {X : Cx} {k j : Nat} {x : Str} {ps : List Str} {sp : Sp} {p pos : Pos} {e : Expr} {es : List Expr} {t : TA} (c : CalU X.prog X.w X.K X.mg X.base j x ps sp) (hr : RoomU k X.A) (hjk : j ≤ k) (hg : Gl X x) (ha : PA X (e :: es) t)
    (hdb : (x == ("__debug__" : Str)) = false := by decide) (he : starEach (e :: es) X.env = (false, eval e X.env) :: starEach es X.env := by rfl) (hpl : (backTo pos (starEach es X.env)).any (·.1) = false := by rfl) :
    PE X (.Call (.Name x p) (e :: es) [] pos) (tCall sp [] E0 t) := by
  obtain ⟨f, fd, F, m, k', b⟩ := c
  exact pe_callU F (hr.mono hjk) hg m k' b ha hdb he hpl
open PySem.W in
/-- all that is asked of the class of a word -/
def kdIn (K : Frag) (L : List Addr) (j : Nat) : Bool :=
  decide (j < 16) && ((clsIn K (L.getD j 0)).isSome && (findIn K (.ref (L.getD j 0)) "__getattribute__" == some (some (.builtin "BaseException.__getattribute__")) && (findIn K (.ref (L.getD j 0)) "__getattr__" == some none && (findIn K (.ref (L.getD j 0)) "__class__" == some (some (.builtin "object.__class__")) &&
  (specialIn K (.builtin "object.__class__") "__get__" == some (some (.builtin "getset_descriptor.__get__")) && (takesIn K (.builtin "object.__class__") == some true && (mroIn K (L.getD j 0) (.type "object") == some true && (mroIn K (L.getD j 0) (.type "BaseException") == some true &&
  (typeIn K (.ref (L.getD 17 0)) == some (.type "type") && ((clsIn K (L.getD 17 0)).isSome && (subIn K (.ref (L.getD 17 0)) (.type "BaseException") == some true && (subIn K (.ref (L.getD j 0)) (.ref (L.getD 17 0)) == some true &&
  ((List.range 17).all (fun i => kitOne K (.ref (L.getD j 0)) (.ref (L.getD i 0)) == some (decide (i = j))) && kitOne K (.ref (L.getD j 0)) (.type "ValueError") == some true)))))))))))))
theorem kd_of {K : PySem.W.Frag} {L : List Addr} {j : Nat} (h : kdIn K L j = true) : Kind K (fun i => L.getD i 0) j := by
  unfold kdIn at h
  simp only [Bool.and_eq_true, beq_iff_eq, decide_eq_true_eq] at h
  obtain ⟨h0, h1, h2, h3, h4, h5, h6, h7, h8, h9, h10, h11, h12, h13, h14⟩ := h
  refine ⟨h0, ⟨h1, h2, h3, h4, h5, h6, h7, h8⟩, ⟨h9, h10, h11, h12⟩, fun i hi => ?_, h14⟩
  have := List.all_eq_true.mp h13 i (List.mem_range.mpr hi)
  simpa using this
theorem tab_mk {K : PySem.W.Frag} {x : Str} {f c T : Addr} {a1 a2 : Value} {b1 b2 : Option Addr} {s1 s2 : Array (Option Value)} {fd : FuncData} {vs : Array Value} (h1 : PySem.W.nsIn K mainGlobals x = some (some (.ref f))) (h2 : K.lookup f = some ⟨a1, b1, .func fd, s1⟩) (h3 : fd.code = .ref c) (h4 : K.lookup c = some ⟨a2, b2, .fields vs, s2⟩) (h5 : vs[11]? = some (.ref T)) :
    PySem.W.tabIn K x = some (c, T) := by
  unfold PySem.W.tabIn
  rw [h1]
  show (match K.lookup f with | some ⟨_, _, .func fd, _⟩ => _ | _ => none) = _
  rw [h2]
  show (match fd.code with | .ref c => _ | _ => none) = _
  rw [h3]
  show (match K.lookup c with | some ⟨_, _, .fields vs, _⟩ => _ | _ => none) = _
  rw [h4]
  show (match vs[11]? with | some (.ref P) => some (c, P) | _ => none) = _
  rw [h5]
end K12

set_option Elab.async false
set_option linter.all false
set_option maxRecDepth 100000
set_option maxHeartbeats 400000
namespace K12
open PySem L2
/-! ### _law_marks, _law_said -/
def spMarks (K : PySem.W.Frag) (Cs : Nat → Addr) : Sp := fun vs H Q _ => ∃ a j, vs = [.ref a] ∧ H a = some (.ext (excAt a (Cs j))) ∧ Kind K Cs j ∧ ∀ p H', Same H H' → H' p = some (.lst ((marks j).map V.bl)) → Q (.ref p) H'
def spSaid (P : Program) (w : World) (K : PySem.W.Frag) (mg : Str → Option Value) (base : Heap) (Cs : Nat → Addr) (kk : Nat) : Sp := fun vs H Q _ => ∃ (fl : Addr) (Qw : VK) (Ew : Addr → Addr → Hp → Prop), vs = [.ref fl] ∧ LamSays P w K mg base kk H fl Qw Ew ∧
  (∀ v H1, Qw v H1 → ∀ p, H1 p = none → Q (.ref p) (upd H1 p (.tup [.str "told", v]))) ∧
  (∀ a C H1, Ew a C H1 → ∃ j, C = Cs j ∧ Kind K Cs j ∧ (H1 a = none → ∀ H2, Same H1 H2 → Q (.str (words.getD j "")) H2))
section
variable {P : Program} {w : World} {K : PySem.W.Frag} {mg : Str → Option Value} {base : Heap}
theorem scM1 : FnScope ["_law_e", "_law_some"] ["_law_e"] (defScope (top 38)) := ⟨rfl, rfl, rfl, by decide +kernel, rfl, by decide +kernel, by decide +kernel⟩
theorem ok_marks {f : Addr} {Cs : Nat → Addr} {fd : FuncData} (F : Fun K "_law_marks" "_law_marks" (top 38) f fd) (T : Mg mg) (L : Clss mg Cs) : FnOkU P w K mg base CX0 1 f fd ["_law_e"] (spMarks K Cs) := by
  refine F.okU scM1 (fun vs H Q E h => ?_) (fun cdv A outer s H vs Q E hr h => ?_)
  · obtain ⟨a, j, rfl, _⟩ := h
    rfl
  · obtain ⟨a, j, rfl, ea, Z, q⟩ := h
    refine ok_b (bss_cons (bs_set (i := 1) scM1.nd rfl (Or.inl rfl) (be_lst (ab_c (be_isx (i := 0) rfl (Or.inl rfl) rfl T.isinstance rfl L.n0) (ab_c (be_isx (i := 0) rfl (Or.inl rfl) rfl T.isinstance rfl L.n1) (ab_c (be_isx (i := 0) rfl (Or.inl rfl) rfl T.isinstance rfl L.n2) (ab_c (be_isx (i := 0) rfl (Or.inl rfl) rfl T.isinstance rfl L.n3) aa_nil))))))
      (bss_cons (bs_set (i := 1) scM1.nd rfl (Or.inl rfl) (be_op op_cat ⟨pv 1⟩ (be_lst (ab_c (be_isx (i := 0) rfl (Or.inl rfl) rfl T.isinstance rfl L.n4) (ab_c (be_isx (i := 0) rfl (Or.inl rfl) rfl T.isinstance rfl L.n5) (ab_c (be_isx (i := 0) rfl (Or.inl rfl) rfl T.isinstance rfl L.n6) (ab_c (be_isx (i := 0) rfl (Or.inl rfl) rfl T.isinstance rfl L.n7) aa_nil)))))))
      (bss_cons (bs_set (i := 1) scM1.nd rfl (Or.inl rfl) (be_op op_cat ⟨pv 1⟩ (be_lst (ab_c (be_isx (i := 0) rfl (Or.inl rfl) rfl T.isinstance rfl L.n8) (ab_c (be_isx (i := 0) rfl (Or.inl rfl) rfl T.isinstance rfl L.n9) (ab_c (be_isx (i := 0) rfl (Or.inl rfl) rfl T.isinstance rfl L.n10) (ab_c (be_isx (i := 0) rfl (Or.inl rfl) rfl T.isinstance rfl L.n11) aa_nil)))))))
      (bss_cons (bs_set (i := 1) scM1.nd rfl (Or.inl rfl) (be_op op_cat ⟨pv 1⟩ (be_lst (ab_c (be_isx (i := 0) rfl (Or.inl rfl) rfl T.isinstance rfl L.n12) (ab_c (be_isx (i := 0) rfl (Or.inl rfl) rfl T.isinstance rfl L.n13) (ab_c (be_isx (i := 0) rfl (Or.inl rfl) rfl T.isinstance rfl L.n14) (ab_c (be_isx (i := 0) rfl (Or.inl rfl) rfl T.isinstance rfl L.n15) aa_nil)))))))
      (bss_one (bs_ret (be_op op_cat ⟨pv 1⟩ (be_lst (ab_c (be_isx (i := 0) rfl (Or.inl rfl) rfl T.isinstance rfl L.n16) aa_nil))))))))) ?_
    refine rd_seq ?_
    refine rd_asg ?_
    refine rd_lst ?_
    refine rd_cons ?_
    refine rd_isx (i := 0) Z (by decide) ea rfl ?_
    refine rd_cons ?_
    refine rd_isx (i := 1) Z (by decide) ea rfl ?_
    refine rd_cons ?_
    refine rd_isx (i := 2) Z (by decide) ea rfl ?_
    refine rd_cons ?_
    refine rd_isx (i := 3) Z (by decide) ea rfl ?_
    refine ⟨(by show 4 ≤ sizeLine; decide), fun p3 hp3 => ?_⟩
    refine rd_name ?_
    dsimp only
    refine gen_ts (fun H3 => Same H H3 ∧ H3 p3 = some (.lst ([decide (0 = j), decide (1 = j), decide (2 = j), decide (3 = j)].map V.bl))) ⟨Same.upd hp3, upd_same⟩ fun H3 ⟨s3, f3⟩ => ?_
    have ea3 := s3 _ _ ea
    refine rd_seq ?_
    refine rd_asg ?_
    refine ⟨_, rfl, ?_⟩
    refine rd_lst ?_
    refine rd_cons ?_
    refine rd_isx (i := 4) Z (by decide) ea3 rfl ?_
    refine rd_cons ?_
    refine rd_isx (i := 5) Z (by decide) ea3 rfl ?_
    refine rd_cons ?_
    refine rd_isx (i := 6) Z (by decide) ea3 rfl ?_
    refine rd_cons ?_
    refine rd_isx (i := 7) Z (by decide) ea3 rfl ?_
    refine ⟨(by show 4 ≤ sizeLine; decide), fun p4 hp4 => ⟨p3, p4, _, _, rfl, rfl, Same.upd hp4 _ _ f3, upd_same, (by show 8 ≤ sizeLine; decide), fun l4 hl4 => ?_⟩⟩
    refine rd_name ?_
    dsimp only
    refine gen_ts (fun H4 => Same H H4 ∧ H4 l4 = some (.lst ([decide (0 = j), decide (1 = j), decide (2 = j), decide (3 = j), decide (4 = j), decide (5 = j), decide (6 = j), decide (7 = j)].map V.bl))) ⟨(s3.updR hp4).updR hl4, upd_same⟩ fun H4 ⟨s4, f4⟩ => ?_
    have ea4 := s4 _ _ ea
    refine rd_seq ?_
    refine rd_asg ?_
    refine ⟨_, rfl, ?_⟩
    refine rd_lst ?_
    refine rd_cons ?_
    refine rd_isx (i := 8) Z (by decide) ea4 rfl ?_
    refine rd_cons ?_
    refine rd_isx (i := 9) Z (by decide) ea4 rfl ?_
    refine rd_cons ?_
    refine rd_isx (i := 10) Z (by decide) ea4 rfl ?_
    refine rd_cons ?_
    refine rd_isx (i := 11) Z (by decide) ea4 rfl ?_
    refine ⟨(by show 4 ≤ sizeLine; decide), fun p5 hp5 => ⟨l4, p5, _, _, rfl, rfl, Same.upd hp5 _ _ f4, upd_same, (by show 12 ≤ sizeLine; decide), fun l5 hl5 => ?_⟩⟩
    refine rd_name ?_
    dsimp only
    refine gen_ts (fun H5 => Same H H5 ∧ H5 l5 = some (.lst ([decide (0 = j), decide (1 = j), decide (2 = j), decide (3 = j), decide (4 = j), decide (5 = j), decide (6 = j), decide (7 = j), decide (8 = j), decide (9 = j), decide (10 = j), decide (11 = j)].map V.bl))) ⟨(s4.updR hp5).updR hl5, upd_same⟩ fun H5 ⟨s5, f5⟩ => ?_
    have ea5 := s5 _ _ ea
    refine rd_seq ?_
    refine rd_asg ?_
    refine ⟨_, rfl, ?_⟩
    refine rd_lst ?_
    refine rd_cons ?_
    refine rd_isx (i := 12) Z (by decide) ea5 rfl ?_
    refine rd_cons ?_
    refine rd_isx (i := 13) Z (by decide) ea5 rfl ?_
    refine rd_cons ?_
    refine rd_isx (i := 14) Z (by decide) ea5 rfl ?_
    refine rd_cons ?_
    refine rd_isx (i := 15) Z (by decide) ea5 rfl ?_
    refine ⟨(by show 4 ≤ sizeLine; decide), fun p6 hp6 => ⟨l5, p6, _, _, rfl, rfl, Same.upd hp6 _ _ f5, upd_same, (by show 16 ≤ sizeLine; decide), fun l6 hl6 => ?_⟩⟩
    refine rd_name ?_
    dsimp only
    refine gen_ts (fun H6 => Same H H6 ∧ H6 l6 = some (.lst ([decide (0 = j), decide (1 = j), decide (2 = j), decide (3 = j), decide (4 = j), decide (5 = j), decide (6 = j), decide (7 = j), decide (8 = j), decide (9 = j), decide (10 = j), decide (11 = j), decide (12 = j), decide (13 = j), decide (14 = j), decide (15 = j)].map V.bl))) ⟨(s5.updR hp6).updR hl6, upd_same⟩ fun H6 ⟨s6, f6⟩ => ?_
    have ea6 := s6 _ _ ea
    refine rd_ret ?_
    refine ⟨_, rfl, ?_⟩
    refine rd_lst ?_
    refine rd_cons ?_
    refine rd_isx (i := 16) Z (by decide) ea6 rfl ?_
    refine ⟨(by show 1 ≤ sizeLine; decide), fun p7 hp7 => ⟨l6, p7, _, _, rfl, rfl, Same.upd hp7 _ _ f6, upd_same, (by show 17 ≤ sizeLine; decide), fun l7 hl7 => ?_⟩⟩
    exact q l7 _ ((s6.updR hp7).updR hl7) upd_same
theorem scS : FnScope ["_law_call", "_law_found", "_law_e", "_law_marks_here", "_law_words"] ["_law_call"] (defScope (top 39)) := ⟨rfl, rfl, rfl, by decide +kernel, rfl, by decide +kernel, by decide +kernel⟩
section
variable {X : Cx} {K : PySem.W.Frag} {tl : TE} {pos p q : Pos}
theorem be_countK (hK : X.K = K) {k : Bool} {j} {y : Str} {q' : Pos} (hl : BE X (.Name y q') tl) (hline : (p.endLine == pos.line) = true := by rfl) : BE X (.Call (.Attribute (.Name y q') "count" p) [.Constant (.bool k) j q] [] pos) (tBM K "list" rCountB tl (tCons (tC (.bl k)) tNil)) := by
  subst hK
  exact be_count hl hline
theorem be_indexK (hK : X.K = K) {k : Bool} {j} {y : Str} {q' : Pos} (hl : BE X (.Name y q') tl) (hline : (p.endLine == pos.line) = true := by rfl) : BE X (.Call (.Attribute (.Name y q') "index" p) [.Constant (.bool k) j q] [] pos) (tBM K "list" rIndexB tl (tCons (tC (.bl k)) tNil)) := by
  subst hK
  exact be_index hl hline
theorem ix_listJ (hK : X.K = K) : IxR X (rIxL K) := by
  subst hK
  exact ix_list
theorem call_isinstK (hK : X.K = K) : CallR X (.builtin "isinstance") (fun xs H Q => ∃ a C c b, xs = [.ref a, c] ∧ H a = some (.ext (excAt a C)) ∧ ExcC K C ∧ ((∃ D, c = .ref D ∧ PySem.W.kitOne K (.ref C) (.ref D) = some b) ∨ ∃ n, c = .ty n ∧ PySem.W.kitOne K (.ref C) (.type n) = some b) ∧ Q (.bl b) H) := by
  subst hK
  exact call_isinstX
end
def suiteOf (st : Stmt) : List Stmt := match st with
  | .Try _ [.ExceptHandler _ _ b _] _ _ _ => b
  | _ => []
theorem suite_ok {f : Addr} {Cs : Nat → Addr} {cdv : Value} {A : Around} {outer : List Env} {s : Shared} {H : Hp} {E : XK} {k : Nat} (hr : RoomU (k + 1) (cxOf CX0 P w K mg base ["_law_call", "_law_found", "_law_e", "_law_marks_here", "_law_words"] "_law_said" (defScope (top 39)) f cdv A outer s H E).A) (T : Mg mg) (Tv : mg "ValueError" = none) (L : Clss mg Cs) (c1 : CalU P w K mg base 1 "_law_marks" ["_law_e"] (spMarks K Cs)) :
    ∃ th, (∀ v : Option Value, PSs (((cxOf CX0 P w K mg base ["_law_call", "_law_found", "_law_e", "_law_marks_here", "_law_words"] "_law_said" (defScope (top 39)) f cdv A outer s H E).nox.un ((cxOf CX0 P w K mg base ["_law_call", "_law_found", "_law_e", "_law_marks_here", "_law_words"] "_law_said" (defScope (top 39)) f cdv A outer s H E).nox.A.mark v)).nox) (suiteOf ((defBody (top 39)).getD 0 (.Pass ⟨0, 0, 0, 0⟩))) th) ∧
      ∀ (D : Ends) y0 y1 y3 y4 a j H1, H1 a = some (.ext (excAt a (Cs j))) → Kind K Cs j → (∀ H2, Same H1 H2 → D.rt (.str (words.getD j "")) H2) → th D [y0, y1, some (.ref a), y3, y4] H1 := by
  refine ⟨_, fun v => pss_b (bss_cons (bs_set (i := 3) scS.nd rfl (Or.inl rfl) ⟨pe_calU c1 (hr.mark v) (by omega) rfl (pa_c (pv 2) pa_nil)⟩)
          (bss_cons (bs_if (bt_or2 (bt_not (bt_call ⟨pe_callB (call_isinstK (K := K) rfl) rfl T.isinstance boot_isinstance (pa_c (pv 2) (pa_c (pe_bltn rfl Tv boot_ve (v := .ty "ValueError") rfl) pa_nil))⟩)) (bt_ne (be_countK (K := K) rfl ⟨pv 3⟩))) (bss_one (bs_ret be_str)) bss_nil)
          (bss_cons (bs_if (bt_sub (be_ix (ix_listJ (K := K) rfl) ⟨pv 3⟩ be_int (fun _ _ => rfl))) (bss_one ⟨ps_ret pe_never⟩) bss_nil)
          (bss_cons (bs_set (i := 4) scS.nd rfl (Or.inl rfl) (be_lst (ab_c be_str (ab_c be_str (ab_c be_str (ab_c be_str (ab_c be_str (ab_c be_str (ab_c be_str (ab_c be_str (ab_c be_str aa_nil)))))))))))
          (bss_one (bs_ret (be_ix (ix_listJ (K := K) rfl) (be_op op_cat ⟨pv 4⟩ (be_lst (ab_c be_str (ab_c be_str (ab_c be_str (ab_c be_str (ab_c be_str (ab_c be_str (ab_c be_str aa_nil))))))))) (be_indexK (K := K) rfl ⟨pv 3⟩) (fun _ _ => rfl)))))))), ?_⟩
  intro D y0 y1 y3 y4 a j H1 ea Z q3
  have lt := Z.lt
  refine rd_seq ?_
  refine rd_asg ?_
  refine ⟨_, rfl, a, j, rfl, ea, Z, fun p H2 s2 e2 => ?_⟩
  refine rd_name ?_
  dsimp only
  have ea2 : H2 a = some (.ext (excAt a (Cs j))) := s2 _ _ ea
  refine rd_seq ?_
  refine ⟨_, rfl, a, Cs j, .ty "ValueError", true, rfl, ea2, Z.ex, .inr ⟨_, rfl, Z.ve⟩, _, rfl, ?_⟩
  refine iteF ?_
  refine ⟨_, rfl, .inl ⟨rfl, _, SqL.of e2⟩, p, marks j, true, rfl, rfl, e2, rfl, _, rfl, ?_⟩
  rw [marks_count j (by omega)]
  refine iteF ?_
  refine rd_next ?_
  dsimp only
  refine rd_seq ?_
  refine ⟨_, rfl, p, _, 16, .bl (decide (16 = j)), rfl, rfl, SqL.of e2, rfl, _, rfl, ?_⟩
  rw [decide_eq_false (by omega : ¬ 16 = j)]
  refine iteF ?_
  refine rd_next ?_
  dsimp only
  refine rd_seq ?_
  refine ⟨by decide, fun p4 hp4 => ?_⟩
  refine rd_name ?_
  dsimp only
  refine gen_ts (fun H4 => Same H1 H4 ∧ H4 p = some (.lst ((marks j).map V.bl)) ∧ H4 p4 = some (.lst [.str "clips", .str "promises", .str "sales", .str "book", .str "number", .str "year", .str "weights", .str "paper", .str "growth"])) ⟨s2.updR hp4, Same.upd hp4 _ _ e2, upd_same⟩ fun H4 ⟨s4, f4, e4⟩ => ?_
  refine rd_ret ?_
  refine ⟨_, rfl, by decide, fun p5 hp5 => ⟨p4, p5, _, _, rfl, rfl, Same.upd hp5 _ _ e4, upd_same, by decide, fun l5 hl5 => ?_⟩⟩
  have f6 := Same.upd (o := .lst (words.map V.str)) hl5 _ _ (Same.upd (o := .lst [.str "promise", .str "sort", .str "clip", .str "sale", .str "deed", .str "text", .str "line"]) hp5 _ _ f4)
  refine ⟨_, rfl, .inl ⟨rfl, _, SqL.of f6⟩, p, marks j, true, j, rfl, rfl, f6, marks_at (by omega), fun i hi => marks_no hi, l5, words.map V.str, j, _, rfl, rfl, SqL.of upd_same, words_at lt, ?_⟩
  exact q3 _ ((s4.updR hp5).updR hl5)
theorem ok_said {f : Addr} {Cs : Nat → Addr} {fd : FuncData} {kk : Nat} (F : Fun K "_law_said" "_law_said" (top 39) f fd) (T : Mg mg) (Tv : mg "ValueError" = none) (L : Clss mg Cs) (c1 : CalU P w K mg base 1 "_law_marks" ["_law_e"] (spMarks K Cs)) : FnOk P w K mg base CX0 (kk + 2) f fd ["_law_call"] (spSaid P w K mg base Cs kk) := by
  refine F.ok scS (fun vs H Q E h => ?_) (fun cdv A outer s H vs Q E hr h => ?_)
  · obtain ⟨fl, Qw, Ew, rfl, _⟩ := h
    rfl
  · obtain ⟨fl, Qw, Ew, rfl, S, q1, q2⟩ := h
    obtain ⟨th, hth, qth⟩ := suite_ok (f := f) (cdv := cdv) (A := A) (outer := outer) (s := s) (H := H) (E := E) (base := base) (P := P) (w := w) (k := kk) (K := K) hr.toU T Tv L c1
    refine ⟨_, pss_cons (ps_try (i := 2) (tb := fun EX => tAsg (tLam (cxOf CX0 P w K mg base ["_law_call", "_law_found", "_law_e", "_law_marks_here", "_law_words"] "_law_said" (defScope (top 39)) f cdv A outer s H E).nox 0 (toE EX)) (gName 1)) (th := th) L.wool rfl scS.nd rfl rfl rfl rfl
        (fun pins xe EX W => pss_one (ps_set (i := 1) scS.nd rfl (Or.inl rfl) (pe_lam (E := toE EX) (k := kk) (hr.mono (by omega)) rfl (Or.inl rfl) W rfl)))
        (fun v => hth v))
      (pss_one (ps_ret (pe_tup (pa_c pe_str (pa_c (pv 1) pa_nil))))), ?_⟩
    refine rd_seq ?_
    refine rd_asg ?_
    refine rd_lam (kk := kk) rfl S (hr.mono (by omega)) (fun v H1 hq => ?_) (fun a C H1 hE => ?_)
    · refine rd_name ?_
      exact ⟨_, rfl, (by show 2 ≤ sizeLine; decide), fun p hp => q1 v H1 hq p hp⟩
    · obtain ⟨j, rfl, Z, q3⟩ := q2 a C H1 hE
      refine ⟨Z.ca, fun σ' hσ fa => ?_⟩
      have hσ : σ'.length = 5 := hσ
      match σ', hσ with
      | [y0, y1, y2, y3, y4], _ => exact qth _ y0 y1 y3 y4 a j _ upd_same Z fun H2 s2 => q3 fa H2 ((Same.upd fa).trans s2)
end
end K12

set_option Elab.async false
set_option linter.all false
set_option maxRecDepth 100000
set_option maxHeartbeats 1000000
namespace K12
open PySem L2
/-! ### what cannot be parted -/
def sumD (d : PyData) : Int := ((items d).map intOf).sum
def kindW (n d : PyData) : Option Nat := if weightsD d = false then some 6 else if betD n 0 (sumD d) = false then some 4 else none
theorem w_of {d : PyData} (h : weightsD d = true) : ∃ ws, d = wD ws ∧ OkW ws ∧ sumD d = ws.sum := by
  unfold weightsD at h
  rw [Bool.and_eq_true] at h
  obtain ⟨h1, h2⟩ := h
  cases d with
  | tuple ds =>
    have l := tupOf_len h1
    have all : ∀ (ds : List PyData), (∀ x ∈ ds, betD x 1 99 = true) → ∃ ws : List Int, ds = ws.map PyData.int ∧ ∀ w ∈ ws, 1 ≤ w ∧ w ≤ 99 := by
      intro ds
      induction ds with
      | nil => exact fun _ => ⟨[], rfl, fun n hn => nomatch hn⟩
      | cons x t ih =>
        intro k1
        obtain ⟨ws, e, hw⟩ := ih fun y hy => k1 y (.tail _ hy)
        have k2 := k1 x (.head _)
        unfold betD at k2
        rw [Bool.and_eq_true, Bool.and_eq_true, decide_eq_true_eq, decide_eq_true_eq] at k2
        have ht : IsTh (fun _ => False) (fun _ => none) (match x with | .int i => V.int i | _ => V.non) (match x with | .int i => .int i | _ => .none) := by
          cases x <;> first | exact .int _ | exact .non
        cases x with
        | int i =>
          have k3 : 1 ≤ i ∧ i ≤ 99 := k2.2
          refine ⟨i :: ws, by rw [e]; rfl, fun n hn => ?_⟩
          rcases List.mem_cons.mp hn with rfl | hn
          · exact k3
          · exact hw n hn
        | _ => cases k2.1
    obtain ⟨ws, e, hw⟩ := all ds (List.all_eq_true.mp h2)
    have el : ds.length = ws.length := by rw [e, List.length_map]
    refine ⟨ws, by rw [e]; rfl, ⟨by omega, by omega, hw⟩, ?_⟩
    show (ds.map intOf).sum = ws.sum
    rw [e, List.map_map]
    congr 1
    conv => rhs; rw [← List.map_id ws]
    exact List.map_congr_left fun _ _ => rfl
  | _ => cases h1
theorem bet_int {d : PyData} {lo hi : Int} (h : betD d lo hi = true) : ∃ i, d = .int i ∧ lo ≤ i ∧ i ≤ hi := by
  unfold betD at h
  rw [Bool.and_eq_true, Bool.and_eq_true, decide_eq_true_eq, decide_eq_true_eq] at h
  cases d with
  | int i => exact ⟨i, rfl, h.2⟩
  | _ => cases h.1
theorem w_tup {S : Addr → Prop} {H : Hp} {v : V} {ws : List Int} (t : IsTh S H v (wD ws)) : ∃ p, v = .ref p ∧ H p = some (.tup (ws.map V.int)) := by
  cases t with
  | tup e r =>
    refine ⟨_, rfl, ?_⟩
    have : ∀ {xs : List V} {r : List Int}, IsThs S H xs (r.map PyData.int) → xs = r.map V.int := by
      intro xs r h
      induction r generalizing xs with
      | nil => cases h; rfl
      | cons i r ih =>
        cases h with
        | cons a b =>
          cases a
          rw [ih b]
          rfl
    rw [this r] at e
    exact e
/-- a def's end: a word (raised), or a thing -/
def OutX (Cs : Nat → Addr) (o : Option Nat) (R : VK → Hp → Prop) (H : Hp) (Q : VK) (E : XK) : Prop := (∀ j, o = some j → ∀ a H', Same H H' → H' a = none → E (.ref a) (some (Cs j)) H') ∧ (o = none → R Q H)
/-- any thing, nothing turned -/
def anyR : VK → Hp → Prop := fun Q H => ∀ v' H', Same H H' → Q v' H'
def nonR : VK → Hp → Prop := fun Q H => ∀ H', Same H H' → Q .non H'
def spX2 (Cs : Nat → Addr) (R : VK → Hp → Prop) : Sp := fun vs H Q E => ∃ S vn n vw d, vs = [vn, vw] ∧ IsTh S H vn n ∧ sz n ≤ 4000 ∧ IsTh S H vw d ∧ sz d ≤ 4000 ∧ OutX Cs (kindW n d) R H Q E
def spFairX (Cs : Nat → Addr) : Sp := fun vs H Q E => ∃ S vn n vw d, vs = [vn, vw, .non] ∧ IsTh S H vn n ∧ sz n ≤ 4000 ∧ IsTh S H vw d ∧ sz d ≤ 4000 ∧ OutX Cs (kindW n d) anyR H Q E
theorem rd_ifN {te : TE} {t u : TS} {D : Ends} {σ : L2.St} {H : Hp} (h : te σ H fun x H1 => ∃ c, x = .bl c ∧ if (!c) = true then t D σ H1 else u D σ H1) : tIfS (tNot (tB te)) t u D σ H := h
theorem pt_never {X : Cx} {e : Expr} : PT X e (fun _ _ _ => False) := fun _ _ _ _ _ _ h => h.elim
def dueS (n d : PyData) : Str := match kindW n d with
  | some j => words.getD j ""
  | none => ""
def spDue : Sp := fun vs H Q _ => ∃ S vn n vw d, vs = [vn, vw] ∧ IsTh S H vn n ∧ sz n ≤ 4000 ∧ IsTh S H vw d ∧ sz d ≤ 4000 ∧ ∀ H', Same H H' → Q (.str (dueS n d)) H'
section
variable {P : Program} {w : World} {K : PySem.W.Frag} {mg : Str → Option Value} {base : Heap}
theorem scR : FnScope ["sacks", "weights"] ["sacks", "weights"] (defScope (top 28)) := ⟨rfl, rfl, rfl, by decide +kernel, rfl, by decide +kernel, by decide +kernel⟩
theorem ok_refuseX {f : Addr} {Cs : Nat → Addr} {fd : FuncData} (F : Fun K "refuse_unpartable" "refuse_unpartable" (top 28) f fd) (O6 : PyProof.Rows.OwnCls "NoWeights" (Cs 6) VE "ValueError.__new__" mg base) (O4 : PyProof.Rows.OwnCls "NoNumber" (Cs 4) VE "ValueError.__new__" mg base) (Ts : mg "sum" = none) (c1 : Cal P w K mg base 4 "are_weights" ["thing"] (spT weightsD)) (c2 : Cal P w K mg base 2 "is_whole_from" ["thing", "least", "most"] (spT2 betD)) :
    FnOk P w K mg base (CX1 P w) 5 f fd ["sacks", "weights"] (spX2 Cs nonR) := by
  refine F.okX scR (fun vs H Q E h => ?_) (fun cdv A outer s H vs Q E hr h => ?_)
  · obtain ⟨S, vn, n, vw, d, rfl, _⟩ := h
    rfl
  · obtain ⟨S, vn, n, vw, d, rfl, tn, zn, tw, zw, q1, q2⟩ := h
    refine ⟨_, pss_cons (ps_if (pt_not (pt_val (pe_cal c1 hr (by decide) rfl (pa_cons (pv 1) pa_nil)))) (pss_one (ps_raise O6 PySem.F.excBase_ValueError rfl rfl rfl (pa_c pe_str pa_nil) wish_of)) pss_nil)
      (pss_one (ps_if (pt_not (pt_val (pe_cal c2 hr (by decide) rfl (pa_cons (pv 0) (pa_cons pe_int (pa_cons (pe_callB (call_sumL rfl) rfl Ts boot_sum (pa_c (pv 1) pa_nil)) pa_nil)))))) (pss_one (ps_raise O4 PySem.F.excBase_ValueError rfl rfl rfl (pa_c pe_str pa_nil) wish_of)) pss_nil)), ?_⟩
    refine rd_seq ?_
    refine ⟨_, rfl, S, vw, d, rfl, tw, zw, fun H1 s1 => ⟨_, rfl, ?_⟩⟩
    cases h1 : weightsD d with
    | false => exact iteT ⟨by decide, fun a ha => q1 6 (by unfold kindW; rw [if_pos h1]) a _ s1 ha⟩
    | true =>
    refine iteF ?_
    refine rd_next ?_
    dsimp only
    obtain ⟨ws, rfl, ok, es⟩ := w_of h1
    obtain ⟨p, rfl, ep⟩ := w_tup (tw.same s1)
    refine ⟨_, rfl, _, rfl, p, ws, rfl, .inr (SqT.of ep), S, vn, n, 0, ws.sum, rfl, tn.same s1, zn, fun H2 s2 => ⟨_, rfl, ?_⟩⟩
    cases h2 : betD n 0 ws.sum with
    | false => exact iteT ⟨by decide, fun a ha => q1 4 (by unfold kindW; rw [if_neg (by rw [h1]; decide), es, if_pos h2]) a _ (s1.trans s2) ha⟩
    | true => exact iteF (q2 (by unfold kindW; rw [if_neg (by rw [h1]; decide), es, if_neg (by rw [h2]; decide)]) H2 (s1.trans s2))
theorem scP : FnScope ["sacks", "weights"] ["sacks", "weights"] (defScope (top 31)) := ⟨rfl, rfl, rfl, by decide +kernel, rfl, by decide +kernel, by decide +kernel⟩
theorem ok_partedX {f : Addr} {Cs : Nat → Addr} {fd : FuncData} (F : Fun K "parted" "parted" (top 31) f fd) (c1 : CalX P w K mg base 5 "refuse_unpartable" ["sacks", "weights"] (spX2 Cs nonR)) (c2 : Cal P w K mg base 2 "parts_of" ["sacks", "weights"] spParts) : FnOk P w K mg base (CX1 P w) 6 f fd ["sacks", "weights"] (spX2 Cs anyR) := by
  refine F.okX scP (fun vs H Q E h => ?_) (fun cdv A outer s H vs Q E hr h => ?_)
  · obtain ⟨S, vn, n, vw, d, rfl, _⟩ := h
    rfl
  · obtain ⟨S, vn, n, vw, d, rfl, tn, zn, tw, zw, q1, q2⟩ := h
    refine ⟨_, pss_cons (ps_expr (pe_calX (E := E) c1 hr (by decide) rfl wish_of rfl (pa_c (pv 0) (pa_c (pv 1) pa_nil)))) (pss_one (ps_ret (pe_cal c2 hr (by decide) rfl (pa_c (pv 0) (pa_c (pv 1) pa_nil))))), ?_⟩
    refine rd_seq ?_
    refine ⟨_, rfl, _, rfl, S, vn, n, vw, d, rfl, tn, zn, tw, zw, q1, fun kn H1 s1 => ?_⟩
    have h1 : weightsD d = true := by
      unfold kindW at kn
      split at kn
      · cases kn
      · rename_i h; simpa using h
    obtain ⟨ws, rfl, ok, es⟩ := w_of h1
    have h2 : betD n 0 ws.sum = true := by
      unfold kindW at kn
      rw [if_neg (by rw [h1]; decide), es] at kn
      split at kn
      · cases kn
      · rename_i h; simpa using h
    obtain ⟨i, rfl, i0, i1⟩ := bet_int h2
    cases tn
    obtain ⟨p, rfl, ep⟩ := w_tup (tw.same s1)
    dsimp only
    refine rd_ret ?_
    exact ⟨_, rfl, _, rfl, i, p, ws, rfl, ep, ok, i0, i1, fun H2 t s2 et => q2 kn _ H2 (s1.trans s2)⟩
theorem scF : FnScope ["sacks", "weights", "thing", "together"] ["sacks", "weights", "thing"] (defScope (top 32)) := ⟨rfl, rfl, rfl, by decide +kernel, rfl, by decide +kernel, by decide +kernel⟩
theorem ok_fairX {f : Addr} {Cs : Nat → Addr} {fd : FuncData} (F : Fun K "is_fair" "is_fair" (top 32) f fd) (T : Mg mg) (c1 : CalX P w K mg base 5 "refuse_unpartable" ["sacks", "weights"] (spX2 Cs nonR)) (c2 : Cal P w K mg base 2 "are_wholes" ["thing", "many"] (spT1 wholesD)) : FnOk P w K mg base (CX1 P w) 6 f fd ["sacks", "weights", "thing"] (spFairX Cs) := by
  refine F.okX scF (fun vs H Q E h => ?_) (fun cdv A outer s H vs Q E hr h => ?_)
  · obtain ⟨S, vn, n, vw, d, rfl, _⟩ := h
    rfl
  · obtain ⟨S, vn, n, vw, d, rfl, tn, zn, tw, zw, q1, q2⟩ := h
    refine ⟨_, pss_cons (ps_expr (pe_calX (E := E) c1 hr (by decide) rfl wish_of rfl (pa_c (pv 0) (pa_c (pv 1) pa_nil))))
      (pss_cons (ps_if (PW.pt (pw_or (pt_not (pt_val (pe_cal c2 hr (by decide) rfl (pa_c (pv 2) (pa_c (pe_callB call_len_seq rfl T.len PySem.boot_len (pa_c (pv 1) pa_nil)) pa_nil))))) (pw_or1 pt_never))) (pss_one (ps_ret pe_bl)) pss_nil) pss_never), ?_⟩
    refine rd_seq ?_
    refine ⟨_, rfl, _, rfl, S, vn, n, vw, d, rfl, tn, zn, tw, zw, q1, fun kn H1 s1 => ?_⟩
    have h1 : weightsD d = true := by
      unfold kindW at kn
      split at kn
      · cases kn
      · rename_i h; simpa using h
    obtain ⟨ws, rfl, ok, es⟩ := w_of h1
    obtain ⟨p, rfl, ep⟩ := w_tup (tw.same s1)
    dsimp only
    refine rd_seq ?_
    refine ⟨_, rfl, _, rfl, p, _, rfl, .inr (SqT.of ep), S, .non, .none, _, rfl, .non, (by show 1 ≤ 4000; decide), fun H2 s2 => ⟨_, rfl, ?_⟩⟩
    exact iteT (iteT (q2 kn _ H2 (s1.trans s2)))
/-! ### the law's own -/
theorem scW : FnScope ["_law_thing", "_law_low", "_law_high"] ["_law_thing", "_law_low", "_law_high"] (defScope (top 44)) := ⟨rfl, rfl, rfl, by decide +kernel, rfl, by decide +kernel, by decide +kernel⟩
theorem ok_lwhole {f : Addr} {fd : FuncData} (F : Fun K "_law_whole" "_law_whole" (top 44) f fd) (T : Mg mg) : FnOk P w K mg base CX0 1 f fd ["_law_thing", "_law_low", "_law_high"] (spT2 betD) := by
  refine F.ok scW (fun vs H Q E h => ?_) (fun cdv A outer s H vs Q E hr h => ?_)
  · obtain ⟨S, v, d, n, m, rfl, _⟩ := h
    rfl
  · obtain ⟨S, v, d, n, m, rfl, th, hz, q⟩ := h
    refine ⟨_, pss_one (ps_ret (pe_and (pe_callB call_isinst rfl T.isinstance boot_isinstance (pa_cons (pv 0) (pa_cons (pe_bltn rfl T.int boot_int (v := .ty "int") rfl) pa_nil)))
      (pe_and (pe_not (pe_callB call_isinst rfl T.isinstance boot_isinstance (pa_cons (pv 0) (pa_cons (pe_bltn rfl T.bool boot_bool (v := .ty "bool") rfl) pa_nil)))) (pe_one (pe_chain op_le op_le (pv 1) (pv 0) (pv 2)))))), ?_⟩
    refine ⟨_, rfl, v, _, "int", isIntD d, rfl, th.ty, kit_int d, _, rfl, ?_⟩
    have fin := q H (Same.refl H)
    unfold betD wholeD at fin
    cases e : isIntD d with
    | false =>
      rw [e] at fin
      exact iteF fin
    | true =>
      rw [e] at fin
      refine iteT ⟨_, rfl, v, _, "bool", isBoolD d, rfl, th.ty, kit_bool d, _, rfl, _, rfl, ?_⟩
      cases e2 : isBoolD d with
      | true =>
        rw [e2] at fin
        exact iteF fin
      | false =>
        rw [e2] at fin
        refine iteT ?_
        cases d with
        | int i =>
          cases th
          exact ev_chain (ev_v rfl) (ev_v rfl) (ev_v rfl) _ fin
        | bool b => cases e2
        | _ => cases e
theorem scD : FnScope ["_law_sacks", "_law_weights_here"] ["_law_sacks", "_law_weights_here"] (defScope (top 45)) := ⟨rfl, rfl, rfl, by decide +kernel, rfl, by decide +kernel, by decide +kernel⟩
theorem ok_due {f : Addr} {fd : FuncData} (F : Fun K "_law_due" "_law_due" (top 45) f fd) (T : Mg mg) (Ts : mg "sum" = none) (c1 : Cal P w K mg base 1 "_law_whole" ["_law_thing", "_law_low", "_law_high"] (spT2 betD)) : FnOk P w K mg base CX0 2 f fd ["_law_sacks", "_law_weights_here"] spDue := by
  refine F.ok scD (fun vs H Q E h => ?_) (fun cdv A outer s H vs Q E hr h => ?_)
  · obtain ⟨S, vn, n, vw, d, rfl, _⟩ := h
    rfl
  · obtain ⟨S, vn, n, vw, d, rfl, tn, zn, tw, zw, q⟩ := h
    refine ⟨_, pss_cons (ps_if (PW.pt (pw_or (pt_not (pt_val (pe_callB call_isinst rfl T.isinstance boot_isinstance (pa_cons (pv 1) (pa_cons (pe_bltn rfl T.tuple boot_tuple (v := .ty "tuple") rfl) pa_nil)))))
        (pw_or1 (pt_not (pt_chain op_le op_le pe_int (pe_callB call_len_seq rfl T.len PySem.boot_len (pa_cons (pv 1) pa_nil)) pe_int))))) (pss_one (ps_ret pe_str)) pss_nil)
      (pss_cons (ps_if (pt_not (pt_val (pe_callB (call_all rfl) rfl T.all boot_all (pa_cons (pe_comp ["_law_one"] [none] rfl (pi_tup (pv 1))
        (fun C fp pins s₂ H₂ => ⟨pg_name (i := 0) (nd1 _) rfl (Or.inl rfl), pts_nil, pe_cal c1 hr (by decide) rfl (pa_cons (pv 0) (pa_cons pe_int (pa_cons pe_int pa_nil)))⟩) (fun C => trivial) ⟨rfl, rfl, rfl, rfl⟩) pa_nil)))) (pss_one (ps_ret pe_str)) pss_nil)
      (pss_one (ps_ret (pe_ifExp (pt_val (pe_cal c1 hr (by decide) rfl (pa_cons (pv 0) (pa_cons pe_int (pa_cons (pe_callB (call_sumL rfl) rfl Ts boot_sum (pa_c (pv 1) pa_nil)) pa_nil))))) pe_str pe_str)))), ?_⟩
    have bad : weightsD d = false → ∀ H', Same H H' → Q (.str "weights") H' := fun h H' s' => by
      have := q H' s'
      unfold dueS kindW at this
      rw [if_pos h] at this
      exact this
    refine rd_seq ?_
    refine ⟨_, rfl, vw, _, "tuple", isTupD d, rfl, tw.ty, kit_tup d, _, rfl, ?_⟩
    cases e : isTupD d with
    | false => exact iteT (iteT (bad (by unfold weightsD tupOfD; rw [e]; rfl) H (Same.refl H)))
    | true =>
    refine iteF ?_
    cases tw with
    | @tup a xs ds ea r =>
      have hl := r.length
      refine ev_chain (p := fun i j => decide (i ≤ j)) (q := fun i j => decide (i ≤ j)) (j := (xs.length : Int)) ev_c (fun Q h => ⟨_, rfl, a, xs, rfl, .inr (SqT.of ea), h⟩) ev_c _ ⟨_, rfl, ?_⟩
      rw [hl]
      have wd : weightsD (.tuple ds) = ((decide ((1 : Int) ≤ (ds.length : Int)) && decide ((ds.length : Int) ≤ 80)) && ds.all fun x => betD x 1 99) := rfl
      cases e2 : (decide ((1 : Int) ≤ (ds.length : Int)) && decide ((ds.length : Int) ≤ 80)) with
      | false => exact iteT (bad (by rw [wd, e2]; rfl) H (Same.refl H))
      | true =>
      refine iteF ?_
      refine rd_next ?_
      dsimp only
      refine rd_seq ?_
      refine rd_ifN ?_
      refine all_things (fun x => betD x 1 99) rfl ea r (len_line r zw) (fun v d H2 Q2 hm s2 t2 q2 => ⟨_, rfl, S, v, d, 1, 99, rfl, t2, in_sz hm zw, q2⟩) fun H2 s2 => ⟨_, rfl, ?_⟩
      cases e3 : ds.all (fun x => betD x 1 99) with
      | false => exact iteT (bad (by rw [wd, e2, e3]; rfl) H2 s2)
      | true =>
      refine iteF ?_
      refine rd_next ?_
      dsimp only
      have h1 : weightsD (.tuple ds) = true := by rw [wd, e2, e3]; rfl
      obtain ⟨ws, ew, ok, es⟩ := w_of h1
      have tw2 : IsTh S H2 (.ref a) (wD ws) := by
        rw [← ew]
        exact (IsTh.tup ea r).same s2
      obtain ⟨p, hp, ep⟩ := w_tup tw2
      cases hp
      refine rd_ret ?_
      refine ⟨_, rfl, _, rfl, a, ws, rfl, .inr (SqT.of ep), S, vn, n, 0, ws.sum, rfl, tn.same s2, zn, fun H3 s3 => ⟨_, rfl, ?_⟩⟩
      have fin := q H3 (s2.trans s3)
      unfold dueS kindW at fin
      rw [if_neg (by rw [h1]; decide), es] at fin
      cases h2 : betD n 0 ws.sum with
      | false =>
        rw [if_pos h2] at fin
        exact iteF fin
      | true =>
        rw [if_neg (by rw [h2]; decide)] at fin
        exact iteT fin
    | _ => cases e
end
end K12

set_option Elab.async false
set_option linter.all false
set_option maxRecDepth 100000
set_option maxHeartbeats 2000000
namespace K12
open PySem L2
/-! ### what is said -/
/-- what was found: a word, or what is told -/
def FoundAt (o : Option Nat) (H : Hp) (v : V) : Prop := match o with
  | some j => v = .str (words.getD j "")
  | none => ∃ p x, v = .ref p ∧ H p = some (.tup [.str "told", x])
theorem FoundAt.keep {o : Option Nat} {H H' : Hp} {v : V} (h : FoundAt o H v) (k : ∀ b xs, H b = some (.tup xs) → H' b = some (.tup xs)) : FoundAt o H' v := by
  cases o with
  | some j => exact h
  | none =>
    obtain ⟨p, x, e, z⟩ := h
    exact ⟨p, x, e, k _ _ z⟩
theorem k_cases {n d : PyData} : kindW n d = some 6 ∨ kindW n d = some 4 ∨ kindW n d = none := by
  unfold kindW
  split
  · exact .inl rfl
  · split
    · exact .inr (.inl rfl)
    · exact .inr (.inr rfl)
section
variable {P : Program} {w : World} {K : PySem.W.Frag} {mg : Str → Option Value} {base : Heap}
theorem said_gen {Cs : Nat → Addr} {kk : Nat} {fl : Addr} {fd : FuncData} {body : Expr} {N : List Str} {vs : List V} {cs : List (Addr × Obj)} {H2 : Hp} {o : Option Nat} {Q : VK} (kd : ∀ j, o = some j → Kind K Cs j) (L : LamObj H2 fl fd) (Z : LamAt fd body N) (C : CellsOf fd.closure N vs H2 cs) (hN : vs.length = N.length)
    (run : ∀ A outer E Q, Room kk A → OutX Cs o anyR H2 Q E → ∃ te, (∀ s, PE (cxL P w K mg base N fd fl A outer s H2 E) body te) ∧ te (vs.map some) H2 Q)
    (q : ∀ v H3, Same (fz H2 cs) H3 → FoundAt o H3 v → Q v H3) : spSaid P w K mg base Cs kk [.ref fl] (fz H2 cs) Q E0 := by
  have no : NoC cs H2 := C.no
  have hfz : ∀ b o, H2 b = some o → fz H2 cs b = some o := fun b o e => by
    cases z : cs.lookup b with
    | some u => rw [no b u z] at e; cases e
    | none => rw [fz_ne z]; exact e
  refine ⟨fl, fun v' H3 => o = none ∧ Same (fz H2 cs) H3, fun a C' H3 => ∃ j, o = some j ∧ C' = Cs j ∧ Same (fz H2 cs) H3, rfl,
    ⟨fd, body, N, vs, cs, ?_, Z, fun b o e => fz_at e, C.cell, C.val, hN, fun A' outer' Q' E' hr' h1 h2 => ?_⟩, ?_, ?_⟩
  · obtain ⟨⟨o, e1, e2⟩, c, oc, vs, t, a1, a2, a3⟩ := L
    exact ⟨⟨o, hfz _ _ e1, e2⟩, c, oc, vs, t, a1, hfz _ _ a2, a3⟩
  · rw [er_fz no]
    refine run A' outer' _ _ hr' ⟨fun j hj a H' s' na no' => ?_, fun kn v' H' s' no' => ?_⟩
    · exact h2 a (Cs j) (fz H' cs) ⟨j, hj, rfl, s'.fz⟩
    · exact h1 v' (fz H' cs) ⟨kn, s'.fz⟩
  · rintro v' H3 ⟨kn, s3⟩ p hp
    refine q _ _ (s3.updR hp) ?_
    rw [kn]
    exact ⟨p, v', rfl, upd_same⟩
  · rintro a C' H3 ⟨j, hj, rfl, s3⟩
    refine ⟨j, rfl, kd j hj, fun fa H4 s4 => q _ _ (s3.trans s4) ?_⟩
    rw [hj]
    rfl
end
/-- whether what was found is not what is due -/
theorem cond_ok {K : PySem.W.Frag} {σ : L2.St} {H : Hp} {n d : PyData} {v : V} {Q : Bool → Hp → Prop} (h9 : σ[9]? = some (some (.str (dueS n d)))) (h11 : σ[11]? = some (some v)) (f : FoundAt (kindW n d) H v) (q : Q false H) :
    tOr (tAnd (tTest (tOp rNe (tVar 9) (tC (.str "")))) (tTest (tOp rNe (tVar 11) (tVar 9)))) (tAnd (tTest (tOp rEq (tVar 9) (tC (.str "")))) (tTest (tOp rNe (tOp (rIxT K) (tVar 11) (tC (.int 0))) (tC (.str "told"))))) σ H Q := by
  unfold dueS at h9
  rcases k_cases (n := n) (d := d) with k | k | k
  · rw [k] at f h9
    cases (show v = .str (words.getD 6 "") from f)
    refine ⟨_, h9, rfl, _, rfl, iteT ⟨_, h11, _, h9, rfl, _, rfl, ?_⟩⟩
    rw [decide_eq_true rfl]
    exact iteF ⟨_, h9, rfl, _, rfl, iteF q⟩
  · rw [k] at f h9
    cases (show v = .str (words.getD 4 "") from f)
    refine ⟨_, h9, rfl, _, rfl, iteT ⟨_, h11, _, h9, rfl, _, rfl, ?_⟩⟩
    rw [decide_eq_true rfl]
    exact iteF ⟨_, h9, rfl, _, rfl, iteF q⟩
  · rw [k] at f h9
    obtain ⟨p, x, rfl, ep⟩ := f
    refine ⟨_, h9, rfl, _, rfl, iteF (iteF ⟨_, h9, rfl, _, rfl, iteT ⟨_, h11, p, _, 0, .str "told", rfl, rfl, SqT.of ep, rfl, rfl, _, rfl, q⟩⟩)⟩
def qnT : Str := (PyProof.Rows.envOfC "law" (defScope (top 46)) 0 0 .none).qual ++ "<lambda>"
def spLaw (K : PySem.W.Frag) (T : Addr) : Sp := fun vs H Q _ => ∃ (a : Addr) (ns : List Int), vs = [.ref a] ∧ SqL K H a (ns.map V.int) ∧ ns.length ≤ 63 ∧ TabOk H T qnT ∧ ∀ H', Q (.bl true) H'
def S0 : Addr → Prop := fun a => a ≠ sysModules
theorem s0_no : ¬ S0 sysModules := fun h => h rfl
theorem th_s0 {st : Addr} {H : Hp} {v : V} {d : PyData} (t : IsTh (SS st) H v d) : IsTh S0 H v d := t.keep (fun _ _ e => e) (fun _ _ _ e => e) fun _ _ z _ => z.2
/-- a thing that lies nowhere -/
def Sc (u : V) : Prop := ∃ d, (∀ S H, IsTh S H u d) ∧ tame d = true ∧ sz d ≤ 1
theorem Sc.int {i : Int} (h : i.natAbs < 2 ^ 128) : Sc (.int i) := ⟨.int i, fun _ _ => .int i, decide_eq_true h, Nat.le_refl _⟩
theorem Sc.non : Sc .non := ⟨.none, fun _ _ => .non, rfl, Nat.le_refl _⟩
theorem Sc.bl (b : Bool) : Sc (.bl b) := ⟨.bool b, fun _ _ => .bl b, rfl, Nat.le_refl _⟩
theorem Sc.one : Sc (.str "1") := ⟨.str "1", fun _ _ => .str _, by decide +kernel, Nat.le_refl _⟩
theorem at_mem {xs : List V} {r : Int} (h0 : 0 ≤ r) (h1 : r < xs.length) : ∃ u, atI xs r = some u ∧ u ∈ xs := by
  have hr : r.toNat < xs.length := by omega
  have e : xs[r.toNat]? = some xs[r.toNat] := List.getElem?_eq_getElem hr
  have := atI_nat e
  rw [show ((r.toNat : Nat) : Int) = r by omega] at this
  exact ⟨_, this, List.getElem_mem hr⟩
theorem rep_ints (k : Int) : ∀ n, (List.replicate n [V.int k]).flatten = (List.replicate n k).map V.int
  | 0 => rfl
  | n + 1 => by
    rw [List.replicate_succ, List.replicate_succ, List.flatten_cons, rep_ints k n]
    rfl
theorem tames_ints {ns : List Int} (h : ∀ n ∈ ns, 0 ≤ n ∧ n ≤ 100) : tames (ns.map PyData.int) = true := by
  induction ns with
  | nil => rfl
  | cons n r ih =>
    have := h n (.head _)
    show (decide (n.natAbs < 2 ^ 128) && tames (r.map PyData.int)) = true
    rw [decide_eq_true (by omega), ih fun m hm => h m (.tail _ hm)]
    rfl
theorem bt_w {ns : List Int} (h : ∀ n ∈ ns, 0 ≤ n ∧ n ≤ 100) (hl : ns.length ≤ 81) : BT (wD ns) := ⟨tames_ints h, by rw [sz_w]; omega⟩
theorem th_w {S : Addr → Prop} {H : Hp} {p : Addr} {ns : List Int} (e : H p = some (.tup (ns.map V.int))) : IsTh S H (.ref p) (wD ns) := .tup e (IsThs.ints ns)
/-- the weights, the odd ones, as they stand -/
structure Wk (T st c lo : Addr) (qn : Str) (ws : List Int) (its : List V) (H0 H : Hp) : Prop where
  kp : ∀ b o, b ≠ T → b ≠ st → H0 b = some o → H b = some o
  sa : StAt H st
  tb : TabOk H T qn
  ec : H c = some (.tup (ws.map V.int))
  el : H lo = some (.lst its)
  nl : lo ≠ st
  it : ∀ u ∈ its, ∃ d, IsTh (SS st) H u d ∧ BT d
theorem tab_dr {T st : Addr} {q : Str} {H H' : Hp} (t : TabOk H T q) (sa : StAt H st) (g : Dr st H H') : TabOk H' T q := by
  obtain ⟨x, y, z, e, _⟩ := sa
  refine t.keep (fun ps e' => g.bt _ _ e' fun z => ?_) fun b o e' => g.bt _ _ e' fun z => ?_
  · rw [z, e] at e'
    cases e'
  · rw [z, e] at e'
    cases e'
section
variable {T st c lo : Addr} {qn : Str} {ws : List Int} {its : List V} {H0 H H' : Hp}
theorem Wk.dr (a : Wk T st c lo qn ws its H0 H) (g : Dr st H H') : Wk T st c lo qn ws its H0 H' :=
  ⟨fun b o n1 n2 e => g.bt _ _ (a.kp b o n1 n2 e) n2, g.sa, tab_dr a.tb a.sa g, g.tups a.sa _ _ a.ec, g.bt _ _ a.el a.nl, a.nl, fun u hu => (let ⟨d, t, b⟩ := a.it u hu; ⟨d, g.thS a.sa t, b⟩)⟩
theorem Wk.same (a : Wk T st c lo qn ws its H0 H) (s : Same H H') : Wk T st c lo qn ws its H0 H' := a.dr (Dr.same (Dr.refl a.sa) s)
theorem Wk.right (a : Wk T st c lo qn ws its H0 H) (k : ∀ b o, b ≠ T → H b = some o → H' b = some o) (t : TabOk H' T qn) : Wk T st c lo qn ws its H0 H' := by
  obtain ⟨ps, e', _⟩ := id a.tb
  refine ⟨fun b o n1 n2 e => k b o n1 (a.kp b o n1 n2 e), ?_, t, k _ _ (fun z => by have := a.ec; rw [z, e'] at this; cases this) a.ec, k _ _ (fun z => by have := a.el; rw [z, e'] at this; cases this) a.el, a.nl, fun u hu => (let ⟨d, th, b⟩ := a.it u hu; ⟨d, th.tbl a.tb k, b⟩)⟩
  obtain ⟨x, y, z, e, r⟩ := a.sa
  exact ⟨x, y, z, k _ _ (fun z => by rw [z, e'] at e; cases e) e, r⟩
end
section
variable {P : Program} {w : World} {K : PySem.W.Frag} {mg : Str → Option Value} {base : Heap}
theorem scL : FnScope ["_law_script", "_law_k", "_law_state_here", "_law_weights_here", "_law_odd", "_law_turn", "_law_one", "_law_sacks", "_law_kept", "_law_due_here", "_law_said_here", "_law_found"] ["_law_script"] (defScope (top 46)) := ⟨rfl, rfl, rfl, by decide +kernel, rfl, by decide +kernel, by decide +kernel⟩
theorem ok_law {f T0 cc : Addr} {Cs : Nat → Addr} {fd : FuncData} (F : Fun K "law" "law" (top 46) f fd) (hc : fd.code = .ref cc) (hC : PySem.W.CodeHd base cc T0) (hB : base.BuiltinsAt mg T0) (T : Mg mg) (Tr : mg "range" = none) (Tm : mg "max" = none) (Tn : mg "min" = none) (Ts : mg "sum" = none) (Tl : mg "list" = none) (Tp : mg "repr" = none) (kd : ∀ j, j = 6 ∨ j = 4 → Kind K Cs j)
    (c1 : Cal P w K mg base 2 "_law_state" ["_law_script", "_law_k"] (spState K)) (c2 : Cal P w K mg base 2 "_law_weights" ["_law_state_here"] spWeights) (c3 : Cal P w K mg base 1 "_law_choice" ["_law_state_here", "_law_many"] spChoice) (c4 : Cal P w K mg base 3 "_law_bent" ["_law_state_here", "_law_thing", "_law_deep"] spBent)
    (c5 : Cal P w K mg base 2 "_law_due" ["_law_sacks", "_law_weights_here"] spDue) (c6 : Cal P w K mg base 9 "_law_said" ["_law_call"] (spSaid P w K mg base Cs 7)) (c7 : CalX P w K mg base 6 "parted" ["sacks", "weights"] (spX2 Cs anyR)) (c8 : CalX P w K mg base 6 "is_fair" ["sacks", "weights", "thing"] (spFairX Cs)) :
    FnOk P w K mg base CX0 63 f fd ["_law_script"] (spLaw K T0) := by
  refine F.okC hc scL (fun vs H Q E h => ?_) (fun A outer s H vs Q E hr h => ?_)
  · obtain ⟨a, ns, rfl, _⟩ := h
    rfl
  · obtain ⟨a, ns, rfl, hS, hl, tab, q⟩ := h
    obtain ⟨f6, fd6, F6, m6, k6, b6⟩ := id c6
    have room9 : Room 9 (A.deeper (PyProof.Rows.envOfC "law" (defScope (top 46)) s.heap.objs.size f (.ref cc))) := hr.mono (by decide)
    refine ok_b (bss_cons ⟨ps_for PassesOwn.never rfl (pi_range1 rfl Tr (pa_c (pe_callB (call_max2 rfl) rfl Tm boot_max' (pa_c pe_int (pa_c (pe_callB (call_min2 rfl) rfl Tn boot_min' (pa_c (pe_callB call_len_seq rfl T.len PySem.boot_len (pa_c (pv 0) pa_nil)) (pa_c pe_int pa_nil))) pa_nil))) pa_nil)) (pg_name (i := 1) scL.nd rfl (Or.inl rfl))
        (pss_b (bss_cons (bs_set (i := 2) scL.nd rfl (Or.inl rfl) ⟨pe_cal c1 hr (by omega) rfl (pa_c (pv 0) (pa_c (pv 1) pa_nil))⟩)
        (bss_cons (bs_set (i := 3) scL.nd rfl (Or.inl rfl) ⟨pe_cal c2 hr (by omega) rfl (pa_c (pv 2) pa_nil)⟩)
        (bss_cons (bs_set (i := 4) scL.nd rfl (Or.inl rfl) (be_lst (ab_c ⟨pv 3⟩ (ab_c be_non (ab_c (be_tup aa_nil) (ab_c ⟨pe_callTy call_list_ofS rfl Tl boot_list (pa_c (pv 3) pa_nil)⟩ (ab_c (be_op op_catU ⟨pv 3⟩ (be_tup (ab_c be_int aa_nil))) (ab_c (be_op op_catU ⟨pv 3⟩ (be_tup (ab_c be_int aa_nil))) (ab_c (be_op op_catU (be_tup (ab_c be_bl aa_nil)) ⟨pv 3⟩) aa_nil)))))))))
        (bss_cons (bs_set (i := 4) scL.nd rfl (Or.inl rfl) (be_op op_cat ⟨pv 4⟩ (be_lst (ab_c (be_op op_repT (be_tup (ab_c be_int aa_nil)) be_int) (ab_c (be_op op_repT (be_tup (ab_c be_int aa_nil)) be_int) aa_nil)))))
        (bss_one ⟨ps_for PassesOwn.never rfl (pi_range1 rfl Tr (pa_c pe_int pa_nil)) (pg_name (i := 5) scL.nd rfl (Or.inl rfl))
            (pss_b (bss_cons (bs_set (i := 6) scL.nd rfl (Or.inr rfl) (be_ix ix_list ⟨pv 4⟩ ⟨pe_cal c3 hr (by omega) rfl (pa_c (pv 2) (pa_c pe_int pa_nil))⟩ (fun _ _ => rfl)))
            (bss_cons (bs_if ⟨pt_cmpR op_eq (pe_cal c3 hr (by omega) rfl (pa_c (pv 2) (pa_c pe_int pa_nil))) pe_int (nomark _)⟩ (bss_one (bs_set (i := 6) scL.nd rfl (Or.inr rfl) ⟨pe_cal c4 hr (by omega) rfl (pa_c (pv 2) (pa_c (pv 3) (pa_c pe_int pa_nil)))⟩)) bss_nil)
            (bss_cons (bs_set (i := 7) scL.nd rfl (Or.inr rfl) (be_ix ix_list (be_lst (ab_c be_int (ab_c be_int (ab_c ⟨pe_callB (call_sumL rfl) rfl Ts boot_sum (pa_c (pv 3) pa_nil)⟩ (ab_c ⟨pe_op op_add (pe_callB (call_sumL rfl) rfl Ts boot_sum (pa_c (pv 3) pa_nil)) pe_int⟩ (ab_c be_neg (ab_c be_non (ab_c be_bl (ab_c be_str (ab_c be_int (ab_c be_int aa_nil))))))))))) ⟨pe_cal c3 hr (by omega) rfl (pa_c (pv 2) (pa_c pe_int pa_nil))⟩ (fun _ _ => rfl)))
            (bss_cons ⟨ps_par (i := 8) (j := 9) rfl scL.nd rfl rfl (by decide) rfl rfl (pa_c (pe_callB (call_repr (S := S0) hr.gd s0_no) rfl Tp boot_repr' (pa_c (pe_tup (pa_c (pv 7) (pa_c (pv 6) pa_nil))) pa_nil)) (pa_c (pe_cal c5 hr (by omega) rfl (pa_c (pv 7) (pa_c (pv 6) pa_nil))) pa_nil)) rfl⟩
            (bss_cons (bs_set (i := 10) scL.nd rfl (Or.inl rfl) (be_lst (ab_c ⟨pe_saidD (N := ["_law_sacks", "_law_one"]) (ix := [7, 6]) (sc := defScope (top 46)) (NX := ["_law_script", "_law_k", "_law_state_here", "_law_weights_here", "_law_odd", "_law_turn", "_law_one", "_law_sacks", "_law_kept", "_law_due_here", "_law_said_here", "_law_found"]) F6 room9 rfl m6 k6 b6 rfl (fun _ => rfl) rfl hC hB rfl rfl rfl (fun _ _ _ _ _ => rfl) (by decide +kernel)⟩ aa_nil)))
            (bss_cons ⟨ps_expr (pe_bm PySem.F.plainAttrs_list PySem.F.slot_list_append PySem.F.type_list_append mt_append (pv 10) (pa_c (pe_saidD (N := ["_law_sacks", "_law_one"]) (ix := [7, 6]) (sc := defScope (top 46)) (NX := ["_law_script", "_law_k", "_law_state_here", "_law_weights_here", "_law_odd", "_law_turn", "_law_one", "_law_sacks", "_law_kept", "_law_due_here", "_law_said_here", "_law_found"]) F6 room9 rfl m6 k6 b6 rfl (fun _ => rfl) rfl hC hB rfl rfl rfl (fun _ _ _ _ _ => rfl) (by decide +kernel)) pa_nil))⟩
            (bss_cons ⟨ps_for PassesOwn.never rfl (pi_list (pv 10)) (pg_name (i := 11) scL.nd rfl (Or.inl rfl))
                (pss_b (bss_one (bs_if ⟨PW.pt (pw_or (PW.pt (pw_and (pt_cmpR op_ne (pv 9) pe_str (nomark _)) (pw_and1 (pt_cmpR op_ne (pv 11) (pv 9) (nomark _))))) (pw_or1 (PW.pt (pw_and (pt_cmpR op_eq (pv 9) pe_str (nomark _)) (pw_and1 (pt_cmpR op_ne (pe_ix ix_tup (pv 11) pe_int (fun _ _ => rfl)) pe_str (nomark _)))))))⟩ (bss_one (bs_ret be_bl)) bss_nil)))⟩
            (bss_one (bs_if ⟨pt_cmpR op_ne (pe_callB (call_repr (S := S0) hr.gd s0_no) rfl Tp boot_repr' (pa_c (pe_tup (pa_c (pv 7) (pa_c (pv 6) pa_nil))) pa_nil)) (pv 8) (nomark _)⟩ (bss_one (bs_ret be_bl)) bss_nil))))))))))⟩))))))⟩
      (bss_one (bs_ret be_bl))) ?_
    refine rd_seq ?_
    have hl' : (ns.map V.int).length ≤ 63 := by rw [List.length_map]; exact hl
    refine ⟨_, rfl, a, _, rfl, .inl hS, _, _, rfl, _, _, rfl, _, rfl, ?_, ?_, ?_⟩
    · split <;> split <;> omega
    · split <;> split <;> omega
    refine for_range (lo := 0) (fun i σ Hc => ∃ x1 x2 x3 x4 x5 x6 x7 x8 x9 x10 x11, σ = [some (.ref a), x1, x2, x3, x4, x5, x6, x7, x8, x9, x10, x11] ∧ (∀ b o, b ≠ T0 → H b = some o → Hc b = some o) ∧ TabOk Hc T0 qnT) ?_ ?_ ?_
    · exact ⟨none, none, none, none, none, none, none, none, none, none, none, rfl, fun _ _ _ e => e, tab⟩
    · rintro i σ H1 hi ⟨x1, x2, x3, x4, x5, x6, x7, x8, x9, x10, x11, rfl, k1, tab1⟩
      have hS1 : SqL K H1 a (ns.map V.int) := by
        obtain ⟨ps, eT, _⟩ := tab
        rcases hS with (h | ⟨o, h⟩) | h
        · exact .inl (.inl (k1 _ _ (fun z => by rw [z, eT] at h; cases h) h))
        · exact .inl (.inr ⟨o, k1 _ _ (fun z => by rw [z, eT] at h; cases h) h⟩)
        · exact .inr h
      refine rd_name ?_
      refine rd_seq ?_
      refine rd_asg ?_
      refine ⟨_, rfl, _, rfl, a, ns, _, rfl, hS1, by omega, fun st x y z hn hx0 hy0 hy1 => ?_⟩
      have nT : st ≠ T0 := fun z => by
        obtain ⟨ps, eT, _⟩ := tab1
        rw [z, eT] at hn
        cases hn
      have nst : H st = none := by
        cases e : H st with
        | none => rfl
        | some o =>
          rw [k1 st o nT e] at hn
          cases hn
      refine rd_name ?_
      dsimp only
      refine gen_ts (fun H2 => (∀ b o, b ≠ T0 → b ≠ st → H b = some o → H2 b = some o) ∧ StAt H2 st ∧ TabOk H2 T0 qnT) ⟨fun b o n1 n2 e => by rw [upd_ne n2]; exact k1 b o n1 e, ⟨x, y, z, upd_same, hx0, hy0, hy1⟩, TabOk.same tab1 (Same.upd hn)⟩ fun H2 ⟨kp2, sa2, tab2⟩ => ?_
      refine rd_seq ?_
      refine rd_asg ?_
      refine ⟨_, rfl, st, rfl, sa2, fun c ws H3 g3 ok ec => ?_⟩
      have hlw := ok.2.1
      have hlw1 := ok.1
      have wb : ∀ n ∈ ws, 0 ≤ n ∧ n ≤ 100 := fun n hn => (by have := ok.2.2 n hn; omega)
      have kp3 : ∀ b o, b ≠ T0 → b ≠ st → H b = some o → H3 b = some o := fun b o n1 n2 e => g3.bt _ _ (kp2 b o n1 n2 e) n2
      have tab3 := tab_dr tab2 sa2 g3
      refine rd_name ?_
      dsimp only
      refine rd_seq ?_
      refine rd_asg ?_
      refine rd_lst ?_
      refine ⟨_, rfl, (by show 0 ≤ sizeLine; decide), fun q1 hq1 => ?_⟩
      have s1 := Same.upd (o := .tup []) hq1
      refine ⟨_, rfl, c, ws.map V.int, rfl, SqT.of (s1 _ _ ec), fun q2 hq2 nq2 => ?_⟩
      have s2 := s1.updR (o := .lst (ws.map V.int)) hq2
      refine ⟨_, rfl, (by show 1 ≤ sizeLine; decide), fun q3 hq3 => ?_⟩
      have s3 := s2.updR (o := .tup [.int 0]) hq3
      refine ⟨c, q3, ws.map V.int, [.int 0], rfl, rfl, s3 _ _ ec, upd_same, (by rw [List.length_map, sizeLine_eq]; show ws.length + 1 ≤ _; omega), fun q4 H4 s4 e4 => ?_⟩
      have s34 := s3.trans s4
      refine ⟨_, rfl, (by show 1 ≤ sizeLine; decide), fun q5 hq5 => ?_⟩
      have s5 := s34.updR (o := .tup [.int 100]) hq5
      refine ⟨c, q5, ws.map V.int, [.int 100], rfl, rfl, s5 _ _ ec, upd_same, (by rw [List.length_map, sizeLine_eq]; show ws.length + 1 ≤ _; omega), fun q6 H6 s6 e6 => ?_⟩
      have s56 := s5.trans s6
      refine ⟨(by show 1 ≤ sizeLine; decide), fun q7 hq7 => ?_⟩
      have s7 := s56.updR (o := .tup [.bl true]) hq7
      refine ⟨_, rfl, q7, c, [.bl true], ws.map V.int, rfl, rfl, upd_same, s7 _ _ ec, (by rw [List.length_map, sizeLine_eq]; show 1 + ws.length ≤ _; omega), fun q8 H8 s8 e8 => ?_⟩
      have s78 := s7.trans s8
      have nq2s : q2 ≠ st := fun z => by
        obtain ⟨x', y', z', e', _⟩ := g3.sa
        have := s1 _ _ e'
        rw [z, this] at hq2
        cases hq2
      refine ⟨(by show 7 ≤ sizeLine; decide), fun L hL => ?_⟩
      have it8 : ∀ u ∈ [V.ref c, .non, .ref q1, .ref q2, .ref q4, .ref q6, .ref q8], ∃ d, IsTh (SS st) H8 u d ∧ BT d := by
        intro u hu
        simp only [List.mem_cons, List.not_mem_nil, or_false] at hu
        have s48 : Same H4 H8 := ((Same.upd (o := .tup [.int 100]) hq5).trans s6).trans ((Same.upd (o := .tup [.bl true]) hq7).trans s8)
        have s68 : Same H6 H8 := (Same.upd (o := .tup [.bl true]) hq7).trans s8
        rcases hu with rfl | rfl | rfl | rfl | rfl | rfl | rfl
        · exact ⟨_, th_w (s78 _ _ ec), bt_w wb (by omega)⟩
        · exact ⟨.none, .non, rfl, by decide⟩
        · refine ⟨.tuple [], .tup (xs := []) ?_ .nil, rfl, by decide⟩
          exact s48 _ _ (s4 _ _ ((Same.upd (o := .tup [.int 0]) hq3) _ _ ((Same.upd (o := .lst (ws.map V.int)) hq2) _ _ upd_same)))
        · refine ⟨.list (ws.map PyData.int), .lst ⟨nq2s, nq2⟩ (s48 _ _ (s4 _ _ ((Same.upd (o := .tup [.int 0]) hq3) _ _ upd_same))) (IsThs.ints ws), tames_ints wb, ?_⟩
          show 1 + szs (ws.map PyData.int) ≤ 300
          rw [szs_ints]
          omega
        · refine ⟨wD (ws ++ [0]), th_w (by rw [List.map_append]; exact s48 _ _ e4), bt_w (fun n hn => ?_) (by rw [List.length_append]; show ws.length + 1 ≤ 81; omega)⟩
          rcases List.mem_append.mp hn with z | z
          · exact wb n z
          · rw [List.mem_singleton.mp z]; omega
        · refine ⟨wD (ws ++ [100]), th_w (by rw [List.map_append]; exact s68 _ _ e6), bt_w (fun n hn => ?_) (by rw [List.length_append]; show ws.length + 1 ≤ 81; omega)⟩
          rcases List.mem_append.mp hn with z | z
          · exact wb n z
          · rw [List.mem_singleton.mp z]; omega
        · refine ⟨.tuple (.bool true :: ws.map PyData.int), .tup e8 (.cons (.bl true) (IsThs.ints ws)), tames_ints wb, ?_⟩
          show 1 + (1 + szs (ws.map PyData.int)) ≤ 300
          rw [szs_ints]
          omega
      refine rd_name ?_
      dsimp only
      have g8 : Dr st H3 H8 := Dr.same (Dr.refl g3.sa) s78
      have nLs : L ≠ st := g8.ne hL
      refine gen_ts (fun H9 => Wk T0 st c L qnT ws [V.ref c, .non, .ref q1, .ref q2, .ref q4, .ref q6, .ref q8] H H9) ⟨fun b o n1 n2 e => Same.upd hL _ _ (s78 _ _ (kp3 b o n1 n2 e)), (g8.same (Same.upd hL)).sa, TabOk.same (TabOk.same tab3 s78) (Same.upd hL), Same.upd hL _ _ (s78 _ _ ec), upd_same, nLs, fun u hu => ?_⟩ fun H9 wk9 => ?_
      · obtain ⟨d, t, b⟩ := it8 u hu
        exact ⟨d, t.same (Same.upd hL), b⟩
      clear it8
      refine rd_seq ?_
      refine rd_asg ?_
      refine ⟨_, rfl, ?_⟩
      refine rd_lst ?_
      refine ⟨(by show 1 ≤ sizeLine; decide), fun r1 hr1 => ⟨r1, 80, [.int 1], rfl, rfl, SqT.of upd_same, (by simp), (by show 1 ≤ 1000; decide), .inr ⟨.inr ⟨by decide, by decide⟩, fun r2 hr2 => ?_⟩⟩⟩
      have m2 := (Same.upd (o := .tup [.int 1]) hr1).updR (o := .tup (List.replicate (80 : Int).toNat [V.int 1]).flatten) hr2
      refine ⟨(by show 1 ≤ sizeLine; decide), fun r3 hr3 => ⟨r3, 81, [.int 1], rfl, rfl, SqT.of upd_same, (by simp), (by show 1 ≤ 1000; decide), .inr ⟨.inr ⟨by decide, by decide⟩, fun r4 hr4 => ?_⟩⟩⟩
      have m4 := (m2.updR (o := .tup [.int 1]) hr3).updR (o := .tup (List.replicate (81 : Int).toNat [V.int 1]).flatten) hr4
      refine ⟨(by show 2 ≤ sizeLine; decide), fun r5 hr5 => ⟨L, r5, _, [.ref r2, .ref r4], rfl, rfl, Same.upd hr5 _ _ (m4 _ _ wk9.el), upd_same, (by show 9 ≤ sizeLine; decide), fun lo hlo => ?_⟩⟩
      have m6 := (m4.updR (o := .lst [.ref r2, .ref r4]) hr5).updR (o := .lst [V.ref c, .non, .ref q1, .ref q2, .ref q4, .ref q6, .ref q8, .ref r2, .ref r4]) hlo
      have wk6 := wk9.same m6
      have nlo : lo ≠ st := by
        have : Dr st H9 (upd (upd (upd (upd (upd H9 r1 (.tup [.int 1])) r2 (.tup (List.replicate (80 : Int).toNat [V.int 1]).flatten)) r3 (.tup [.int 1])) r4 (.tup (List.replicate (81 : Int).toNat [V.int 1]).flatten)) r5 (.lst [.ref r2, .ref r4])) := Dr.same (Dr.refl wk9.sa) (m4.updR hr5)
        exact this.ne hlo
      refine rd_name ?_
      dsimp only
      refine gen_ts (fun Hx => Wk T0 st c lo qnT ws [V.ref c, .non, .ref q1, .ref q2, .ref q4, .ref q6, .ref q8, .ref r2, .ref r4] H Hx) ⟨wk6.kp, wk6.sa, wk6.tb, wk6.ec, upd_same, nlo, fun u hu => ?_⟩ fun Hx wk => ?_
      · have hu : u ∈ [V.ref c, .non, .ref q1, .ref q2, .ref q4, .ref q6, .ref q8] ++ [.ref r2, .ref r4] := hu
        rcases List.mem_append.mp hu with z | z
        · exact wk6.it u z
        · have n45 := (Same.upd (o := .lst [.ref r2, .ref r4]) hr5).updR (o := .lst [V.ref c, .non, .ref q1, .ref q2, .ref q4, .ref q6, .ref q8, .ref r2, .ref r4]) hlo
          simp only [List.mem_cons, List.not_mem_nil, or_false] at z
          rcases z with rfl | rfl
          · refine ⟨wD (List.replicate 80 1), th_w ?_, bt_w (fun n hn => by rw [List.eq_of_mem_replicate hn]; omega) (by rw [List.length_replicate]; omega)⟩
            rw [← rep_ints]
            exact n45 _ _ ((Same.upd hr4) _ _ ((Same.upd hr3) _ _ upd_same))
          · refine ⟨wD (List.replicate 81 1), th_w ?_, bt_w (fun n hn => by rw [List.eq_of_mem_replicate hn]; omega) (by rw [List.length_replicate]; omega)⟩
            rw [← rep_ints]
            exact n45 _ _ upd_same
      clear wk6 wk9
      refine ⟨10, rfl, by decide, by decide, ?_⟩
      refine for_range (lo := 0) (fun j σ Hc => ∃ x1 x5 x6 x7 x8 x9 x10 x11, σ = [some (.ref a), x1, some (.ref st), some (.ref c), some (.ref lo), x5, x6, x7, x8, x9, x10, x11] ∧ Wk T0 st c lo qnT ws [V.ref c, .non, .ref q1, .ref q2, .ref q4, .ref q6, .ref q8, .ref r2, .ref r4] H Hc) ?_ ?_ ?_
      · exact ⟨_, _, _, _, _, _, _, _, rfl, wk⟩
      · clear wk
        rintro j σ H1 hj ⟨x1, x5, x6, x7, x8, x9, x10, x11, rfl, wk⟩
        have hlen : [V.ref c, .non, .ref q1, .ref q2, .ref q4, .ref q6, .ref q8, .ref r2, .ref r4].length = 9 := rfl
        generalize [V.ref c, .non, .ref q1, .ref q2, .ref q4, .ref q6, .ref q8, .ref r2, .ref r4] = its at wk hlen ⊢
        refine rd_name ?_
        refine rd_seq ?_
        refine rd_asg ?_
        refine ⟨_, rfl, _, rfl, st, 9, rfl, wk.sa, by decide, by decide, fun r a1 b1 e1 r0 r1' h1 h2 h3 => ?_⟩
        have wk2 := wk.dr ((Dr.refl wk.sa).draw (c := e1) h1 h2 h3)
        obtain ⟨u, hu, mu⟩ := at_mem (xs := its) r0 (by rw [hlen]; exact r1')
        refine ⟨lo, its, r, u, rfl, rfl, SqL.of wk2.el, hu, ?_⟩
        refine rd_name ?_
        dsimp only
        refine gen_ts (fun H2 => Wk T0 st c lo qnT ws its H H2) wk2 fun H2 wk2 => ?_
        clear wk
        obtain ⟨d1, t1, bt1⟩ := wk2.it u mu
        refine rd_seqK fun cont hcont => ?_
        have rest : ∀ v d H3, Wk T0 st c lo qnT ws its H H3 → IsTh (SS st) H3 v d → BT d → cont [some (.ref a), x1, some (.ref st), some (.ref c), some (.ref lo), some (.int (0 + j)), some v, x7, x8, x9, x10, x11] H3 := by
          intro v d H3 wk3 t3 bt3
          obtain ⟨md, zd⟩ := bt3
          refine hcont _ _ ?_
          refine rd_seq ?_
          refine rd_asg ?_
          have htop := ok.top
          have hpos := ok.pos
          refine ⟨_, rfl, c, ws, rfl, .inr (SqT.of wk3.ec), _, rfl, c, ws, rfl, .inr (SqT.of wk3.ec), _, _, rfl, rfl, 1, rfl, (by show 10 ≤ sizeLine; decide), fun L hL => ?_⟩
          have sL := Same.upd (o := .lst [.int 0, .int 1, .int ws.sum, .int (ws.sum + 1), .int (-1), .non, .bl true, .str "1", .int 81, .int 80]) hL
          have wk4 := wk3.same sL
          have nL : L ≠ st := (Dr.refl wk3.sa).ne hL
          refine ⟨_, rfl, st, 10, rfl, wk4.sa, by decide, by decide, fun r5 a5 b5 e5 k0 k1' h4 h5 h6 => ?_⟩
          have g5 := (Dr.refl wk4.sa).draw (c := e5) h4 h5 h6
          have wk5 := wk4.dr g5
          have t5 := g5.thS wk4.sa (t3.same sL)
          obtain ⟨un, hun, mun⟩ := at_mem (xs := [V.int 0, .int 1, .int ws.sum, .int (ws.sum + 1), .int (-1), .non, .bl true, .str "1", .int 81, .int 80]) k0 k1'
          refine ⟨L, _, r5, un, rfl, rfl, SqL.of (by rw [upd_ne nL]; exact upd_same), hun, ?_⟩
          have sc : Sc un := by
            simp only [List.mem_cons, List.not_mem_nil, or_false] at mun
            rcases mun with rfl | rfl | rfl | rfl | rfl | rfl | rfl | rfl | rfl | rfl
            · exact Sc.int (by decide)
            · exact Sc.int (by decide)
            · exact Sc.int (by omega)
            · exact Sc.int (by omega)
            · exact Sc.int (by decide)
            · exact Sc.non
            · exact Sc.bl true
            · exact Sc.one
            · exact Sc.int (by decide)
            · exact Sc.int (by decide)
          obtain ⟨nd, tn, mn, zn⟩ := sc
          refine rd_name ?_
          dsimp only
          refine gen_ts (fun H5 => Wk T0 st c lo qnT ws its H H5 ∧ IsTh (SS st) H5 v d) ⟨wk5, t5⟩ fun H5 ⟨wk5, t5⟩ => ?_
          clear wk3 wk4 t3
          have tmT : tame (.tuple [nd, d]) = true := by
            show (tame nd && (tame d && true)) = true
            rw [mn, md]
            rfl
          have szT : sz (.tuple [nd, d]) ≤ 1000 := by
            show 1 + (sz nd + (sz d + 0)) ≤ 1000
            omega
          refine rd_seq ?_
          refine ⟨_, rfl, _, rfl, (by show 2 ≤ sizeLine; decide), fun p6 hp6 => ?_⟩
          have s6 := Same.upd (o := .tup [un, v]) hp6
          refine ⟨.ref p6, .tuple [nd, d], rfl, .tup upd_same (.cons (tn _ _) (.cons (th_s0 (t5.same s6)) .nil)), tmT, by omega, room_sz hr (by decide) szT, _, rfl, _, rfl, SS st, un, nd, v, d, rfl, tn _ _, by omega, t5.same s6, by omega, fun H7 s7 => ⟨_, _, rfl, ?_⟩⟩
          dsimp only
          have s67 := s6.trans s7
          refine gen_ts (fun H7 => Wk T0 st c lo qnT ws its H H7 ∧ IsTh (SS st) H7 v d) ⟨wk5.same s67, t5.same s67⟩ fun H7 ⟨wk7, t7⟩ => ?_
          clear wk5 t5 s6 s7 s67
          have kdx : ∀ j, kindW nd d = some j → Kind K Cs j := fun j hj => kd j (by
            rcases k_cases (n := nd) (d := d) with k | k | k
            · rw [k] at hj; cases hj; omega
            · rw [k] at hj; cases hj; omega
            · rw [k] at hj; cases hj)
          have vals : ∀ (j' i' : Nat) (z : V), ([7, 6] : List Nat)[j']? = some i' → ([un, v] : List V)[j']? = some z → ∀ x10' x11', ([some (.ref a), x1, some (.ref st), some (.ref c), some (.ref lo), some (.int (0 + j)), some v, some un, some (.str (PyData.tuple [nd, d]).shown), some (.str (dueS nd d)), x10', x11'] : L2.St)[i']? = some (some z) := by
            intro j' i' z e1 e2 x10' x11'
            rcases j' with _ | _ | j'
            · cases e1
              cases e2
              rfl
            · cases e1
              cases e2
              rfl
            · simp at e1
          -- the first
          refine rd_seq ?_
          refine rd_asg ?_
          refine rd_lst ?_
          refine ⟨wk7.tb, fun fl pm cv ct H8 kp8 tab8 nf L Z => ⟨[un, v], rfl, fun j' i' z e1 e2 => vals j' i' z e1 e2 _ _, fun cs C => ?_⟩⟩
          have wk8 := wk7.right kp8 tab8
          have t8 := t7.tbl wk7.tb kp8
          refine said_gen (o := kindW nd d) kdx L Z C rfl (fun A' outer' E' Q' hr' out => ⟨_, fun s' => pe_calX c7 (hr'.deeper _) (by decide) rfl wish_lam rfl (pa_c (pv 0) (pa_c (pv 1) pa_nil)), ⟨un, rfl, v, rfl, SS st, un, nd, v, d, rfl, tn _ _, by omega, t8, by omega, out⟩⟩) fun v1 H9 s9 f9 => ?_
          have no : NoC cs H8 := C.no
          have s10 := s9.er no
          have wkB := wk8.same s10
          have tB' := t8.same s10
          have fB := f9.keep fun b xs e => er_held s9 (fun _ _ z => by cases z) e
          refine ⟨(by show 1 ≤ sizeLine; decide), fun pS hpS => ?_⟩
          refine rd_name ?_
          dsimp only
          generalize er H9 cs = HB at wkB tB' fB hpS ⊢
          refine gen_ts (fun Hc => (∀ b o, b ≠ T0 → HB b = some o → Hc b = some o) ∧ TabOk Hc T0 qnT ∧ Hc pS = some (.lst [v1])) ⟨fun b o _ e => Same.upd hpS _ _ e, TabOk.same wkB.tb (Same.upd hpS), upd_same⟩ fun Hc ⟨kB, tabc, eS⟩ => ?_
          clear wk7 t7 wk8 t8 s9 s10 f9 C L Z kp8 tab8 no
          -- the second
          refine rd_seq ?_
          refine ⟨_, rfl, .inl ⟨rfl, _, SqL.of eS⟩, ?_⟩
          refine ⟨tabc, fun fl pm cv ct H8 kp8 tab8 nf L Z => ⟨[un, v], rfl, fun j' i' z e1 e2 => vals j' i' z e1 e2 _ _, fun cs C => ?_⟩⟩
          have t8 := (tB'.tbl wkB.tb kB).tbl tabc kp8
          refine said_gen (o := kindW nd d) kdx L Z C rfl (fun A' outer' E' Q' hr' out => ⟨_, fun s' => pe_calX c8 (hr'.deeper _) (by decide) rfl wish_lam rfl (pa_c (pv 0) (pa_c (pv 1) (pa_c pe_non pa_nil))), ⟨un, rfl, v, rfl, SS st, un, nd, v, d, rfl, tn _ _, by omega, t8, by omega, out⟩⟩) fun v2 H9 s9 f9 => ?_
          have no : NoC cs H8 := C.no
          have s10 := s9.er no
          have f2 := f9.keep fun b xs e => er_held s9 (fun _ _ z => by cases z) e
          have nST : pS ≠ T0 := fun z => by
            obtain ⟨ps, e', _⟩ := tabc
            rw [z, e'] at eS
            cases eS
          have eS2 : er H9 cs pS = some (.lst [v1]) := s10 _ _ (kp8 _ _ nST eS)
          have tab10 : TabOk (er H9 cs) T0 qnT := TabOk.same tab8 s10
          have kB2 : ∀ b o, b ≠ T0 → HB b = some o → er H9 cs b = some o := fun b o n e => s10 _ _ (kp8 _ _ n (kB b o n e))
          refine ⟨pS, [v1], v2, rfl, rfl, eS2, (by show 1 < sizeLine; decide), ?_⟩
          generalize er H9 cs = HE at f2 eS2 tab10 kB2 ⊢
          have nps : ∀ b o, HB b = some o → b ≠ pS := fun b o e => ne_of_none e hpS
          have ntup : ∀ b xs, HE b = some (.tup xs) → upd HE pS (.lst ([v1] ++ [v2])) b = some (.tup xs) := fun b xs e => by
            rw [upd_ne fun z => by rw [z, eS2] at e; cases e]
            exact e
          have tab11 : TabOk (upd HE pS (.lst ([v1] ++ [v2]))) T0 qnT := tab10.keep (fun ps e => by rw [upd_ne (Ne.symm nST)]; exact e) fun b o e => by
            rw [upd_ne fun z => by rw [z, eS2] at e; cases e]
            exact e
          have kB3 : ∀ b o, b ≠ T0 → HB b = some o → upd HE pS (.lst ([v1] ++ [v2])) b = some o := fun b o n e => by
            rw [upd_ne (nps b o e)]
            exact kB2 b o n e
          have f1' : FoundAt (kindW nd d) (upd HE pS (.lst ([v1] ++ [v2]))) v1 := fB.keep fun b xs e => kB3 b _ (fun z => by
            obtain ⟨ps, e', _⟩ := wkB.tb
            rw [z, e'] at e
            cases e) e
          have f2' := f2.keep ntup
          dsimp only
          refine gen_ts (fun HF => (∀ b o, b ≠ T0 → HB b = some o → HF b = some o) ∧ TabOk HF T0 qnT ∧ HF pS = some (.lst [v1, v2]) ∧ FoundAt (kindW nd d) HF v1 ∧ FoundAt (kindW nd d) HF v2) ⟨kB3, tab11, upd_same, f1', f2'⟩ fun HF ⟨kF, tabF, eF, g1, g2⟩ => ?_
          clear f2 eS2 tab10 kB2 ntup tab11 kB3 f1' f2' s9 s10 f9 C L Z kp8 tab8 no t8
          have wkF := wkB.right kF tabF
          have tF := tB'.tbl wkB.tb kF
          refine rd_seq ?_
          refine ⟨_, rfl, pS, rfl, ⟨_, SqL.of eF⟩, ?_⟩
          refine for_list (xs := [v1, v2]) (fun k σ Hc => ∃ x11, σ = [some (.ref a), x1, some (.ref st), some (.ref c), some (.ref lo), some (.int (0 + j)), some v, some un, some (.str (PyData.tuple [nd, d]).shown), some (.str (dueS nd d)), some (.ref pS), x11] ∧ Hc = HF) ?_ ?_ ?_ ?_
          · exact ⟨_, rfl, rfl⟩
          · rintro k σ Hc hk ⟨x11, rfl, rfl⟩
            exact SqL.of eF
          · rintro k vf σ Hc hvf ⟨x11, rfl, rfl⟩
            have ff : FoundAt (kindW nd d) Hc vf := by
              have := List.mem_of_getElem? hvf
              simp only [List.mem_cons, List.not_mem_nil, or_false] at this
              rcases this with rfl | rfl
              · exact g1
              · exact g2
            refine rd_name ?_
            refine cond_ok (K := K) (n := nd) (d := d) rfl rfl ff ?_
            refine iteF ?_
            exact ⟨_, rfl, rfl⟩
          · rintro σ Hc ⟨x11, rfl, rfl⟩
            dsimp only
            refine ⟨_, rfl, _, rfl, (by show 2 ≤ sizeLine; decide), fun p9 hp9 => ?_⟩
            have s9 := Same.upd (o := .tup [un, v]) hp9
            refine ⟨.ref p9, .tuple [nd, d], rfl, .tup upd_same (.cons (tn _ _) (.cons (th_s0 (tF.same s9)) .nil)), tmT, by omega, room_sz hr (by decide) szT, _, rfl, rfl, _, rfl, ?_⟩
            rw [decide_eq_true rfl]
            refine iteF ?_
            exact ⟨_, _, _, _, _, _, _, _, rfl, wkF.same s9⟩
        refine ⟨_, rfl, st, 3, rfl, wk2.sa, by decide, by decide, fun r3 a3 b3 e3 k0 k1' h4 h5 h6 => ⟨rfl, _, rfl, ?_⟩⟩
        have g3 := (Dr.refl wk2.sa).draw (c := e3) h4 h5 h6
        have wk3 := wk2.dr g3
        have t3 := g3.thS wk2.sa t1
        refine ite2 (fun _ => ?_) (fun _ => rd_next (rest u d1 _ wk3 t3 bt1))
        refine ⟨_, rfl, _, rfl, st, c, ws, rfl, wk3.sa, wk3.ec, hlw1, hlw, fun n hn => (by have := ok.2.2 n hn; omega), fun v d H4 g4 b4 t4 => ?_⟩
        exact rd_name (rest v d H4 (wk3.dr g4) t4 b4)
      · rintro σ Hc ⟨x1, x5, x6, x7, x8, x9, x10, x11, rfl, wk⟩
        exact ⟨_, _, _, _, _, _, _, _, _, _, _, rfl, fun b o n e => wk.kp b o n (ne_of_none e nst) e, wk.tb⟩
    · rintro σ Hc ⟨x1, x2, x3, x4, x5, x6, x7, x8, x9, x10, x11, rfl, k1, tab1⟩
      exact q _
end
end K12

set_option Elab.async false
set_option linter.all false
theorem PySem.W.Fast.tw6920737137653020768 : True := trivial
theorem PySem.W.Fast.tw11620430054137231552 : True := trivial
theorem PySem.W.Fast.tw668476084915388704 : True := trivial
theorem PySem.W.Fast.tw12604077048679272032 : True := trivial
theorem PySem.W.Fast.tw12645654852320445056 : True := trivial
theorem PySem.W.Fast.tw17482054369069817696 : True := trivial
theorem PySem.W.Fast.tw17017562874318627776 : True := trivial
theorem PySem.W.Fast.tw2566870872921016256 : True := trivial
theorem PySem.W.Fast.tw6467342820442293216 : True := trivial
theorem PySem.W.Fast.tw1617501068067073 : True := trivial
theorem PySem.W.Fast.tw6617818136739479009 : True := trivial
theorem PySem.W.Fast.tw9485928478037950081 : True := trivial
theorem PySem.W.Fast.tw6055263497877637761 : True := trivial
theorem PySem.W.Fast.tw5033475115381848737 : True := trivial
theorem PySem.W.Fast.tw16616235293076190881 : True := trivial
theorem PySem.W.Fast.tw602486259547451073 : True := trivial
theorem PySem.W.Fast.tw16539462396071155489 : True := trivial
theorem PySem.W.Fast.tw16631770741077169346 : True := trivial
theorem PySem.W.Fast.tw9382346623044008130 : True := trivial
theorem PySem.W.Fast.tw4221335607595544866 : True := trivial
theorem PySem.W.Fast.tw13697251776104709506 : True := trivial
theorem PySem.W.Fast.tw8664937347983801762 : True := trivial
theorem PySem.W.Fast.tw10695698730126558754 : True := trivial
theorem PySem.W.Fast.tw6242800093630359106 : True := trivial
theorem PySem.W.Fast.tw10380154673266951842 : True := trivial
theorem PySem.W.Fast.tw8749086625720328962 : True := trivial
theorem PySem.W.Fast.tw10673708874405011330 : True := trivial
theorem PySem.W.Fast.tw1699236112265207714 : True := trivial
theorem PySem.W.Fast.tw18136371261742813122 : True := trivial
theorem PySem.W.Fast.tw16213056743015959522 : True := trivial
theorem PySem.W.Fast.tw3688616503104221187 : True := trivial
theorem PySem.W.Fast.tw4032064322716021763 : True := trivial
theorem PySem.W.Fast.tw18359383645085268995 : True := trivial
theorem PySem.W.Fast.tw3598801697215023171 : True := trivial
theorem PySem.W.Fast.tw10740627330599168099 : True := trivial
theorem PySem.W.Fast.tw17891119540903485571 : True := trivial
theorem PySem.W.Fast.tw5399167695962256515 : True := trivial
theorem PySem.W.Fast.tw4712187854920397955 : True := trivial
theorem PySem.W.Fast.tw12883719136927980707 : True := trivial
theorem PySem.W.Fast.tw13384001132540922051 : True := trivial
theorem PySem.W.Fast.tw4860319331325418691 : True := trivial
theorem PySem.W.Fast.tw5820674428377283779 : True := trivial
theorem PySem.W.Fast.tw10675531052262279427 : True := trivial
theorem PySem.W.Fast.tw14104670775719215363 : True := trivial
theorem PySem.W.Fast.tw3888299491158452867 : True := trivial
theorem PySem.W.Fast.tw4839189333272601251 : True := trivial
theorem PySem.W.Fast.tw8282577372927746851 : True := trivial
theorem PySem.W.Fast.tw17269606941874545635 : True := trivial
theorem PySem.W.Fast.tw4073545543921500131 : True := trivial
theorem PySem.W.Fast.tw6705647038631698468 : True := trivial
theorem PySem.W.Fast.tw4198169871245972612 : True := trivial
theorem PySem.W.Fast.tw9356821203019021700 : True := trivial
theorem PySem.W.Fast.tw17856598142922190885 : True := trivial
theorem PySem.W.Fast.tw7134094678697759877 : True := trivial
theorem PySem.W.Fast.tw12560706000555764933 : True := trivial
theorem PySem.W.Fast.tw6367486658491592101 : True := trivial
theorem PySem.W.Fast.tw16279829851519197765 : True := trivial
theorem PySem.W.Fast.tw5486809857207917285 : True := trivial
theorem PySem.W.Fast.tw8104458738967477989 : True := trivial
theorem PySem.W.Fast.tw15621723489690106757 : True := trivial
theorem PySem.W.Fast.tw1034174526518368326 : True := trivial
theorem PySem.W.Fast.tw17996216407314045062 : True := trivial
theorem PySem.W.Fast.tw17777342255803597126 : True := trivial
theorem PySem.W.Fast.tw9343150357401075046 : True := trivial
theorem PySem.W.Fast.tw4128141872411371910 : True := trivial
theorem PySem.W.Fast.tw16613676671168280998 : True := trivial
theorem PySem.W.Fast.tw8747180003497136742 : True := trivial
theorem PySem.W.Fast.tw9529904381815178886 : True := trivial
theorem PySem.W.Fast.tw10989294278884212390 : True := trivial
theorem PySem.W.Fast.tw7182977732460758694 : True := trivial
theorem PySem.W.Fast.tw18340574464628119430 : True := trivial
theorem PySem.W.Fast.tw12329603321651502471 : True := trivial
theorem PySem.W.Fast.tw11350538727101743591 : True := trivial
theorem PySem.W.Fast.tw13306820224037794503 : True := trivial
theorem PySem.W.Fast.tw8381870180702200583 : True := trivial
theorem PySem.W.Fast.tw3437410954250679047 : True := trivial
theorem PySem.W.Fast.tw15263496832645424999 : True := trivial
theorem PySem.W.Fast.tw12886509750014470119 : True := trivial
theorem PySem.W.Fast.tw6023549362073349224 : True := trivial
theorem PySem.W.Fast.tw15180896256982702216 : True := trivial
theorem PySem.W.Fast.tw4828975123534070056 : True := trivial
theorem PySem.W.Fast.tw3280581752467651944 : True := trivial
theorem PySem.W.Fast.tw9066070373467330984 : True := trivial
theorem PySem.W.Fast.tw8105093054308645352 : True := trivial
theorem PySem.W.Fast.tw8010504126201428552 : True := trivial
theorem PySem.W.Fast.tw14745884072236712616 : True := trivial
theorem PySem.W.Fast.tw13208473281166999496 : True := trivial
theorem PySem.W.Fast.tw11186544854752519241 : True := trivial
theorem PySem.W.Fast.tw16790661148794216681 : True := trivial
theorem PySem.W.Fast.tw4737994547402138985 : True := trivial
theorem PySem.W.Fast.tw4248144084884385353 : True := trivial
theorem PySem.W.Fast.tw18017832248223926953 : True := trivial
theorem PySem.W.Fast.tw8758836986791846825 : True := trivial
theorem PySem.W.Fast.tw1951313344802467785 : True := trivial
theorem PySem.W.Fast.tw3110986291419307082 : True := trivial
theorem PySem.W.Fast.tw7475347600370204778 : True := trivial
theorem PySem.W.Fast.tw17747314381036302474 : True := trivial
theorem PySem.W.Fast.tw5895128490455948554 : True := trivial
theorem PySem.W.Fast.tw6280403993262692682 : True := trivial
theorem PySem.W.Fast.tw4665922304203171146 : True := trivial
theorem PySem.W.Fast.tw1332591650307122634 : True := trivial
theorem PySem.W.Fast.tw12632725106234532362 : True := trivial
theorem PySem.W.Fast.tw11976370441328252586 : True := trivial
theorem PySem.W.Fast.tw17087493186365572810 : True := trivial
theorem PySem.W.Fast.tw13497710905175098346 : True := trivial
theorem PySem.W.Fast.tw18808830669585386 : True := trivial
theorem PySem.W.Fast.tw16585916890971115531 : True := trivial
theorem PySem.W.Fast.tw6361492544193061931 : True := trivial
theorem PySem.W.Fast.tw572795129781301323 : True := trivial
theorem PySem.W.Fast.tw6660702454779804875 : True := trivial
theorem PySem.W.Fast.tw2538214560057744619 : True := trivial
theorem PySem.W.Fast.tw5531313490105758123 : True := trivial
theorem PySem.W.Fast.tw11636586847119784395 : True := trivial
theorem PySem.W.Fast.tw207937537556673259 : True := trivial
theorem PySem.W.Fast.tw17865385615067589387 : True := trivial
theorem PySem.W.Fast.tw17777524961976742763 : True := trivial
theorem PySem.W.Fast.tw15347347277843331084 : True := trivial
theorem PySem.W.Fast.tw12587339657098311820 : True := trivial
theorem PySem.W.Fast.tw8250317569924920460 : True := trivial
theorem PySem.W.Fast.tw9684057022075968812 : True := trivial
theorem PySem.W.Fast.tw350899838969141772 : True := trivial
theorem PySem.W.Fast.tw2927138528143809068 : True := trivial
theorem PySem.W.Fast.tw841062097568820780 : True := trivial
theorem PySem.W.Fast.tw15360825953831749260 : True := trivial
theorem PySem.W.Fast.tw16521271664187304844 : True := trivial
theorem PySem.W.Fast.tw5656564089039056780 : True := trivial
theorem PySem.W.Fast.tw1852995406129376204 : True := trivial
theorem PySem.W.Fast.tw4593701934228933741 : True := trivial
theorem PySem.W.Fast.tw6773024112442588653 : True := trivial
theorem PySem.W.Fast.tw14178538374870478349 : True := trivial
theorem PySem.W.Fast.tw12010018676219516621 : True := trivial
theorem PySem.W.Fast.tw4513488201988733709 : True := trivial
theorem PySem.W.Fast.tw11137413368399319853 : True := trivial
theorem PySem.W.Fast.tw16625203690081665869 : True := trivial
theorem PySem.W.Fast.tw11218103095119948653 : True := trivial
theorem PySem.W.Fast.tw1605775273740318766 : True := trivial
theorem PySem.W.Fast.tw18012503327325882478 : True := trivial
theorem PySem.W.Fast.tw12383698588797327598 : True := trivial
theorem PySem.W.Fast.tw15918890244828641774 : True := trivial
theorem PySem.W.Fast.tw16980396257608077934 : True := trivial
theorem PySem.W.Fast.tw6307411541662569102 : True := trivial
theorem PySem.W.Fast.tw4712896624740013742 : True := trivial
theorem PySem.W.Fast.tw3800897323439636174 : True := trivial
theorem PySem.W.Fast.tw4363042682377912046 : True := trivial
theorem PySem.W.Fast.tw875218836589008654 : True := trivial
theorem PySem.W.Fast.tw14136215535391826702 : True := trivial
theorem PySem.W.Fast.tw16952798174230836142 : True := trivial
theorem PySem.W.Fast.tw8830632503063065550 : True := trivial
theorem PySem.W.Fast.tw13658949954228888558 : True := trivial
theorem PySem.W.Fast.tw4757169444146948111 : True := trivial
theorem PySem.W.Fast.tw9628918285681200239 : True := trivial
theorem PySem.W.Fast.tw12823361063116361839 : True := trivial
theorem PySem.W.Fast.tw15736163237600328815 : True := trivial
theorem PySem.W.Fast.tw572658508057481455 : True := trivial
theorem PySem.W.Fast.tw747344565488428495 : True := trivial
theorem PySem.W.Fast.tw14553637713200860655 : True := trivial
theorem PySem.W.Fast.tw2982831210429209071 : True := trivial
theorem PySem.W.Fast.tw2095982704747473423 : True := trivial
theorem PySem.W.Fast.tw15445993170566143503 : True := trivial
theorem PySem.W.Fast.tw12296538375568865871 : True := trivial
theorem PySem.W.Fast.tw6852725747531678383 : True := trivial
theorem PySem.W.Fast.tw18374272006782311119 : True := trivial
theorem PySem.W.Fast.tw7916905178253388751 : True := trivial
theorem PySem.W.Fast.tw6511088508777425903 : True := trivial
theorem PySem.W.Fast.tw4357026181443161071 : True := trivial
theorem PySem.W.Fast.tw5261833162344855568 : True := trivial
theorem PySem.W.Fast.tw14573889067129749520 : True := trivial
theorem PySem.W.Fast.tw15616783280175814704 : True := trivial
theorem PySem.W.Fast.tw5258808155737586800 : True := trivial
theorem PySem.W.Fast.tw8736330139596896368 : True := trivial
theorem PySem.W.Fast.tw17342803595144255664 : True := trivial
theorem PySem.W.Fast.tw5002875436828266672 : True := trivial
theorem PySem.W.Fast.tw6141842937170603248 : True := trivial
theorem PySem.W.Fast.tw12429778096898764048 : True := trivial
theorem PySem.W.Fast.tw18390672280862469456 : True := trivial
theorem PySem.W.Fast.tw3647567194925010288 : True := trivial
theorem PySem.W.Fast.tw10247312648890536400 : True := trivial
theorem PySem.W.Fast.tw7969486634319108656 : True := trivial
theorem PySem.W.Fast.tw74610365535239824 : True := trivial
theorem PySem.W.Fast.tw2214229925690342128 : True := trivial
theorem PySem.W.Fast.tw6492297743364652816 : True := trivial
theorem PySem.W.Fast.tw11258568911545697072 : True := trivial
theorem PySem.W.Fast.tw13957889285924734033 : True := trivial
theorem PySem.W.Fast.tw753185140016262289 : True := trivial
theorem PySem.W.Fast.tw16304312037432042705 : True := trivial
theorem PySem.W.Fast.tw6305748877929010545 : True := trivial
theorem PySem.W.Fast.tw14014466704170802673 : True := trivial
theorem PySem.W.Fast.tw9610966250828671505 : True := trivial
theorem PySem.W.Fast.tw2938567348048821777 : True := trivial
theorem PySem.W.Fast.tw29368438474352209 : True := trivial
theorem PySem.W.Fast.tw7662377420584129105 : True := trivial
theorem PySem.W.Fast.tw10207983160906993265 : True := trivial
theorem PySem.W.Fast.tw6839000658867871345 : True := trivial
theorem PySem.W.Fast.tw1114690924642993041 : True := trivial
theorem PySem.W.Fast.tw3094519073298329650 : True := trivial
theorem PySem.W.Fast.tw3514329389475954898 : True := trivial
theorem PySem.W.Fast.tw9501190925967896914 : True := trivial
theorem PySem.W.Fast.tw2531239201977569746 : True := trivial
theorem PySem.W.Fast.tw636822552899625458 : True := trivial
theorem PySem.W.Fast.tw14713356062443844178 : True := trivial
theorem PySem.W.Fast.tw10623758472749411058 : True := trivial
theorem PySem.W.Fast.tw13929497904123900754 : True := trivial
theorem PySem.W.Fast.tw10624559174740556626 : True := trivial
theorem PySem.W.Fast.tw14646988189777496946 : True := trivial
theorem PySem.W.Fast.tw1970579370639149970 : True := trivial
theorem PySem.W.Fast.tw7384426877375100850 : True := trivial
theorem PySem.W.Fast.tw6797624917461095346 : True := trivial
theorem PySem.W.Fast.tw9421939194942558162 : True := trivial
theorem PySem.W.Fast.tw1050060134273048595 : True := trivial
theorem PySem.W.Fast.tw12736448758114930707 : True := trivial
theorem PySem.W.Fast.tw2444783623475119219 : True := trivial
theorem PySem.W.Fast.tw8916151049760011379 : True := trivial
theorem PySem.W.Fast.tw17629065094041642195 : True := trivial
theorem PySem.W.Fast.tw16234972530715677971 : True := trivial
theorem PySem.W.Fast.tw2922787865232615795 : True := trivial
theorem PySem.W.Fast.tw14329425432935216563 : True := trivial
theorem PySem.W.Fast.tw12557412405697711731 : True := trivial
theorem PySem.W.Fast.tw16921809557017477939 : True := trivial
theorem PySem.W.Fast.tw7562170109355137907 : True := trivial
theorem PySem.W.Fast.tw8939915159979179124 : True := trivial
theorem PySem.W.Fast.tw2772260538007363796 : True := trivial
theorem PySem.W.Fast.tw13425768268012875988 : True := trivial
theorem PySem.W.Fast.tw15787494332743594260 : True := trivial
theorem PySem.W.Fast.tw10322359126166467956 : True := trivial
theorem PySem.W.Fast.tw11129650229823815092 : True := trivial
theorem PySem.W.Fast.tw10954977692123144660 : True := trivial
theorem PySem.W.Fast.tw9746992777354374644 : True := trivial
theorem PySem.W.Fast.tw5061214205805862900 : True := trivial
theorem PySem.W.Fast.tw9904058490704392245 : True := trivial
theorem PySem.W.Fast.tw18361455470474244341 : True := trivial
theorem PySem.W.Fast.tw12298575678522844501 : True := trivial
theorem PySem.W.Fast.tw1973346440173225397 : True := trivial
theorem PySem.W.Fast.tw7444026379609322037 : True := trivial
theorem PySem.W.Fast.tw4335853756345712181 : True := trivial
theorem PySem.W.Fast.tw17731253114776673013 : True := trivial
theorem PySem.W.Fast.tw10006414810072239925 : True := trivial
theorem PySem.W.Fast.tw8845084069879376693 : True := trivial
theorem PySem.W.Fast.tw4607773377958813621 : True := trivial
theorem PySem.W.Fast.tw9544667209596763125 : True := trivial
theorem PySem.W.Fast.tw4393401271080757366 : True := trivial
theorem PySem.W.Fast.tw16875048999597426806 : True := trivial
theorem PySem.W.Fast.tw9518744495665816886 : True := trivial
theorem PySem.W.Fast.tw17549167986224213334 : True := trivial
theorem PySem.W.Fast.tw7832949853295813110 : True := trivial
theorem PySem.W.Fast.tw14322544946069870102 : True := trivial
theorem PySem.W.Fast.tw12203760589272700534 : True := trivial
theorem PySem.W.Fast.tw4357403097467222742 : True := trivial
theorem PySem.W.Fast.tw9715177964788670198 : True := trivial
theorem PySem.W.Fast.tw16203586582380415830 : True := trivial
theorem PySem.W.Fast.tw12345702854284786646 : True := trivial
theorem PySem.W.Fast.tw18199717940670128183 : True := trivial
theorem PySem.W.Fast.tw1884827458339475799 : True := trivial
theorem PySem.W.Fast.tw101775510172684823 : True := trivial
theorem PySem.W.Fast.tw3611145772873038391 : True := trivial
theorem PySem.W.Fast.tw15262379527275331223 : True := trivial
theorem PySem.W.Fast.tw5963542726995712855 : True := trivial
theorem PySem.W.Fast.tw1843124378896680951 : True := trivial
theorem PySem.W.Fast.tw12085254948167309400 : True := trivial
theorem PySem.W.Fast.tw8561334047592341656 : True := trivial
theorem PySem.W.Fast.tw8829833323884916216 : True := trivial
theorem PySem.W.Fast.tw8581387696073910808 : True := trivial
theorem PySem.W.Fast.tw6794435816778185368 : True := trivial
theorem PySem.W.Fast.tw16066297727257741016 : True := trivial
theorem PySem.W.Fast.tw13791525633028434872 : True := trivial
theorem PySem.W.Fast.tw1353690490147492824 : True := trivial
theorem PySem.W.Fast.tw6037465004146595865 : True := trivial
theorem PySem.W.Fast.tw10123166008099359833 : True := trivial
theorem PySem.W.Fast.tw4649736799197921401 : True := trivial
theorem PySem.W.Fast.tw11895404892377193593 : True := trivial
theorem PySem.W.Fast.tw1865676680732875929 : True := trivial
theorem PySem.W.Fast.tw6445829937339586265 : True := trivial
theorem PySem.W.Fast.tw9486616088791034809 : True := trivial
theorem PySem.W.Fast.tw7064179694142065690 : True := trivial
theorem PySem.W.Fast.tw9075528347611647034 : True := trivial
theorem PySem.W.Fast.tw858447513441256602 : True := trivial
theorem PySem.W.Fast.tw9735068299909179546 : True := trivial
theorem PySem.W.Fast.tw15325430577171483962 : True := trivial
theorem PySem.W.Fast.tw7076249055071531450 : True := trivial
theorem PySem.W.Fast.tw16098774654407114266 : True := trivial
theorem PySem.W.Fast.tw16485613902675483194 : True := trivial
theorem PySem.W.Fast.tw6278199527179012666 : True := trivial
theorem PySem.W.Fast.tw14741349736373113530 : True := trivial
theorem PySem.W.Fast.tw12873459310385481466 : True := trivial
theorem PySem.W.Fast.tw5024148363839807290 : True := trivial
theorem PySem.W.Fast.tw832259372414401498 : True := trivial
theorem PySem.W.Fast.tw3210946167545704603 : True := trivial
theorem PySem.W.Fast.tw7800809135573358747 : True := trivial
theorem PySem.W.Fast.tw13863440933881504955 : True := trivial
theorem PySem.W.Fast.tw6629363348074137819 : True := trivial
theorem PySem.W.Fast.tw2900472021835476251 : True := trivial
theorem PySem.W.Fast.tw16799203886758883707 : True := trivial
theorem PySem.W.Fast.tw16459469841040000571 : True := trivial
theorem PySem.W.Fast.tw6530318808032289371 : True := trivial
theorem PySem.W.Fast.tw1518742088078379771 : True := trivial
theorem PySem.W.Fast.tw3695345742136853339 : True := trivial
theorem PySem.W.Fast.tw3637936211483486075 : True := trivial
theorem PySem.W.Fast.tw5746384778686332891 : True := trivial
theorem PySem.W.Fast.tw14919600390734863388 : True := trivial
theorem PySem.W.Fast.tw14442033250018253020 : True := trivial
theorem PySem.W.Fast.tw10808755454619089276 : True := trivial
theorem PySem.W.Fast.tw17400228581573279164 : True := trivial
theorem PySem.W.Fast.tw8424094018957697788 : True := trivial
theorem PySem.W.Fast.tw18402814899465096956 : True := trivial
theorem PySem.W.Fast.tw10163258804408034140 : True := trivial
theorem PySem.W.Fast.tw5217825953475002236 : True := trivial
theorem PySem.W.Fast.tw1073574534030787516 : True := trivial
theorem PySem.W.Fast.tw1901077230562185180 : True := trivial
theorem PySem.W.Fast.tw4747708953630523388 : True := trivial
theorem PySem.W.Fast.tw868120733389775933 : True := trivial
theorem PySem.W.Fast.tw13683377651984700509 : True := trivial
theorem PySem.W.Fast.tw16902526642618873981 : True := trivial
theorem PySem.W.Fast.tw12859167530303452317 : True := trivial
theorem PySem.W.Fast.tw7519274414634961181 : True := trivial
theorem PySem.W.Fast.tw13669011970800925 : True := trivial
theorem PySem.W.Fast.tw1830804898917354941 : True := trivial
theorem PySem.W.Fast.tw7819611622430044637 : True := trivial
theorem PySem.W.Fast.tw10867935309744899677 : True := trivial
theorem PySem.W.Fast.tw16458318641594601149 : True := trivial
theorem PySem.W.Fast.tw13015303532542007069 : True := trivial
theorem PySem.W.Fast.tw9965143432853188541 : True := trivial
theorem PySem.W.Fast.tw16695105763716988893 : True := trivial
theorem PySem.W.Fast.tw3860021026199441373 : True := trivial
theorem PySem.W.Fast.tw8358039765064943646 : True := trivial
theorem PySem.W.Fast.tw3234516476668040350 : True := trivial
theorem PySem.W.Fast.tw5497902729540470014 : True := trivial
theorem PySem.W.Fast.tw6963182735294003486 : True := trivial
theorem PySem.W.Fast.tw9701726759299630494 : True := trivial
theorem PySem.W.Fast.tw1047550205055629822 : True := trivial
theorem PySem.W.Fast.tw7702943859198415614 : True := trivial
theorem PySem.W.Fast.tw3075509077413987070 : True := trivial
theorem PySem.W.Fast.tw2759201370509770494 : True := trivial
theorem PySem.W.Fast.tw4837160274936853310 : True := trivial
theorem PySem.W.Fast.tw16179382374096953182 : True := trivial
theorem PySem.W.Fast.tw8583849283123731551 : True := trivial
theorem PySem.W.Fast.tw8830778751809406047 : True := trivial
theorem PySem.W.Fast.tw14231036134166798495 : True := trivial
theorem PySem.W.Fast.tw11491488882033860831 : True := trivial
theorem PySem.W.Fast.tw13228029132874762687 : True := trivial
theorem PySem.W.Fast.tw7642538489336908671 : True := trivial

set_option Elab.async false
set_option linter.all false
set_option maxRecDepth 100000
set_option maxHeartbeats 400000
namespace K12
open PySem L2
theorem el1 {C : List Value → Prop} (h : ∀ a0 : Value, C [a0]) : ∀ us : List Value, us.length = 1 → C us := fun us e => match us, e with | [a0], _ => h a0
theorem el2 {C : List Value → Prop} (h : ∀ a0 a1 : Value, C [a0, a1]) : ∀ us : List Value, us.length = 2 → C us := fun us e => match us, e with | [a0, a1], _ => h a0 a1
theorem el3 {C : List Value → Prop} (h : ∀ a0 a1 a2 : Value, C [a0, a1, a2]) : ∀ us : List Value, us.length = 3 → C us := fun us e => match us, e with | [a0, a1, a2], _ => h a0 a1 a2
theorem el4 {C : List Value → Prop} (h : ∀ a0 a1 a2 a3 : Value, C [a0, a1, a2, a3]) : ∀ us : List Value, us.length = 4 → C us := fun us e => match us, e with | [a0, a1, a2, a3], _ => h a0 a1 a2 a3
theorem el5 {C : List Value → Prop} (h : ∀ a0 a1 a2 a3 a4 : Value, C [a0, a1, a2, a3, a4]) : ∀ us : List Value, us.length = 5 → C us := fun us e => match us, e with | [a0, a1, a2, a3, a4], _ => h a0 a1 a2 a3 a4
/-- the def stands in the text under its name -/
def Has (K : PySem.W.Frag) (x : Str) (st : Stmt) : Prop := ∃ (f : Addr) (od an : Option Addr) (sl : Array (Option Value)) (oc kV dc pm cd ct : Value), PySem.W.nsIn K mainGlobals x = some (some (.ref f)) ∧
  K.lookup f = some ⟨oc, od, .func (PySem.W.fnOf x x (defArgs st) (defBody st) (defScope st) .none kV dc pm an cd ct), sl⟩ ∧ PySem.W.codeIn K cd x = true ∧ PySem.W.keepIn K (.ref f) = true
theorem has_mk {K : PySem.W.Frag} {x : Str} {st : Stmt} {f : Addr} {od an : Option Addr} {sl : Array (Option Value)} {oc kV dc pm cd ct : Value} (a : PySem.W.nsIn K mainGlobals x = some (some (.ref f)))
    (l : K.lookup f = some ⟨oc, od, .func (PySem.W.fnOf x x (defArgs st) (defBody st) (defScope st) .none kV dc pm an cd ct), sl⟩) (c : PySem.W.codeIn K cd x = true) (k : PySem.W.keepIn K (.ref f) = true) : Has K x st := ⟨f, od, an, sl, oc, kV, dc, pm, cd, ct, a, l, c, k⟩
theorem Has.get {K : PySem.W.Frag} {x : Str} {st : Stmt} {h : Heap} {mg : Str → Option Value} (H : Has K x st) (X : K.In h) (G : h.Ns mainGlobals mg) : ∃ f fd, Fun K x x st f fd ∧ mg x = some (.ref f) := by
  obtain ⟨f, od, an, sl, oc, kV, dc, pm, cd, ct, a, l, c, k⟩ := H
  exact ⟨f, _, fun_mk (st := st) l c k, PySem.W.mg_of X G a⟩
theorem cal_mk {P : Program} {w : World} {K : PySem.W.Frag} {mg : Str → Option Value} {base : Heap} {k : Nat} {x : Str} {ps : List Str} {sp : Sp} {f : Addr} {fd : FuncData} (F : FnOk P w K mg base CX0 k f fd ps sp) (m : mg x = some (.ref f)) (kp : PySem.W.keepIn K (.ref f) = true) (b : Binds K fd ps []) : Cal P w K mg base k x ps sp := ⟨f, fd, F, m, kp, b⟩
theorem calx_mk {P : Program} {w : World} {K : PySem.W.Frag} {mg : Str → Option Value} {base : Heap} {k : Nat} {x : Str} {ps : List Str} {sp : Sp} {f : Addr} {fd : FuncData} (F : FnOk P w K mg base (CX1 P w) k f fd ps sp) (m : mg x = some (.ref f)) (kp : PySem.W.keepIn K (.ref f) = true) (b : Binds K fd ps []) : CalX P w K mg base k x ps sp := ⟨f, fd, F, m, kp, b⟩
theorem calu_mk {P : Program} {w : World} {K : PySem.W.Frag} {mg : Str → Option Value} {base : Heap} {k : Nat} {x : Str} {ps : List Str} {sp : Sp} {f : Addr} {fd : FuncData} (F : FnOkU P w K mg base CX0 k f fd ps sp) (m : mg x = some (.ref f)) (kp : PySem.W.keepIn K (.ref f) = true) (b : Binds K fd ps []) : CalU P w K mg base k x ps sp := ⟨f, fd, F, m, kp, b⟩
theorem code_mk {K : PySem.W.Frag} {x qual : Str} {st : Stmt} {f c T : Addr} {fd : FuncData} {h : Heap} {mg : Str → Option Value} (X : K.In h) (G : h.Ns mainGlobals mg) (F : Fun K x qual st f fd) (m : mg x = some (.ref f)) (t : PySem.W.tabIn K x = some (c, T)) : fd.code = .ref c := by
  obtain ⟨oc, od, kV, doc, pm, an, cdv, ct, osl, rfl, lk, _⟩ := F.ex
  exact PySem.W.law_code X G t m (X _ _ lk) rfl
theorem all_mk {l : PySem.W.OpenLaw} {w : World} {K : PySem.W.Frag} {h : Heap} {mg : Str → Option Value} {fa fL : Addr} {odL anL : Option Addr} {slL : Array (Option Value)} {ocL kVL dcL pmL cdL ctL : Value} {t0 t1 : Tok} {cT T0 : Addr} {C0 C1 C2 C3 C4 C5 C6 C7 C8 C9 C10 C11 C12 C13 C14 C15 C16 C17 : Addr} (X : K.In h) (G : h.Ns mainGlobals mg) (hfa : mg "law" = some (.ref fa))
    (h20 : Has K "is_whole" (top 20))
    (h21 : Has K "is_whole_from" (top 21))
    (h22 : Has K "is_tuple_of" (top 22))
    (h23 : Has K "are_wholes" (top 23))
    (h27 : Has K "are_weights" (top 27))
    (h28 : Has K "refuse_unpartable" (top 28))
    (h29 : Has K "places_by_rest" (top 29))
    (h30 : Has K "parts_of" (top 30))
    (h31 : Has K "parted" (top 31))
    (h32 : Has K "is_fair" (top 32))
    (h34 : Has K "_law_cell_at" (top 34))
    (h35 : Has K "_law_state" (top 35))
    (h36 : Has K "_law_choice" (top 36))
    (h38 : Has K "_law_marks" (top 38))
    (h39 : Has K "_law_said" (top 39))
    (h41 : Has K "_law_row_bent" (top 41))
    (h42 : Has K "_law_bent" (top 42))
    (h43 : Has K "_law_weights" (top 43))
    (h44 : Has K "_law_whole" (top 44))
    (h45 : Has K "_law_due" (top 45))
    (aL : PySem.W.nsIn K mainGlobals "law" = some (some (.ref fL))) (lL : K.lookup fL = some ⟨ocL, odL, .func (PySem.W.fnOf "law" "law" (defArgs (top 46)) (defBody (top 46)) (defScope (top 46)) .none kVL dcL pmL anL cdL ctL), slL⟩) (cL : PySem.W.codeIn K cdL "law" = true) (kL : PySem.W.keepIn K (.ref fL) = true)
    (n0 : PySem.W.nsIn K mainGlobals "MOST_WEIGHTS" = some (some (.int 80 t0)))
    (n1 : PySem.W.nsIn K mainGlobals "MOST_WEIGHT" = some (some (.int 99 t1)))
    (z_isinstance : PySem.W.nsIn K mainGlobals "isinstance" = some none)
    (z_int : PySem.W.nsIn K mainGlobals "int" = some none)
    (z_bool : PySem.W.nsIn K mainGlobals "bool" = some none)
    (z_tuple : PySem.W.nsIn K mainGlobals "tuple" = some none)
    (z_len : PySem.W.nsIn K mainGlobals "len" = some none)
    (z_all : PySem.W.nsIn K mainGlobals "all" = some none)
    (z_range : PySem.W.nsIn K mainGlobals "range" = some none)
    (z_max : PySem.W.nsIn K mainGlobals "max" = some none)
    (z_min : PySem.W.nsIn K mainGlobals "min" = some none)
    (z_repr : PySem.W.nsIn K mainGlobals "repr" = some none)
    (z_enumerate : PySem.W.nsIn K mainGlobals "enumerate" = some none)
    (z_sorted : PySem.W.nsIn K mainGlobals "sorted" = some none)
    (z_sum : PySem.W.nsIn K mainGlobals "sum" = some none)
    (z_list : PySem.W.nsIn K mainGlobals "list" = some none)
    (z_dict : PySem.W.nsIn K mainGlobals "dict" = some none)
    (z_str : PySem.W.nsIn K mainGlobals "str" = some none)
    (z_ValueError : PySem.W.nsIn K mainGlobals "ValueError" = some none)
    (k0 : PySem.W.nsIn K mainGlobals "NoClips" = some (some (.ref C0)))
    (k1 : PySem.W.nsIn K mainGlobals "NoPromises" = some (some (.ref C1)))
    (k2 : PySem.W.nsIn K mainGlobals "NoSales" = some (some (.ref C2)))
    (k3 : PySem.W.nsIn K mainGlobals "NoBook" = some (some (.ref C3)))
    (k4 : PySem.W.nsIn K mainGlobals "NoNumber" = some (some (.ref C4)))
    (k5 : PySem.W.nsIn K mainGlobals "NoYear" = some (some (.ref C5)))
    (k6 : PySem.W.nsIn K mainGlobals "NoWeights" = some (some (.ref C6)))
    (k7 : PySem.W.nsIn K mainGlobals "NoPaper" = some (some (.ref C7)))
    (k8 : PySem.W.nsIn K mainGlobals "NoGrowth" = some (some (.ref C8)))
    (k9 : PySem.W.nsIn K mainGlobals "NoPromise" = some (some (.ref C9)))
    (k10 : PySem.W.nsIn K mainGlobals "NoSort" = some (some (.ref C10)))
    (k11 : PySem.W.nsIn K mainGlobals "NoClip" = some (some (.ref C11)))
    (k12 : PySem.W.nsIn K mainGlobals "NoSale" = some (some (.ref C12)))
    (k13 : PySem.W.nsIn K mainGlobals "NoDeed" = some (some (.ref C13)))
    (k14 : PySem.W.nsIn K mainGlobals "NoText" = some (some (.ref C14)))
    (k15 : PySem.W.nsIn K mainGlobals "NoLine" = some (some (.ref C15)))
    (k16 : PySem.W.nsIn K mainGlobals "TooMany" = some (some (.ref C16)))
    (k17 : PySem.W.nsIn K mainGlobals "WoolError" = some (some (.ref C17)))
    (e4 : PySem.W.excIn K C4 VE "ValueError.__new__" = true) (d4 : kdIn K [C0, C1, C2, C3, C4, C5, C6, C7, C8, C9, C10, C11, C12, C13, C14, C15, C16, C17] 4 = true)
    (e6 : PySem.W.excIn K C6 VE "ValueError.__new__" = true) (d6 : kdIn K [C0, C1, C2, C3, C4, C5, C6, C7, C8, C9, C10, C11, C12, C13, C14, C15, C16, C17] 6 = true)
    (tb : PySem.W.tabIn K "law" = some (cT, T0))
    : ∃ fd : FuncData, (∀ (s : Shared) (v : Value), BindsTo s fd ⟨[v], []⟩ [("_law_script", v)]) ∧ ∀ base : Heap, K.In base → base.Ns mainGlobals mg → PySem.W.CodeHd base cT T0 → base.BuiltinsAt mg T0 → FnOk l.prog w K mg base CX0 63 fa fd ["_law_script"] (spLaw K T0) := by
  have e := hfa.symm.trans (PySem.W.mg_of X G aL)
  cases e
  have FL := fun_mk (st := top 46) lL cL kL
  obtain ⟨f20, fd20, F20, m20⟩ := h20.get X G
  have b20 := F20.binds (ps := ["thing"]) fun _ _ _ _ _ _ => el1 fun _ => rfl
  obtain ⟨f21, fd21, F21, m21⟩ := h21.get X G
  have b21 := F21.binds (ps := ["thing", "least", "most"]) fun _ _ _ _ _ _ => el3 fun _ _ _ => rfl
  obtain ⟨f22, fd22, F22, m22⟩ := h22.get X G
  have b22 := F22.binds (ps := ["thing", "fewest", "most"]) fun _ _ _ _ _ _ => el3 fun _ _ _ => rfl
  obtain ⟨f23, fd23, F23, m23⟩ := h23.get X G
  have b23 := F23.binds (ps := ["thing", "many"]) fun _ _ _ _ _ _ => el2 fun _ _ => rfl
  obtain ⟨f27, fd27, F27, m27⟩ := h27.get X G
  have b27 := F27.binds (ps := ["thing"]) fun _ _ _ _ _ _ => el1 fun _ => rfl
  obtain ⟨f28, fd28, F28, m28⟩ := h28.get X G
  have b28 := F28.binds (ps := ["sacks", "weights"]) fun _ _ _ _ _ _ => el2 fun _ _ => rfl
  obtain ⟨f29, fd29, F29, m29⟩ := h29.get X G
  have b29 := F29.binds (ps := ["rests"]) fun _ _ _ _ _ _ => el1 fun _ => rfl
  obtain ⟨f30, fd30, F30, m30⟩ := h30.get X G
  have b30 := F30.binds (ps := ["sacks", "weights"]) fun _ _ _ _ _ _ => el2 fun _ _ => rfl
  obtain ⟨f31, fd31, F31, m31⟩ := h31.get X G
  have b31 := F31.binds (ps := ["sacks", "weights"]) fun _ _ _ _ _ _ => el2 fun _ _ => rfl
  obtain ⟨f32, fd32, F32, m32⟩ := h32.get X G
  have b32 := F32.binds (ps := ["sacks", "weights", "thing"]) fun _ _ _ _ _ _ => el3 fun _ _ _ => rfl
  obtain ⟨f34, fd34, F34, m34⟩ := h34.get X G
  have b34 := F34.binds (ps := ["_law_script", "_law_k"]) fun _ _ _ _ _ _ => el2 fun _ _ => rfl
  obtain ⟨f35, fd35, F35, m35⟩ := h35.get X G
  have b35 := F35.binds (ps := ["_law_script", "_law_k"]) fun _ _ _ _ _ _ => el2 fun _ _ => rfl
  obtain ⟨f36, fd36, F36, m36⟩ := h36.get X G
  have b36 := F36.binds (ps := ["_law_state_here", "_law_many"]) fun _ _ _ _ _ _ => el2 fun _ _ => rfl
  obtain ⟨f38, fd38, F38, m38⟩ := h38.get X G
  have b38 := F38.binds (ps := ["_law_e"]) fun _ _ _ _ _ _ => el1 fun _ => rfl
  obtain ⟨f39, fd39, F39, m39⟩ := h39.get X G
  have b39 := F39.binds (ps := ["_law_call"]) fun _ _ _ _ _ _ => el1 fun _ => rfl
  obtain ⟨f41, fd41, F41, m41⟩ := h41.get X G
  have b41 := F41.binds (ps := ["_law_state_here", "_law_things"]) fun _ _ _ _ _ _ => el2 fun _ _ => rfl
  obtain ⟨f42, fd42, F42, m42⟩ := h42.get X G
  have b42 := F42.binds (ps := ["_law_state_here", "_law_thing", "_law_deep"]) fun _ _ _ _ _ _ => el3 fun _ _ _ => rfl
  obtain ⟨f43, fd43, F43, m43⟩ := h43.get X G
  have b43 := F43.binds (ps := ["_law_state_here"]) fun _ _ _ _ _ _ => el1 fun _ => rfl
  obtain ⟨f44, fd44, F44, m44⟩ := h44.get X G
  have b44 := F44.binds (ps := ["_law_thing", "_law_low", "_law_high"]) fun _ _ _ _ _ _ => el3 fun _ _ _ => rfl
  obtain ⟨f45, fd45, F45, m45⟩ := h45.get X G
  have b45 := F45.binds (ps := ["_law_sacks", "_law_weights_here"]) fun _ _ _ _ _ _ => el2 fun _ _ => rfl
  have T : Mg mg := ⟨(PySem.W.mg_none_of X G z_isinstance), (PySem.W.mg_none_of X G z_int), (PySem.W.mg_none_of X G z_bool), (PySem.W.mg_none_of X G z_tuple), (PySem.W.mg_none_of X G z_len), (PySem.W.mg_none_of X G z_all)⟩
  have N : Nums mg := ⟨⟨t0, PySem.W.mg_of X G n0⟩, ⟨t1, PySem.W.mg_of X G n1⟩⟩
  refine ⟨PySem.W.fnOf "law" "law" (defArgs (top 46)) (defBody (top 46)) (defScope (top 46)) .none kVL dcL pmL anL cdL ctL, fun s v => .of_eq rfl, fun base kb _ hC hB => ?_⟩
  have L : Clss mg (fun i => [C0, C1, C2, C3, C4, C5, C6, C7, C8, C9, C10, C11, C12, C13, C14, C15, C16, C17].getD i 0) := ⟨PySem.W.mg_of X G k0, PySem.W.mg_of X G k1, PySem.W.mg_of X G k2, PySem.W.mg_of X G k3, PySem.W.mg_of X G k4, PySem.W.mg_of X G k5, PySem.W.mg_of X G k6, PySem.W.mg_of X G k7, PySem.W.mg_of X G k8, PySem.W.mg_of X G k9, PySem.W.mg_of X G k10, PySem.W.mg_of X G k11, PySem.W.mg_of X G k12, PySem.W.mg_of X G k13, PySem.W.mg_of X G k14, PySem.W.mg_of X G k15, PySem.W.mg_of X G k16, PySem.W.mg_of X G k17⟩
  have O4 := own_mk (mg := mg) kb L.n4 e4
  have K4 := kd_of d4
  have O6 := own_mk (mg := mg) kb L.n6 e6
  have K6 := kd_of d6
  have hcode := code_mk X G FL hfa tb
  have C20 := cal_mk (P := l.prog) (w := w) (base := base) (ok_is_whole F20 T) m20 F20.kp b20
  have C21 := cal_mk (P := l.prog) (w := w) (base := base) (ok_whole_from F21 C20) m21 F21.kp b21
  have C22 := cal_mk (P := l.prog) (w := w) (base := base) (ok_is_tuple_of F22 T) m22 F22.kp b22
  have C23 := cal_mk (P := l.prog) (w := w) (base := base) (ok_are_wholes F23 T C20 C22) m23 F23.kp b23
  have C27 := cal_mk (P := l.prog) (w := w) (base := base) (ok_are_weights F27 T N C21 C22) m27 F27.kp b27
  have C28 := calx_mk (P := l.prog) (w := w) (base := base) (ok_refuseX (Cs := fun i => [C0, C1, C2, C3, C4, C5, C6, C7, C8, C9, C10, C11, C12, C13, C14, C15, C16, C17].getD i 0) F28 O6 O4 (PySem.W.mg_none_of X G z_sum) C27 C21) m28 F28.kp b28
  have C29 := cal_mk (P := l.prog) (w := w) (base := base) (ok_places F29 (PySem.W.mg_none_of X G z_enumerate) (PySem.W.mg_none_of X G z_sorted)) m29 F29.kp b29
  have C30 := cal_mk (P := l.prog) (w := w) (base := base) (ok_parts F30 T (PySem.W.mg_none_of X G z_sum) C29) m30 F30.kp b30
  have C31 := calx_mk (P := l.prog) (w := w) (base := base) (ok_partedX F31 C28 C30) m31 F31.kp b31
  have C32 := calx_mk (P := l.prog) (w := w) (base := base) (ok_fairX F32 T C28 C23) m32 F32.kp b32
  have C34 := cal_mk (P := l.prog) (w := w) (base := base) (ok_cell F34 T) m34 F34.kp b34
  have C35 := cal_mk (P := l.prog) (w := w) (base := base) (ok_state F35 (PySem.W.mg_none_of X G z_max) C34) m35 F35.kp b35
  have C36 := cal_mk (P := l.prog) (w := w) (base := base) (ok_choice F36) m36 F36.kp b36
  have C38 := calu_mk (P := l.prog) (w := w) (base := base) (ok_marks F38 T L) m38 F38.kp b38
  have C39 := cal_mk (P := l.prog) (w := w) (base := base) (ok_said (kk := 7) F39 T (PySem.W.mg_none_of X G z_ValueError) L C38) m39 F39.kp b39
  have C41 := cal_mk (P := l.prog) (w := w) (base := base) (ok_rowB F41 T (PySem.W.mg_none_of X G z_list) (PySem.W.mg_none_of X G z_dict) C36) m41 F41.kp b41
  have C42 := cal_mk (P := l.prog) (w := w) (base := base) (ok_bent F42 T (PySem.W.mg_none_of X G z_str) C36 C41 m42 b42) m42 F42.kp b42
  have C43 := cal_mk (P := l.prog) (w := w) (base := base) (ok_weights F43 T (PySem.W.mg_none_of X G z_range) C36) m43 F43.kp b43
  have C44 := cal_mk (P := l.prog) (w := w) (base := base) (ok_lwhole F44 T) m44 F44.kp b44
  have C45 := cal_mk (P := l.prog) (w := w) (base := base) (ok_due F45 T (PySem.W.mg_none_of X G z_sum) C44) m45 F45.kp b45
  exact ok_law FL hcode hC hB T (PySem.W.mg_none_of X G z_range) (PySem.W.mg_none_of X G z_max) (PySem.W.mg_none_of X G z_min) (PySem.W.mg_none_of X G z_sum) (PySem.W.mg_none_of X G z_list) (PySem.W.mg_none_of X G z_repr) (fun j hj => by rcases hj with rfl | rfl; exact K6; exact K4) C35 C43 C36 C42 C45 C39 C31 C32
theorem walk {l : PySem.W.OpenLaw} {q : Program} {loose : List Str} {XP : (Str → Option Value) → Heap → Prop} {YP : World → Heap → Prop} {d dr : DefRec} {K : Params → PySem.W.Frag} {c T0 : Addr} (hn : l.most = some 63) (hdf : d.params.defaults = [])
    (hY : ∀ (w : World) (h : Heap), YP w h → (K w.params).In h) (hfd : (PyProof.Rows.recsOf q).find? (fun e => e.name == ("law" : Str)) = some dr) (htb : ∀ p : Params, PySem.W.tabIn (K p) "law" = some (c, T0)) (hnt : ∀ p : Params, PySem.W.noTabs (K p) = true)
    (F : ∀ (w : World) (mg : Str → Option Value) (fa : Addr) (h : Heap), (K w.params).In h → h.Ns mainGlobals mg → mg d.name = some (.ref fa) →
      ∃ fd : FuncData, (∀ (s : Shared) (u : Value), BindsTo s fd ⟨[u], []⟩ [("_law_script", u)]) ∧ ∀ base : Heap, (K w.params).In base → base.Ns mainGlobals mg → PySem.W.CodeHd base c T0 → base.BuiltinsAt mg T0 → FnOk l.prog w (K w.params) mg base CX0 63 fa fd ["_law_script"] (spLaw (K w.params) T0)) :
    PySem.W.WalkO q loose XP YP l.row.toRowW d [] (fun f vs => PySem.call f vs) :=
  L2.walk_ofT (n := 63) (k := 63) (x := "_law_script") (nm := "law") (qn := qnT) (CX := fun _ => CX0) (sp := fun w => spLaw (K w.params) T0) hn (by decide) hdf ⟨rfl, by decide, by decide, rfl⟩ hY hfd htb hnt F (fun _ _ a ns hl hS hT => ⟨a, ns, rfl, hS, hl, hT, fun _ => rfl⟩) fun _ _ _ _ _ z => z
end K12
open PySem PySem.W PyProof.Rows
set_option maxRecDepth 100000 in
set_option maxHeartbeats 0 in
theorem PySem.Challenge.cw_woolyears_k12_what_cannot_be_parted_holds : PySem.Challenge.rw_woolyears_k12_what_cannot_be_parted.Holds := by
  w_on; o_law; k_head; (case hw => w_witness2)
  k_fill
  refine' K12.walk (l := PySem.Challenge.rw_woolyears_k12_what_cannot_be_parted) rfl rfl (fun w h Y => PySem.W.km_in_of Y) ?fd ?tb ?nt ?F
  case fd => exact rfl
  case tb =>
    intro p
    refine' K12.tab_mk ?a ?l ?c ?m ?v
    (case a => k_is); (case l => k_is); (case c => exact rfl); (case m => k_is); (case v => exact rfl)
  case nt =>
    intro p
    kernel_rfl
  case F =>
    intro w mg fa h KX G hmg
    refine' K12.all_mk KX G hmg ?h20 ?h21 ?h22 ?h23 ?h27 ?h28 ?h29 ?h30 ?h31 ?h32 ?h34 ?h35 ?h36 ?h38 ?h39 ?h41 ?h42 ?h43 ?h44 ?h45 ?aL ?lL ?cL ?kL ?n0 ?n1 ?z0 ?z1 ?z2 ?z3 ?z4 ?z5 ?z6 ?z7 ?z8 ?z9 ?z10 ?z11 ?z12 ?z13 ?z14 ?z15 ?z16 ?k0 ?k1 ?k2 ?k3 ?k4 ?k5 ?k6 ?k7 ?k8 ?k9 ?k10 ?k11 ?k12 ?k13 ?k14 ?k15 ?k16 ?k17 ?e4 ?d4 ?e6 ?d6 ?tb
    case h20 =>
      refine' K12.has_mk ?a ?l ?c ?k
      (case a => k_is); (case l => k_is); (case c => k_is); (case k => k_is)
    case h21 =>
      refine' K12.has_mk ?a ?l ?c ?k
      (case a => k_is); (case l => k_is); (case c => k_is); (case k => k_is)
    case h22 =>
      refine' K12.has_mk ?a ?l ?c ?k
      (case a => k_is); (case l => k_is); (case c => k_is); (case k => k_is)
    case h23 =>
      refine' K12.has_mk ?a ?l ?c ?k
      (case a => k_is); (case l => k_is); (case c => k_is); (case k => k_is)
    case h27 =>
      refine' K12.has_mk ?a ?l ?c ?k
      (case a => k_is); (case l => k_is); (case c => k_is); (case k => k_is)
    case h28 =>
      refine' K12.has_mk ?a ?l ?c ?k
      (case a => k_is); (case l => k_is); (case c => k_is); (case k => k_is)
    case h29 =>
      refine' K12.has_mk ?a ?l ?c ?k
      (case a => k_is); (case l => k_is); (case c => k_is); (case k => k_is)
    case h30 =>
      refine' K12.has_mk ?a ?l ?c ?k
      (case a => k_is); (case l => k_is); (case c => k_is); (case k => k_is)
    case h31 =>
      refine' K12.has_mk ?a ?l ?c ?k
      (case a => k_is); (case l => k_is); (case c => k_is); (case k => k_is)
    case h32 =>
      refine' K12.has_mk ?a ?l ?c ?k
      (case a => k_is); (case l => k_is); (case c => k_is); (case k => k_is)
    case h34 =>
      refine' K12.has_mk ?a ?l ?c ?k
      (case a => k_is); (case l => k_is); (case c => k_is); (case k => k_is)
    case h35 =>
      refine' K12.has_mk ?a ?l ?c ?k
      (case a => k_is); (case l => k_is); (case c => k_is); (case k => k_is)
    case h36 =>
      refine' K12.has_mk ?a ?l ?c ?k
      (case a => k_is); (case l => k_is); (case c => k_is); (case k => k_is)
    case h38 =>
      refine' K12.has_mk ?a ?l ?c ?k
      (case a => k_is); (case l => k_is); (case c => k_is); (case k => k_is)
    case h39 =>
      refine' K12.has_mk ?a ?l ?c ?k
      (case a => k_is); (case l => k_is); (case c => k_is); (case k => k_is)
    case h41 =>
      refine' K12.has_mk ?a ?l ?c ?k
      (case a => k_is); (case l => k_is); (case c => k_is); (case k => k_is)
    case h42 =>
      refine' K12.has_mk ?a ?l ?c ?k
      (case a => k_is); (case l => k_is); (case c => k_is); (case k => k_is)
    case h43 =>
      refine' K12.has_mk ?a ?l ?c ?k
      (case a => k_is); (case l => k_is); (case c => k_is); (case k => k_is)
    case h44 =>
      refine' K12.has_mk ?a ?l ?c ?k
      (case a => k_is); (case l => k_is); (case c => k_is); (case k => k_is)
    case h45 =>
      refine' K12.has_mk ?a ?l ?c ?k
      (case a => k_is); (case l => k_is); (case c => k_is); (case k => k_is)
    (case aL => k_is); (case lL => k_is); (case cL => k_is); (case kL => k_is)
    (case n0 => k_is)
    (case n1 => k_is)
    (case z0 => k_is)
    (case z1 => k_is)
    (case z2 => k_is)
    (case z3 => k_is)
    (case z4 => k_is)
    (case z5 => k_is)
    (case z6 => k_is)
    (case z7 => k_is)
    (case z8 => k_is)
    (case z9 => k_is)
    (case z10 => k_is)
    (case z11 => k_is)
    (case z12 => k_is)
    (case z13 => k_is)
    (case z14 => k_is)
    (case z15 => k_is)
    (case z16 => k_is)
    (case k0 => k_is)
    (case k1 => k_is)
    (case k2 => k_is)
    (case k3 => k_is)
    (case k4 => k_is)
    (case k5 => k_is)
    (case k6 => k_is)
    (case k7 => k_is)
    (case k8 => k_is)
    (case k9 => k_is)
    (case k10 => k_is)
    (case k11 => k_is)
    (case k12 => k_is)
    (case k13 => k_is)
    (case k14 => k_is)
    (case k15 => k_is)
    (case k16 => k_is)
    (case k17 => k_is)
    (case e4 => kernel_rfl); (case d4 => kernel_rfl)
    (case e6 => kernel_rfl); (case d6 => kernel_rfl)
    case tb =>
      refine' K12.tab_mk ?a ?l ?c ?m ?v
      (case a => k_is); (case l => k_is); (case c => exact rfl); (case m => k_is); (case v => exact rfl)

