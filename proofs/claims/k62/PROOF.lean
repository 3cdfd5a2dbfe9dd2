import PyProof.Rows.All
import Wide.All
import OpenK.AllK
import Wide.FinOn
import Lean
import PyProof.EqAt
import PyProof.EqKinds
import PyProof.TupleCall
import PyProof.StrLawsRepr
import PyProof.ZipIter
import PySem.Challenge.RW_woolyears_k62_a_shared_flock
-- CHANGE: your row's module here, as the last of these rows
set_option Elab.async false
set_option linter.all false
set_option maxRecDepth 100000
/-! THE HAND LAYER, for ints, bools, texts, own classes, LISTS and tuples (index, slices, in, append, pop ..), calls, loops. Paste it whole ahead of your own text; what your proof does not reach may be deleted. -/
namespace L2
open PySem PySem.Spec PyProof.Rows

/-- a key: an int or a str -/
abbrev Key := Sum Int Str
def keyIs : Key → Value → Bool
  | .inl k, v => Value.isInt k v
  | .inr x, v => Value.isStrOf x v
def keyH (w : World) : Key → Int
  | .inl k => hashInt k
  | .inr x => hashStr w x
theorem keyIs_shape : ∀ {k : Key} {v : Value}, keyIs k v = true → (∃ i t, k = Sum.inl i ∧ v = Value.int i t) ∨ (∃ x t, k = Sum.inr x ∧ v = Value.str x t)
  | .inl i, v, h => by
    obtain ⟨t, e⟩ := Value.isInt_shape (k := i) (v := v) h
    exact .inl ⟨i, t, rfl, e⟩
  | .inr x, v, h => by
    obtain ⟨t, e⟩ := Value.isStrOf_shape (x := x) (v := v) h
    exact .inr ⟨x, t, rfl, e⟩
theorem key_ll (a b : Int) : decide ((Sum.inl a : Key) = Sum.inl b) = (a == b) := by
  by_cases e : a = b
  · subst e; simp
  · have h : ¬ (Sum.inl a : Key) = Sum.inl b := fun q => e (Sum.inl.inj q)
    rw [decide_eq_false h]
    exact (beq_eq_false_iff_ne.mpr e).symm
theorem key_rr (a b : Str) : decide ((Sum.inr a : Key) = Sum.inr b) = decide (a = b) := by
  by_cases e : a = b
  · subst e; simp
  · have h : ¬ (Sum.inr a : Key) = Sum.inr b := fun q => e (Sum.inr.inj q)
    rw [decide_eq_false h, decide_eq_false e]
theorem key_lr (a : Int) (b : Str) : decide ((Sum.inl a : Key) = Sum.inr b) = false := decide_eq_false (fun q => nomatch q)
theorem key_rl (a : Str) (b : Int) : decide ((Sum.inr a : Key) = Sum.inl b) = false := decide_eq_false (fun q => nomatch q)

def mixKind (prog : Program) (w : World) : PySem.KeyKind prog w Key where
  is := keyIs
  hash := keyH w
  inj := fun v a b ha hb => by
    rcases keyIs_shape ha with ⟨i, t, rfl, rfl⟩ | ⟨x, t, rfl, rfl⟩
    · rcases keyIs_shape hb with ⟨j, u, rfl, e⟩ | ⟨y, u, rfl, e⟩
      · injection e with e1 _; rw [e1]
      · exact nomatch e
    · rcases keyIs_shape hb with ⟨j, u, rfl, e⟩ | ⟨y, u, rfl, e⟩
      · exact nomatch e
      · injection e with e1 _; rw [e1]
  byValue := fun k v h => by
    rcases keyIs_shape h with ⟨i, t, rfl, rfl⟩ | ⟨x, t, rfl, rfl⟩ <;> rfl
  pyHash := fun hv h => by
    rcases keyIs_shape hv with ⟨i, t, rfl, rfl⟩ | ⟨x, t, rfl, rfl⟩
    · exact wpAny_pyHash_int h
    · exact wpAny_pyHash_str h
  eqBool := fun hu hv h => by
    rcases keyIs_shape hu with ⟨i, t, rfl, rfl⟩ | ⟨x, t, rfl, rfl⟩
    · rcases keyIs_shape hv with ⟨j, u, rfl, rfl⟩ | ⟨y, u, rfl, rfl⟩
      · rw [key_ll] at h; exact wpAny_eqBool_int h
      · rw [key_lr] at h; exact SeqAt.EqAt.int_str i t y u _ _ _ _ h
    · rcases keyIs_shape hv with ⟨j, u, rfl, rfl⟩ | ⟨y, u, rfl, rfl⟩
      · rw [key_rl] at h; exact SeqAt.EqAt.str_int x t j u _ _ _ _ h
      · rw [key_rr] at h; exact wpAny_eqBool_str h
  «strs» := fun k x t v h => by
    rcases keyIs_shape h with ⟨i, u, rfl, e⟩ | ⟨y, u, rfl, e⟩
    · exact nomatch e
    · injection e with e1 _
      subst e1
      cases v <;> rfl

end L2

namespace L2
open PySem PySem.Spec PyProof.Rows

/-- a value, without the heap -/
inductive V where
  | non | bl (b : Bool) | int (i : Int) | str (x : Str) | byt (b : Array UInt8) | flt (b : UInt64) | ref (a : Addr) | ty (n : String)
  deriving DecidableEq

def RelV : V → Value → Prop
  | .non, u => u = Value.none
  | .bl b, u => u = Value.bool b
  | .int i, u => ∃ t, u = Value.int i t
  | .str x, u => ∃ t, u = Value.str x t
  | .byt b, u => ∃ t, u = Value.bytes b t
  | .flt b, u => ∃ t, u = Value.float b t
  | .ref a, u => u = Value.ref a
  | .ty n, u => u = Value.type n

abbrev Vals : List V → List Value → Prop := Paired RelV
theorem Vals.length {xs : List V} {us : List Value} (r : Vals xs us) : xs.length = us.length := Paired.length r
theorem Vals.get : ∀ {xs : List V} {us : List Value} {i : Nat} {x : V}, Vals xs us → xs[i]? = some x → ∃ u, us[i]? = some u ∧ RelV x u
  | _, _, _, _, .nil, e => by simp at e
  | _, _, 0, _, .cons r _, e => by simp at e; subst e; exact ⟨_, rfl, r⟩
  | _, _, i + 1, x, .cons _ t, e => by
    obtain ⟨u, h1, h2⟩ := Vals.get (i := i) (x := x) t (by simpa using e)
    exact ⟨u, by simpa using h1, h2⟩
theorem Vals.set {x : V} {u : Value} (r : RelV x u) : ∀ {xs : List V} {us : List Value} (i : Nat), Vals xs us → Vals (xs.set i x) (us.set i u)
  | _, _, _, .nil => .nil
  | _, _, 0, .cons _ t => .cons r t
  | _, _, i + 1, .cons q t => .cons q (Vals.set r i t)
theorem Vals.append : ∀ {xs ys : List V} {us ws : List Value}, Vals xs us → Vals ys ws → Vals (xs ++ ys) (us ++ ws)
  | _, _, _, _, .nil, s => s
  | _, _, _, _, .cons r t, s => .cons r (Vals.append t s)
theorem Vals.take : ∀ {xs : List V} {us : List Value} (n : Nat), Vals xs us → Vals (xs.take n) (us.take n)
  | _, _, 0, _ => .nil
  | _, _, _ + 1, .nil => .nil
  | _, _, n + 1, .cons r t => .cons r (Vals.take n t)
theorem Vals.drop : ∀ {xs : List V} {us : List Value} (n : Nat), Vals xs us → Vals (xs.drop n) (us.drop n)
  | _, _, 0, r => r
  | _, _, _ + 1, .nil => .nil
  | _, _, n + 1, .cons _ t => Vals.drop n t

def RelO : Option V → Option Value → Prop
  | some v, some u => RelV v u
  | none, none => True
  | _, _ => False
def KV {κ : Type} : List (κ × V) → List (κ × Value) → Prop := Paired fun (p : κ × V) (q : κ × Value) => p.1 = q.1 ∧ RelV p.2 q.2

/-- a key of a dict (00_mix): an int or a text -/
def kV : Key → V
  | .inl i => .int i
  | .inr x => .str x

/-- what stands at a tracked address -/
inductive HO where
  /-- a list -/
  | lst (xs : List V)
  /-- a tuple (never changes) -/
  | tup (xs : List V)
  /-- a dict whose keys are ints and texts; one whose keys are tuples of ints and texts (the empty one is both) -/
  | dK (kvs : List (Key × V)) | dT (kvs : List (List Key × V))
  /-- a set of ints: its members, its size -/
  | set (S : Int → Bool) (n : Nat)
  /-- an instance of the class at C, its dict at dx, its attributes -/
  | ins (C dx : Addr) (fs : List (Str × V))
  /-- the dict of the instance at x -/
  | own (x : Addr)
  /-- the dict of an exception -/
  | xd (fs : List (Str × V))
  /-- a bound method, f of x -/
  | met (f x : Addr)
  /-- a range object lo, lo + 1, .. below hi -/
  | rng (lo hi : Int)
  /-- a thing that is known to the object (the script; a dict while a loop walks it): read, never written while it is so -/
  | frz (o : Obj) (u : HO)
  /-- a code object's table -/
  | tbl (ps : Array Value)
  /-- any other thing, by what is true of its one object (a def of one's own: SetO a S n := HO.ext fun h => ..) -/
  | ext (φ : Heap → Prop)

abbrev Hp := Addr → Option HO
def upd (H : Hp) (a : Addr) (o : HO) : Hp := fun b => if b = a then some o else H b
theorem upd_same {H : Hp} {a : Addr} {o : HO} : upd H a o a = some o := by unfold upd; rw [if_pos rfl]
theorem upd_ne {H : Hp} {a b : Addr} {o : HO} (h : b ≠ a) : upd H a o b = H b := by unfold upd; rw [if_neg h]
theorem ne_of_none {H : Hp} {a b : Addr} {o : HO} (h : H a = some o) (h' : H b = none) : a ≠ b := by
  intro e; subst e; rw [h] at h'; cases h'

section
variable (P : Program) (w : World)
def ObjOk (H : Hp) (h : Heap) (a : Addr) : HO → Prop
  | .lst xs => xs.length ≤ sizeLine ∧ ∃ (its : List Value) (n : Nat), Vals xs its ∧ h.get? a = some { cls := .type "list", data := .seq its.toArray n }
  | .tup xs => xs.length ≤ sizeLine ∧ ∃ its : List Value, Vals xs its ∧ IsTup h a its.toArray
  | .dK kvs => kvs.length ≤ sizeLine ∧ (a == sysModules) = false ∧ ∃ vs, KV kvs vs ∧ h.DictOf (mixKind P w) a vs
  | .dT kvs => kvs.length ≤ sizeLine ∧ (a == sysModules) = false ∧ ∃ xs : List (List Key × Addr × Value),
      Paired (fun (p : List Key × V) (q : List Key × Addr × Value) => p.1 = q.1 ∧ H q.2.1 = some (.tup (p.1.map kV)) ∧ RelV p.2 q.2.2) kvs xs ∧
      ∃ o es ep, h.get? a = some o ∧ o.ExactDict ∧ o.data = .dict es ep ∧ es.toList = xs.map (entryOfKey (tupleKind (mixKind P w))) ∧ (xs.map (·.1)).Nodup
  | .set S n => h.SetOf (intKind P w) a S n
  | .ins C dx fs => H dx = some (.own a) ∧ fs.length ≤ 1000 ∧ dx ≠ a ∧ h.get? a = some (PySem.W.instObj C dx) ∧
      ∃ mA, h.Ns1 dx mA ∧ (∀ f, RelO (fs.lookup f) (mA f)) ∧ PySem.Within mA (fs.map (·.1))
  | .own _ => ∃ o, h.get? a = some o
  | .xd fs => ∃ mA, h.Ns1 a mA ∧ ∀ f, RelO (fs.lookup f) (mA f)
  | .rng lo hi => ∃ t u v, h.get? a = some { cls := .type "range", data := .fields #[.int lo t, .int hi u, .int 1 v] }
  | .frz o u => h.get? a = some o ∧ ObjOk H h a u
  | .tbl ps => h.get? a = some { cls := .none, data := .fields ps }
  | .met f x => h.get? a = some (PySem.W.methodObj (.ref f) (.ref x))
  | .ext φ => φ h ∧ (∃ o, h.get? a = some o) ∧ ∀ h1 h2 : Heap, φ h1 → (∀ o, h1.get? a = some o → h2.get? a = some o) → φ h2
/-- the abstract heap is held -/
def HOk (H : Hp) (h : Heap) : Prop := ∀ a o, H a = some o → ObjOk P w H h a o
end

section
variable {P : Program} {w : World} {H H' : Hp} {h h' : Heap} {a : Addr} {o : HO}
theorem ObjOk.lt (x : ObjOk P w H h a o) : a < h.objs.size := by
  cases o with
  | lst xs => obtain ⟨_, _, _, _, e⟩ := x; exact Heap.lt_size e
  | tup xs => obtain ⟨_, _, _, p⟩ := x; exact p.lt
  | dK kvs => obtain ⟨_, _, _, _, o, _, _, e, _⟩ := x; exact Heap.lt_size e
  | dT kvs => obtain ⟨_, _, _, _, o, _, _, e, _⟩ := x; exact Heap.lt_size e
  | set S n => obtain ⟨o, _, _, _, e, _⟩ := x; exact Heap.lt_size e
  | ins C dx fs => obtain ⟨_, _, _, e, _⟩ := x; exact Heap.lt_size e
  | own y => obtain ⟨_, e⟩ := x; exact Heap.lt_size e
  | xd fs => obtain ⟨_, ⟨_, _, _, e, _⟩, _⟩ := x; exact Heap.lt_size e
  | rng lo hi => obtain ⟨_, _, _, e⟩ := x; exact Heap.lt_size e
  | frz ob u => obtain ⟨e, _⟩ := x; exact Heap.lt_size e
  | tbl ps => exact Heap.lt_size (show h.get? a = some _ from x)
  | met f y => exact Heap.lt_size (show h.get? a = some _ from x)
  | ext φ => obtain ⟨_, ⟨_, e⟩, _⟩ := x; exact Heap.lt_size e
theorem Paired.mapP {α β : Type} {F G : α → β → Prop} : ∀ {l₁ : List α} {l₂ : List β}, Paired F l₁ l₂ → (∀ a b, F a b → G a b) → Paired G l₁ l₂
  | _, _, .nil, _ => .nil
  | _, _, .cons r t, f => .cons (f _ _ r) (Paired.mapP t f)
/-- what an object's description leans on: its own object, its own dict, the tuples -/
theorem ObjOk.stay (x : ObjOk P w H h a o) (k : ∀ b u, (b = a ∨ H b = some (.own a)) → h.get? b = some u → h'.get? b = some u)
    (ho : ∀ b, H b = some (.own a) → H' b = some (.own a)) (ht : ∀ b xs, H b = some (.tup xs) → H' b = some (.tup xs)) : ObjOk P w H' h' a o := by
  induction o with
  | lst xs => obtain ⟨z, its, n, r, e⟩ := x; exact ⟨z, its, n, r, k _ _ (.inl rfl) e⟩
  | tup xs => obtain ⟨z, its, r, ob, e, c⟩ := x; exact ⟨z, its, r, ob, k _ _ (.inl rfl) e, c⟩
  | dK kvs => obtain ⟨z, y, vs, r, ob, es, ep, e, c⟩ := x; exact ⟨z, y, vs, r, ob, es, ep, k _ _ (.inl rfl) e, c⟩
  | dT kvs =>
    obtain ⟨z, y, xs, r, ob, es, ep, e, c⟩ := x
    exact ⟨z, y, xs, Paired.mapP r fun p q z => ⟨z.1, ht _ _ z.2.1, z.2.2⟩, ob, es, ep, k _ _ (.inl rfl) e, c⟩
  | set S n => obtain ⟨ob, es, ep, t, e, c⟩ := x; exact ⟨ob, es, ep, t, k _ _ (.inl rfl) e, c⟩
  | ins C dx fs =>
    obtain ⟨d, z, ne, e, mA, ⟨od, es, ep, e2, c⟩, r⟩ := x
    exact ⟨ho _ d, z, ne, k _ _ (.inl rfl) e, mA, ⟨od, es, ep, k _ _ (.inr d) e2, c⟩, r⟩
  | own y => obtain ⟨ob, e⟩ := x; exact ⟨ob, k _ _ (.inl rfl) e⟩
  | xd fs => obtain ⟨mA, ⟨od, es, ep, e, c⟩, r⟩ := x; exact ⟨mA, ⟨od, es, ep, k _ _ (.inl rfl) e, c⟩, r⟩
  | rng lo hi => obtain ⟨t, u, v, e⟩ := x; exact ⟨t, u, v, k _ _ (.inl rfl) e⟩
  | frz ob u ih => obtain ⟨e, q⟩ := x; exact ⟨k _ _ (.inl rfl) e, ih q⟩
  | tbl ps =>
    have e : h.get? a = some { cls := .none, data := .fields ps } := x
    show h'.get? a = some { cls := .none, data := .fields ps }
    exact k a _ (.inl rfl) e
  | met f y =>
    have e : h.get? a = some (PySem.W.methodObj (.ref f) (.ref y)) := x
    show h'.get? a = some (PySem.W.methodObj (.ref f) (.ref y))
    exact k a _ (.inl rfl) e
  | ext φ => obtain ⟨p, ⟨o, e⟩, st⟩ := x; exact ⟨st _ _ p fun o q => k _ _ (.inl rfl) q, ⟨o, k _ _ (.inl rfl) e⟩, st⟩
theorem HOk.lt (x : HOk P w H h) (e : H a = some o) : a < h.objs.size := (x a o e).lt
theorem HOk.fresh (x : HOk P w H h) (e : h.objs.size ≤ a) : H a = none := by
  cases q : H a with
  | none => rfl
  | some u => exact absurd (Nat.lt_of_lt_of_le (x.lt q) e) (Nat.lt_irrefl _)
/-- every object of the heap is kept -/
theorem HOk.kept (x : HOk P w H h) (k : ∀ b u, h.get? b = some u → h'.get? b = some u) : HOk P w H h' := fun a o e =>
  (x a o e).stay (fun b u _ q => k b u q) (fun _ q => q) fun _ _ q => q
/-- a new object is laid and tracked -/
theorem HOk.laid (x : HOk P w H h) (k : ∀ b u, h.get? b = some u → h'.get? b = some u) (hp : h.objs.size ≤ a) (new : ObjOk P w (upd H a o) h' a o) : HOk P w (upd H a o) h' := fun b u e => by
  have hn := x.fresh hp
  by_cases hb : b = a
  · subst hb; rw [upd_same] at e; cases e; exact new
  · rw [upd_ne hb] at e
    exact (x b u e).stay (fun c v _ q => k c v q) (fun c q => by rw [upd_ne (ne_of_none q hn)]; exact q) fun c xs q => by rw [upd_ne (ne_of_none q hn)]; exact q
end

/-- what may be read as u: it is u, or a known u -/
def Rd (H : Hp) (a : Addr) (u : HO) : Prop := H a = some u ∨ ∃ o, H a = some (.frz o u)
theorem Rd.ok {P : Program} {w : World} {H : Hp} {h : Heap} {a : Addr} {u : HO} (r : Rd H a u) (x : HOk P w H h) : ObjOk P w H h a u := by
  rcases r with r | ⟨o, r⟩
  · exact x a u r
  · obtain ⟨_, q⟩ := x a _ r
    exact q
/-- what may be written -/
def Mut : Option HO → Prop
  | some (.lst _) => True
  | some (.dK _) => True
  | some (.dT _) => True
  | some (.set _ _) => True
  | some (.ins _ _ _) => True
  | some (.ext _) => True
  | _ => False
section
variable {P : Program} {w : World} {H : Hp} {h h' : Heap} {x e : Addr} {o' : HO}
/-- the object at e is changed: x itself, or the dict of the instance x -/
theorem HOk.write (ok : HOk P w H h) (mu : Mut (H x)) (he : e = x ∨ H e = some (.own x)) (k : ∀ b u, b ≠ e → h.get? b = some u → h'.get? b = some u) (heo : ∃ u, h'.get? e = some u)
    (new : ObjOk P w (upd H x o') h' x o') : HOk P w (upd H x o') h' := fun b u q => by
  have nown : ∀ c y, H c = some (.own y) → c ≠ x := fun c y r z => by subst z; rw [r] at mu; exact mu
  have ntup : ∀ c xs, H c = some (.tup xs) → c ≠ x := fun c xs r z => by subst z; rw [r] at mu; exact mu
  by_cases hb : b = x
  · subst hb; rw [upd_same] at q; cases q; exact new
  · rw [upd_ne hb] at q
    by_cases hbe : b = e
    · have q' : H b = some (.own x) := by
        rcases he with z | z
        · exact absurd (hbe.trans z) hb
        · rw [hbe]; exact z
      rw [q] at q'; cases q'
      obtain ⟨v, hv⟩ := heo
      exact ⟨v, by rw [hbe]; exact hv⟩
    · refine (ok b u q).stay (fun c v hc r => k c v ?_ r) (fun c r => by rw [upd_ne (nown c b r)]; exact r) fun c xs r => by rw [upd_ne (ntup c xs r)]; exact r
      rcases hc with rfl | hc
      · exact hbe
      · rintro rfl
        rcases he with z | z
        · exact nown c b hc z
        · rw [hc] at z; cases z; exact hb rfl
end

/-! ### kept unless tracked; of the frames at fs (the callers') the slots may change (an exception that passes writes there); of the records at ex (iterators) nothing is said -/
structure Un (fs ex : List Addr) (H H' : Hp) (h h' : Heap) : Prop where
  keep : ∀ b o, h.get? b = some o → H b = none → b ∉ fs → b ∉ ex → h'.get? b = some o
  slot : ∀ b o, h.get? b = some o → H b = none → b ∈ fs → b ∉ ex → ∃ sl, h'.get? b = some { o with slots := sl }
  free : ∀ b o, h.get? b = some o → H b = none → b ∉ ex → H' b = none
  there : ∀ b o, h.get? b = some o → b ∉ ex → ∃ o', h'.get? b = some o'
  tups : ∀ b xs, H b = some (.tup xs) → H' b = some (.tup xs)
  frzs : ∀ b o u, H b = some (.frz o u) → H' b = some (.frz o u)
  tbls : ∀ b ps, H b = some (.tbl ps) → ∃ more, H' b = some (.tbl (ps ++ more))
section
variable {fs fs' ex ex' : List Addr} {H H1 H2 : Hp} {h h1 h2 h' : Heap} {a x e : Addr} {o : HO}
theorem Un.any (u : Un fs ex H H1 h h1) {b : Addr} {ob : Obj} (q : h.get? b = some ob) (n : H b = none) (hx : b ∉ ex) : ∃ sl, h1.get? b = some { ob with slots := sl } := by
  by_cases hb : b ∈ fs
  · exact u.slot b ob q n hb hx
  · exact ⟨ob.slots, u.keep b ob q n hb hx⟩
theorem Un.kept (k : ∀ b u, h.get? b = some u → h'.get? b = some u) : Un fs ex H H h h' :=
  ⟨fun b ob q _ _ _ => k b ob q, fun b ob q _ _ _ => ⟨ob.slots, k b ob q⟩, fun _ _ _ n _ => n, fun b ob q _ => ⟨ob, k b ob q⟩, fun _ _ q => q, fun _ _ _ q => q, fun _ ps q => ⟨#[], by rw [q]; simp⟩⟩
theorem Un.refl : Un fs ex H H h h := Un.kept fun _ _ q => q
theorem Un.laid (k : ∀ b u, h.get? b = some u → h'.get? b = some u) (hp : h.objs.size ≤ a) (hn : H a = none) : Un fs ex H (upd H a o) h h' where
  keep := fun b u q _ _ _ => k b u q
  slot := fun b u q _ _ _ => ⟨u.slots, k b u q⟩
  free := fun b u q n _ => by rw [upd_ne (Nat.ne_of_lt (Nat.lt_of_lt_of_le (Heap.lt_size q) hp))]; exact n
  there := fun b u q _ => ⟨u, k b u q⟩
  tups := fun b xs q => by rw [upd_ne (ne_of_none q hn)]; exact q
  frzs := fun b u xs q => by rw [upd_ne (ne_of_none q hn)]; exact q
  tbls := fun b ps q => ⟨#[], by rw [upd_ne (ne_of_none q hn), q]; simp⟩
theorem Un.write (mu : Mut (H x)) (he : e = x ∨ H e = some (.own x)) (k : ∀ b u, b ≠ e → h.get? b = some u → h'.get? b = some u) (heo : ∃ u, h'.get? e = some u) : Un fs ex H (upd H x o) h h' := by
  have hx : ∀ b, H b = none → b ≠ x := fun b n z => by subst z; rw [n] at mu; exact mu
  have hb : ∀ b, H b = none → b ≠ e := fun b n z => by
    subst z
    rcases he with r | r
    · exact hx b n r
    · rw [n] at r; cases r
  have hm : ∀ b u, H b = some u → ¬ Mut (some u) → b ≠ x := fun b u q nm z => by subst z; rw [q] at mu; exact nm mu
  refine ⟨fun b u q n _ _ => k b u (hb b n) q, fun b u q n _ _ => ⟨u.slots, k b u (hb b n) q⟩, fun b u q n _ => by rw [upd_ne (hx b n)]; exact n, fun b u q _ => ?_,
    fun b xs q => by rw [upd_ne (hm b _ q fun z => z)]; exact q, fun b u xs q => by rw [upd_ne (hm b _ q fun z => z)]; exact q, fun b ps q => ⟨#[], by rw [upd_ne (hm b _ q fun z => z), q]; simp⟩⟩
  by_cases hbe : b = e
  · subst hbe; exact heo
  · exact ⟨u, k b u hbe q⟩
end

/-! ### the heap without what is tracked -/
def trk (h : Heap) (H : Hp) : List Addr := (List.range h.objs.size).filter fun a => (H a).isSome
def hidT (h : Heap) (H : Hp) : Heap := PySem.W.hideAll h (trk h H)
theorem hidT_size (h : Heap) (H : Hp) : (hidT h H).objs.size = h.objs.size := PySem.W.hideAll_size _ _
theorem hidT_get {h : Heap} {H : Hp} {b : Addr} {o : Obj} (e : h.get? b = some o) (n : H b = none) : (hidT h H).get? b = some o :=
  PySem.W.hideAll_get _ e fun hm => by
    have q : (H b).isSome = true := (List.mem_filter.mp hm).2
    rw [n] at q; simp at q
theorem of_hidT {h : Heap} {H : Hp} {b : Addr} {o : Obj} (e : (hidT h H).get? b = some o) : h.get? b = some o ∧ H b = none := by
  have e' : h.get? b = some o := PySem.W.of_hideAll (trk h H) e
  refine ⟨e', ?_⟩
  cases q : H b with
  | none => rfl
  | some x =>
    have hm : b ∈ trk h H := List.mem_filter.mpr ⟨List.mem_range.mpr (Heap.lt_size e'), by simp [q]⟩
    have z : (hidT h H).get? b = none := PySem.W.hideAll_none (trk h H) hm
    rw [z] at e; cases e

/-! ### OpenK's ledger, filled with every new object but one -/
end L2

namespace L2
open PySem PySem.Spec PyProof.Rows

/-- the module's facts, over the base: the heap at the law's entry without what is tracked there -/
structure Mod (K : PySem.W.Frag) (mg : Str → Option Value) (base : Heap) : Prop where
  kin : K.In base
  glob : base.Ns mainGlobals mg
  blt : ∃ mb, base.Ns builtinsNs mb ∧ ∀ x : Str, x ≠ "__name__" → mb x = bootBuiltins x
  nolimit : base.NoLimit

/-- the context: a def's body (or a comprehension's block) running. base: fixed through the whole law; s₀, H₀: the entry; outer: the frames whose slots others may change (a def's callers); stack: all frames that run;
   ex: iterators that were made ahead of the entry and are walked here (a comprehension's); fn: the names whose cells were made at the entry (a def: all; a comprehension's block: its own); calm: not within an except suite; pn: pins that every state bears; xe: what is wanted of an exception that leaves the code -/
structure Cx where
  prog : Program
  w : World
  K : PySem.W.Frag
  mg : Str → Option Value
  base : Heap
  A : Around
  N : List Str
  s₀ : Shared
  H₀ : Hp
  env : Env
  outer : List Env
  stack : List Env
  ex : List Addr
  fn : Str → Bool
  calm : Bool
  pn : List (Addr × Obj)
  xe : Value → Shared → Prop
/-- the callers' frames -/
def frs (l : List Env) : List Addr := l.filterMap (·.frame)
abbrev Cx.fs (X : Cx) : List Addr := frs X.outer

def Vis (sc : Scope) (x : Str) : Prop := sc.names.lookup x = some .local ∨ sc.names.lookup x = some .cell ∨ sc.names.lookup x = some .free
def Loc (sc : Scope) (x : Str) : Prop := sc.names.lookup x = some .local ∨ sc.names.lookup x = some .cell
def Look (env : Env) (h : Heap) (m : Str → Option Value) (x : Str) (u : Value) : Prop :=
  (env.kindOf x = some .local ∧ m x = some u) ∨ ((env.kindOf x = some .cell ∨ env.kindOf x = some .free) ∧ ∃ c, env.cells.lookup x = some c ∧ h.IsCell c (some u))

structure Cx.Ok (X : Cx) : Prop where
  mod : Mod X.K X.mg X.base
  kind : X.env.scope.kind = .function
  glob : X.env.globals = mainGlobals
  blt : X.env.builtins = builtinsNs
  above : X.s₀.heap.objs.size ≤ X.env.locals
  inj : ∀ x y c, X.env.cells.lookup x = some c → X.env.cells.lookup y = some c → x = y
  has : ∀ x, (X.env.kindOf x = some .cell ∨ X.env.kindOf x = some .free) → ∃ c, X.env.cells.lookup x = some c
  cab : ∀ x c, X.fn x = true → X.env.cells.lookup x = some c → X.s₀.heap.objs.size ≤ c
  hd : X.calm = true → X.A.handled = none
  frames : X.A.frames = some X.stack
  stk : X.stack = X.outer ∨ (X.stack = X.env :: X.outer ∧ X.env.frame = some X.env.locals)
  exf : ∀ b ∈ X.ex, b ≠ X.env.locals ∧ ∀ x c, X.env.cells.lookup x = some c → c ≠ b
  bs : ∀ b o, X.base.get? b = some o → X.s₀.heap.get? b = some o ∧ X.H₀ b = none
  bsz : X.base.objs.size ≤ X.s₀.heap.objs.size
  noex : ∀ b o, X.base.get? b = some o → b ∉ X.ex
  exfs : ∀ b ∈ X.ex, b ∉ X.fs
  funs : X.s₀.heap.FunFrames X.base X.outer
  frf : ∀ b ∈ X.fs, X.H₀ b = none

structure Inv (X : Cx) (pins : List (Addr × Obj)) (σ : List (Option V)) (H : Hp) (s : Shared) : Prop where
  ok : X.Ok
  os : s.os = X.s₀.os
  bare : AllBare s.gens
  base : Un X.fs X.ex X.H₀ H X.s₀.heap s.heap
  loc : ∃ m, s.heap.Ns X.env.locals m ∧ ∀ (i : Nat) (x : Str) (v : V), X.N[i]? = some x → σ[i]? = some (some v) → Vis X.env.scope x → ∃ u, RelV v u ∧ Look X.env s.heap m x u
  cell : ∀ x c, X.env.cells.lookup x = some c → ∃ v, s.heap.IsCell c v
  free : H X.env.locals = none
  freeC : ∀ x c, X.env.cells.lookup x = some c → H c = none
  pin : ∀ p ∈ X.pn ++ pins, s.heap.get? p.1 = some p.2 ∧ H p.1 = none ∧ p.1 ≠ X.env.locals ∧ p.1 ∉ X.fs ∧ ∀ v, p.2.data ≠ .cell v
  hok : HOk X.prog X.w H s.heap
  len : σ.length = X.N.length

section
variable {X : Cx} {pins : List (Addr × Obj)} {σ : List (Option V)} {H H' : Hp} {s : Shared} {h' : Heap}

theorem Cx.Ok.nofr (ok : X.Ok) {b : Addr} {o : Obj} (e : X.base.get? b = some o) : b ∉ X.fs := fun hb => by
  have := (ok.funs.mem hb).1
  rw [e] at this; cases this
theorem Inv.bs (I : Inv X pins σ H s) : ∀ b o, X.base.get? b = some o → s.heap.get? b = some o ∧ H b = none := fun b o e =>
  ⟨I.base.keep b o (I.ok.bs b o e).1 (I.ok.bs b o e).2 (I.ok.nofr e) (I.ok.noex b o e), I.base.free b o (I.ok.bs b o e).1 (I.ok.bs b o e).2 (I.ok.noex b o e)⟩
theorem Inv.bk (I : Inv X pins σ H s) : ∀ b o, X.base.get? b = some o → s.heap.get? b = some o := fun b o e => (I.bs b o e).1
theorem Inv.mod (I : Inv X pins σ H s) : Mod X.K X.mg X.base := I.ok.mod
theorem Inv.kIn (I : Inv X pins σ H s) : X.K.In s.heap := I.ok.mod.kin.keeps I.bk
theorem Inv.lt (I : Inv X pins σ H s) : X.env.locals < s.heap.objs.size := let ⟨_, hn, _⟩ := I.loc; hn.lt
theorem Inv.sz (I : Inv X pins σ H s) : X.s₀.heap.objs.size ≤ s.heap.objs.size := Nat.le_trans I.ok.above (Nat.le_of_lt I.lt)
theorem Inv.nofs (I : Inv X pins σ H s) {a : Addr} (h : s.heap.objs.size ≤ a) : a ∉ X.fs := fun hb => by
  obtain ⟨_, o, ho, _⟩ := I.ok.funs.mem hb
  exact absurd (Nat.lt_of_lt_of_le (Heap.lt_size ho) (Nat.le_trans I.sz h)) (Nat.lt_irrefl _)
theorem Inv.cne (I : Inv X pins σ H s) : ∀ x c, X.env.cells.lookup x = some c → c ≠ X.env.locals := fun x c e z => by
  obtain ⟨v, o, ho, hd⟩ := I.cell x c e
  obtain ⟨m, ⟨o', es, ep, ho', hd', _⟩, _⟩ := I.loc
  rw [z, ho'] at ho; cases ho; rw [hd'] at hd; cases hd
theorem Inv.funs (I : Inv X pins σ H s) : s.heap.FunFrames X.base X.outer := by
  have all : ∀ (l : List Env), (∀ b ∈ frs l, b ∈ X.fs) → X.s₀.heap.FunFrames X.base l → s.heap.FunFrames X.base l := by
    intro l
    induction l with
    | nil => intro _ _; trivial
    | cons env r ih =>
      intro hs hl
      obtain ⟨hk, ⟨L, o, hf, hn, ho, hd⟩, hr⟩ := hl
      have hL : L ∈ X.fs := hs L (by unfold frs; rw [List.filterMap_cons, hf]; exact List.mem_cons_self)
      obtain ⟨sl, e⟩ := I.base.slot L o ho (I.ok.frf L hL) hL fun z => I.ok.exfs L z hL
      exact ⟨hk, ⟨L, _, hf, hn, e, hd⟩, ih (fun b hb => hs b (by unfold frs; rw [List.filterMap_cons, hf]; exact List.mem_cons_of_mem _ hb)) hr⟩
  exact all X.outer (fun _ hb => hb) I.ok.funs

/-- the frames that run, for a call -/
theorem Inv.stack (I : Inv X pins σ H s) : s.heap.FunFrames X.base X.stack := by
  rcases I.ok.stk with e | ⟨e, hf⟩
  · rw [e]; exact I.funs
  · rw [e]
    obtain ⟨m, hn, _⟩ := I.loc
    refine .cons (by rw [I.ok.kind]; decide) hf hn ?_ I.funs
    exact Heap.get?_none_of_le (Nat.le_trans I.ok.bsz I.ok.above)
theorem Inv.stkSub (I : Inv X pins σ H s) : ∀ b ∈ frs X.stack, b ∈ X.env.locals :: X.fs := fun b hb => by
  rcases I.ok.stk with e | ⟨e, hf⟩
  · rw [e] at hb; exact List.mem_cons_of_mem _ hb
  · rw [e] at hb
    unfold frs at hb
    rw [List.filterMap_cons, hf] at hb
    exact hb
theorem Inv.stkFree (I : Inv X pins σ H s) : ∀ b ∈ frs X.stack, H b = none := fun b hb => by
  rcases List.mem_cons.mp (I.stkSub b hb) with e | hb
  · rw [e]; exact I.free
  · obtain ⟨_, o, ho, _⟩ := I.ok.funs.mem hb
    exact I.base.free b o ho (I.ok.frf b hb) fun z => I.ok.exfs b z hb

/-- THE STEP: the untracked objects but the frame and the records at ch are kept (the callers' frames up to slots), the frame's map is kept, the new abstract heap is held -/
theorem Inv.step {g' : Array GenState} {t' : Nat} {d' : Drawn} {ch : List Addr} (I : Inv X pins σ H s)
    (hch : ∀ b ∈ ch, (b ∈ X.ex ∨ X.s₀.heap.objs.size ≤ b) ∧ b ≠ X.env.locals ∧ (∀ x c, X.env.cells.lookup x = some c → c ≠ b) ∧ ∀ p ∈ X.pn ++ pins, p.1 ≠ b)
    (keep : ∀ b o, b ≠ X.env.locals → b ∉ X.fs → b ∉ ch → s.heap.get? b = some o → H b = none → h'.get? b = some o)
    (slot : ∀ b o, b ≠ X.env.locals → b ∈ X.fs → b ∉ ch → s.heap.get? b = some o → H b = none → ∃ sl, h'.get? b = some { o with slots := sl }) (free : ∀ b o, b ∉ ch → s.heap.get? b = some o → H b = none → H' b = none)
    (there : ∀ b o, b ∉ ch → s.heap.get? b = some o → ∃ o', h'.get? b = some o')
    (tups : ∀ b xs, H b = some (.tup xs) → H' b = some (.tup xs)) (frzs : ∀ b o u, H b = some (.frz o u) → H' b = some (.frz o u)) (tbls : ∀ b ps, H b = some (.tbl ps) → ∃ more, H' b = some (.tbl (ps ++ more)))
    (ns : ∀ m, s.heap.Ns X.env.locals m → h'.Ns X.env.locals m) (hok : HOk X.prog X.w H' h') (hg : AllBare g') :
    Inv X pins σ H' { s with heap := h', gens := g', drawn := d', toks := t' } := by
  have neL : ∀ b o, X.s₀.heap.get? b = some o → b ≠ X.env.locals := fun b o e => Nat.ne_of_lt (Nat.lt_of_lt_of_le (Heap.lt_size e) I.ok.above)
  have neC : ∀ b o, X.s₀.heap.get? b = some o → b ∉ X.ex → b ∉ ch := fun b o e hx hb => by
    rcases (hch b hb).1 with z | z
    · exact hx z
    · exact absurd (Nat.lt_of_lt_of_le (Heap.lt_size e) z) (Nat.lt_irrefl _)
  have cellK : ∀ x c, X.env.cells.lookup x = some c → ∀ v, s.heap.IsCell c v → h'.IsCell c v := fun x c e v ⟨o, ho, hd⟩ => by
    have nch : c ∉ ch := fun z => (hch c z).2.2.1 x c e rfl
    by_cases hc : c ∈ X.fs
    · obtain ⟨sl, q⟩ := slot c o (I.cne x c e) hc nch ho (I.freeC x c e)
      exact ⟨_, q, hd⟩
    · exact ⟨o, keep c o (I.cne x c e) hc nch ho (I.freeC x c e), hd⟩
  refine ⟨I.ok, I.os, hg, ⟨fun b o e n hb hx => ?_, fun b o e n hb hx => ?_, fun b o e n hx => ?_, fun b o e hx => ?_, fun b xs e => tups b xs (I.base.tups b xs e), fun b o xs e => frzs b o xs (I.base.frzs b o xs e), fun b ps e => ?_⟩, ?_, fun x c e => ?_, ?_, fun x c e => ?_, fun p hp => ?_, hok, I.len⟩
  · exact keep b o (neL b o e) hb (neC b o e hx) (I.base.keep b o e n hb hx) (I.base.free b o e n hx)
  · obtain ⟨sl, e1⟩ := I.base.slot b o e n hb hx
    obtain ⟨sl', e2⟩ := slot b _ (neL b o e) hb (neC b o e hx) e1 (I.base.free b o e n hx)
    exact ⟨sl', e2⟩
  · obtain ⟨o', e1⟩ := I.base.there b o e hx
    exact free b o' (neC b o e hx) e1 (I.base.free b o e n hx)
  · obtain ⟨o', e1⟩ := I.base.there b o e hx
    exact there b o' (neC b o e hx) e1
  · obtain ⟨m1, e1⟩ := I.base.tbls b ps e
    obtain ⟨m2, e2⟩ := tbls b _ e1
    exact ⟨m1 ++ m2, by rw [e2, Array.append_assoc]⟩
  · obtain ⟨m, hn, hl⟩ := I.loc
    refine ⟨m, ns m hn, fun i x v e1 e2 e3 => ?_⟩
    obtain ⟨u, r, l⟩ := hl i x v e1 e2 e3
    refine ⟨u, r, ?_⟩
    rcases l with l | ⟨k, c, e, z⟩
    · exact .inl l
    · exact .inr ⟨k, c, e, cellK x c e _ z⟩
  · obtain ⟨v, z⟩ := I.cell x c e
    exact ⟨v, cellK x c e v z⟩
  · obtain ⟨m, ⟨o, _, _, ho, _⟩, _⟩ := I.loc
    exact free _ o (fun z => (hch _ z).2.1 rfl) ho I.free
  · obtain ⟨v, o, ho, hd⟩ := I.cell x c e
    exact free c o (fun z => (hch c z).2.2.1 x c e rfl) ho (I.freeC x c e)
  · obtain ⟨e, n, ne, nf, d⟩ := I.pin p hp
    have nch : p.1 ∉ ch := fun z => (hch p.1 z).2.2.2 p hp rfl
    exact ⟨keep p.1 p.2 ne nf nch e n, free p.1 p.2 nch e n, ne, nf, d⟩
/-- .. where the frame's own object is kept too -/
theorem Inv.un {t' : Nat} (I : Inv X pins σ H s) (u : Un X.fs [] H H' s.heap h') (hok : HOk X.prog X.w H' h') : Inv X pins σ H' { s with heap := h', toks := t' } := by
  obtain ⟨m, ⟨o, es, ep, ho, r⟩, _⟩ := id I.loc
  obtain ⟨sl, hL⟩ := u.any ho I.free (by simp)
  exact I.step (g' := s.gens) (d' := s.drawn) (ch := []) (fun _ z => nomatch z) (fun b o _ hb _ e n => u.keep b o e n hb (by simp)) (fun b o _ hb _ e n => u.slot b o e n hb (by simp)) (fun b o _ e n => u.free b o e n (by simp)) (fun b o _ e => u.there b o e (by simp)) u.tups u.frzs u.tbls (fun m' hm => by
    obtain ⟨o', es', ep', ho', r'⟩ := hm
    rw [ho] at ho'; cases ho'
    exact ⟨_, es', ep', hL, r'⟩) hok I.bare
/-- behind a call (or a comprehension's block): the slots of this frame may have changed too, the records at ch may have turned -/
theorem Inv.call {g' : Array GenState} {t' : Nat} {d' : Drawn} {ch : List Addr} (I : Inv X pins σ H s) (u : Un (frs X.stack) ch H H' s.heap h') (hok : HOk X.prog X.w H' h') (hg : AllBare g')
    (hch : ∀ b ∈ ch, (b ∈ X.ex ∨ X.s₀.heap.objs.size ≤ b) ∧ b ≠ X.env.locals ∧ (∀ x c, X.env.cells.lookup x = some c → c ≠ b) ∧ ∀ p ∈ X.pn ++ pins, p.1 ≠ b) :
    Inv X pins σ H' { s with heap := h', gens := g', drawn := d', toks := t' } := by
  obtain ⟨m, ⟨o, es, ep, ho, r⟩, _⟩ := id I.loc
  obtain ⟨sl, hL⟩ := u.any ho I.free fun z => (hch _ z).2.1 rfl
  exact I.step (ch := ch) hch (fun b o hL hb hc e n => u.keep b o e n (fun z => (List.mem_cons.mp (I.stkSub b z)).elim hL hb) hc) (fun b o _ _ hc e n => u.any e n hc) (fun b o hc e n => u.free b o e n hc) (fun b o hc e => u.there b o e hc) u.tups u.frzs u.tbls (fun m' hm => by
    obtain ⟨o', es', ep', ho', r'⟩ := hm
    rw [ho] at ho'; cases ho'
    exact ⟨_, es', ep', hL, r'⟩) hok hg
/-- an untracked record of ours (an iterator) has turned -/
theorem Inv.turned {t' : Nat} {it : Addr} (I : Inv X pins σ H s) (k : ∀ b o, b ≠ it → s.heap.get? b = some o → h'.get? b = some o) (hn : H it = none) (hL : it ≠ X.env.locals)
    (h1 : it ∈ X.ex ∨ X.s₀.heap.objs.size ≤ it) (h2 : ∀ x c, X.env.cells.lookup x = some c → c ≠ it) (h3 : ∀ p ∈ X.pn ++ pins, p.1 ≠ it) : Inv X pins σ H { s with heap := h', toks := t' } := by
  have nit : ∀ b u, H b = some u → b ≠ it := fun b u e z => by rw [z, hn] at e; cases e
  refine I.step (g' := s.gens) (d' := s.drawn) (ch := [it]) (fun b hb => ?_) (fun b o _ _ hc e _ => k b o (fun z => hc (by simp [z])) e) (fun b o _ _ hc e _ => ⟨o.slots, k b o (fun z => hc (by simp [z])) e⟩) (fun _ _ _ _ n => n)
    (fun b o hc e => ⟨o, k b o (fun z => hc (by simp [z])) e⟩) (fun _ _ e => e) (fun _ _ _ e => e) (fun b ps e => ⟨#[], by rw [e]; simp⟩) (fun m hm => ?_) (fun b u e => ?_) I.bare
  · have e : b = it := by simpa using hb
    subst e
    exact ⟨h1, hL, h2, h3⟩
  · obtain ⟨o, es, ep, ho, r⟩ := hm
    exact ⟨o, es, ep, k _ o (Ne.symm hL) ho, r⟩
  · refine (I.hok b u e).stay (fun c v hc q => k c v ?_ q) (fun _ q => q) fun _ _ q => q
    rcases hc with z | z
    · rw [z]; exact nit b u e
    · exact nit c _ z
theorem Inv.tok (I : Inv X pins σ H s) (t : Nat) : Inv X pins σ H { s with toks := t } := I.un (h' := s.heap) (t' := t) Un.refl I.hok
/-- all objects kept -/
theorem Inv.kept {t' : Nat} (I : Inv X pins σ H s) (k : ∀ b u, s.heap.get? b = some u → h'.get? b = some u) : Inv X pins σ H { s with heap := h', toks := t' } := I.un (Un.kept k) (I.hok.kept k)
/-- a new object laid and tracked -/
theorem Inv.laid {a : Addr} {o : HO} {t' : Nat} (I : Inv X pins σ H s) (k : ∀ b u, s.heap.get? b = some u → h'.get? b = some u) (hp : s.heap.objs.size ≤ a) (new : ObjOk X.prog X.w (upd H a o) h' a o) :
    Inv X pins σ (upd H a o) { s with heap := h', toks := t' } := I.un (Un.laid k hp (I.hok.fresh hp)) (I.hok.laid k hp new)
/-- an object written -/
theorem Inv.write {x e : Addr} {o : HO} {t' : Nat} (I : Inv X pins σ H s) (mu : Mut (H x)) (he : e = x ∨ H e = some (.own x)) (k : ∀ b u, b ≠ e → s.heap.get? b = some u → h'.get? b = some u) (heo : ∃ u, h'.get? e = some u)
    (new : ObjOk X.prog X.w (upd H x o) h' x o) : Inv X pins σ (upd H x o) { s with heap := h', toks := t' } := I.un (Un.write mu he k heo) (I.hok.write mu he k heo new)
theorem Inv.pins_of {pins' : List (Addr × Obj)} (I : Inv X pins σ H s) (h : ∀ p ∈ pins', s.heap.get? p.1 = some p.2 ∧ H p.1 = none ∧ p.1 ≠ X.env.locals ∧ p.1 ∉ X.fs ∧ ∀ v, p.2.data ≠ .cell v) : Inv X pins' σ H s :=
  ⟨I.ok, I.os, I.bare, I.base, I.loc, I.cell, I.free, I.freeC, fun p hp => (List.mem_append.mp hp).elim (fun z => I.pin p (List.mem_append_left _ z)) (h p), I.hok, I.len⟩

theorem nodup_ix {N : List Str} (hN : N.Nodup) {i j : Nat} {x : Str} (a : N[i]? = some x) (b : N[j]? = some x) : i = j := by
  obtain ⟨h1, e1⟩ := List.getElem?_eq_some_iff.mp a
  obtain ⟨h2, e2⟩ := List.getElem?_eq_some_iff.mp b
  exact (List.getElem_inj hN).mp (e1.trans e2.symm)

/-- a name is stored; what changed -/
theorem store_ok2 {M : Model} {A : Around} {E : Value → Shared → Prop} {i : Nat} {x : Str} {v : V} {u : Value} {Q : Unit → Shared → Prop} (I : Inv X pins σ H s) (hN : X.N.Nodup) (hi : X.N[i]? = some x) (hx : Loc X.env.scope x) (r : RelV v u)
    (h : ∀ s', Inv X pins (σ.set i (some v)) H s' → (∃ a, Heap.SameBut a s.heap s'.heap ∧ (a = X.env.locals ∨ X.env.cells.lookup x = some a)) → Q () s') (hf : X.fn x = true ∨ X.env.scope.names.lookup x = some .local := by first | exact .inl rfl | exact .inr rfl | assumption) : wpAny M A (storeName X.env x u) Q E s := by
  obtain ⟨m, hn, hl⟩ := id I.loc
  have hcls : (X.env.scope.kind == .class || (X.env.scope.kind == .module && X.env.locals != X.env.globals)) = false := by rw [I.ok.kind]; rfl
  have hiσ : i < σ.length := by rw [I.len]; exact (List.getElem?_eq_some_iff.mp hi).1
  have cne := I.cne
  have tracked : ∀ {a : Addr} {h' : Heap}, (∃ o, s.heap.get? a = some o ∧ H a = none) → Heap.SameBut a s.heap h' → HOk X.prog X.w H h' := fun {a h'} ha hs b ob e => by
    obtain ⟨_, _, hfree⟩ := ha
    refine (I.hok b ob e).stay (fun c w' hc q => (hs.2 c ?_).trans q) (fun _ q => q) fun _ _ q => q
    rintro rfl
    rcases hc with rfl | hc
    · rw [hfree] at e; cases e
    · rw [hfree] at hc; cases hc
  rcases hx with hk | hk
  · refine wpAny_storeName_local hk hn (fun h' hn' hs => ?_) hcls
    obtain ⟨oL, _, _, hoL, _⟩ := id hn
    refine h _ ⟨I.ok, I.os, I.bare, ⟨fun b o e n hb hx => ?_, fun b o e n hb hx => ?_, I.base.free, fun b o e hx => ?_, I.base.tups, I.base.frzs, I.base.tbls⟩, ⟨_, hn', fun j y v' e1 e2 e3 => ?_⟩, fun y c e => ?_, I.free, I.freeC, fun p hp => ?_, tracked ⟨oL, hoL, I.free⟩ hs, by simpa using I.len⟩ ⟨_, hs, .inl rfl⟩
    · exact (hs.2 b (Nat.ne_of_lt (Nat.lt_of_lt_of_le (Heap.lt_size e) I.ok.above))).trans (I.base.keep b o e n hb hx)
    · obtain ⟨sl, e1⟩ := I.base.slot b o e n hb hx
      exact ⟨sl, (hs.2 b (Nat.ne_of_lt (Nat.lt_of_lt_of_le (Heap.lt_size e) I.ok.above))).trans e1⟩
    · obtain ⟨o', e1⟩ := I.base.there b o e hx
      exact ⟨o', (hs.2 b (Nat.ne_of_lt (Nat.lt_of_lt_of_le (Heap.lt_size e) I.ok.above))).trans e1⟩
    · by_cases hj : j = i
      · subst hj
        rw [hi] at e1; cases e1
        rw [List.getElem?_set_self hiσ] at e2
        cases e2
        exact ⟨u, r, .inl ⟨hk, by simp⟩⟩
      · rw [List.getElem?_set_ne (Ne.symm hj)] at e2
        obtain ⟨u', r', q⟩ := hl j y v' e1 e2 e3
        refine ⟨u', r', ?_⟩
        rcases q with ⟨k, e⟩ | ⟨k, c, e, z⟩
        · refine .inl ⟨k, ?_⟩
          have : y ≠ x := fun e => hj (nodup_ix hN e1 (e ▸ hi))
          simp [this, e]
        · exact .inr ⟨k, c, e, z.sameBut hs (cne y c e)⟩
    · obtain ⟨w', z⟩ := I.cell y c e
      exact ⟨w', z.sameBut hs (cne y c e)⟩
    · obtain ⟨e, n, ne, nf, d⟩ := I.pin p hp
      exact ⟨(hs.2 p.1 ne).trans e, n, ne, nf, d⟩
  · have hfn : X.fn x = true := by
      rcases hf with z | z
      · exact z
      · rw [z] at hk; cases hk
    obtain ⟨c, hc⟩ := I.ok.has x (.inl hk)
    obtain ⟨w', z⟩ := I.cell x c hc
    refine wpAny_storeName_cell I.ok.kind hk hc z (fun h' hc' hs => ?_)
    obtain ⟨oc, hoc, hocd⟩ := id z
    refine h { s with heap := h' } ⟨I.ok, I.os, I.bare, ⟨fun b o e n hb hx => ?_, fun b o e n hb hx => ?_, I.base.free, fun b o e hx => ?_, I.base.tups, I.base.frzs, I.base.tbls⟩, ⟨m, hn.sameBut hs (Ne.symm (cne x c hc)), fun j y v' e1 e2 e3 => ?_⟩, fun y c' e => ?_, I.free, I.freeC, fun p hp => ?_, tracked ⟨oc, hoc, I.freeC x c hc⟩ hs, by simpa using I.len⟩ ⟨c, hs, .inr hc⟩
    · exact (hs.2 b (Nat.ne_of_lt (Nat.lt_of_lt_of_le (Heap.lt_size e) (I.ok.cab x c hfn hc)))).trans (I.base.keep b o e n hb hx)
    · obtain ⟨sl, e1⟩ := I.base.slot b o e n hb hx
      exact ⟨sl, (hs.2 b (Nat.ne_of_lt (Nat.lt_of_lt_of_le (Heap.lt_size e) (I.ok.cab x c hfn hc)))).trans e1⟩
    · obtain ⟨o', e1⟩ := I.base.there b o e hx
      exact ⟨o', (hs.2 b (Nat.ne_of_lt (Nat.lt_of_lt_of_le (Heap.lt_size e) (I.ok.cab x c hfn hc)))).trans e1⟩
    · by_cases hj : j = i
      · subst hj
        rw [hi] at e1; cases e1
        rw [List.getElem?_set_self hiσ] at e2
        cases e2
        exact ⟨u, r, .inr ⟨.inl hk, c, hc, hc'⟩⟩
      · rw [List.getElem?_set_ne (Ne.symm hj)] at e2
        obtain ⟨u', r', q⟩ := hl j y v' e1 e2 e3
        refine ⟨u', r', ?_⟩
        rcases q with q | ⟨k, c', e, z'⟩
        · exact .inl q
        · refine .inr ⟨k, c', e, z'.sameBut hs ?_⟩
          rintro rfl
          exact hj (nodup_ix hN e1 (I.ok.inj _ _ _ e hc ▸ hi))
    · by_cases hcc : c' = c
      · subst hcc; exact ⟨_, hc'⟩
      · obtain ⟨w2, z2⟩ := I.cell y c' e
        exact ⟨w2, z2.sameBut hs hcc⟩
    · obtain ⟨e, n, ne, nf, d⟩ := I.pin p hp
      refine ⟨(hs.2 p.1 ?_).trans e, n, ne, nf, d⟩
      intro q
      rw [q, hoc] at e
      have q' : oc = p.2 := Option.some.inj e
      exact d w' (by rw [← q']; exact hocd)
theorem store_ok {M : Model} {A : Around} {E : Value → Shared → Prop} {i : Nat} {x : Str} {v : V} {u : Value} {Q : Unit → Shared → Prop} (I : Inv X pins σ H s) (hN : X.N.Nodup) (hi : X.N[i]? = some x) (hx : Loc X.env.scope x) (r : RelV v u)
    (h : ∀ s', Inv X pins (σ.set i (some v)) H s' → Q () s') (hf : X.fn x = true ∨ X.env.scope.names.lookup x = some .local := by first | exact .inl rfl | exact .inr rfl | assumption) : wpAny M A (storeName X.env x u) Q E s :=
  store_ok2 I hN hi hx r (fun s' I' _ => h s' I') hf
/-- behind a call or a block, the state as it is -/
theorem Inv.call' {s' : Shared} {ch : List Addr} (I : Inv X pins σ H s) (ho : s'.os = s.os) (u : Un (frs X.stack) ch H H' s.heap s'.heap) (hok : HOk X.prog X.w H' s'.heap) (hg : AllBare s'.gens)
    (hch : ∀ b ∈ ch, (b ∈ X.ex ∨ X.s₀.heap.objs.size ≤ b) ∧ b ≠ X.env.locals ∧ (∀ x c, X.env.cells.lookup x = some c → c ≠ b) ∧ ∀ p ∈ X.pn ++ pins, p.1 ≠ b) : Inv X pins σ H' s' := by
  obtain ⟨h', g', d', t', o'⟩ := s'
  have e : o' = s.os := ho
  subst e
  exact I.call (g' := g') (t' := t') (d' := d') u hok hg hch
end

/-! ### the judgements -/
/-- an exception: its class, its own dict's address (where it has one), the abstract heap behind it -/
abbrev XK := Value → Option Addr → Hp → Prop
abbrev St := List (Option V)
abbrev VK := V → Hp → Prop
/-- an expression's reading; a test's; an argument list's -/
abbrev TE := St → Hp → VK → Prop
abbrev TT := St → Hp → (Bool → Hp → Prop) → Prop
abbrev TA := St → Hp → (List V → Hp → Prop) → Prop
/-- what is wanted behind a statement -/
structure Ends where
  nx : St → Hp → Prop
  rt : VK
  bk : St → Hp → Prop := fun _ _ => False
  ct : St → Hp → Prop := fun _ _ => False
abbrev TS := Ends → St → Hp → Prop

def EP (X : Cx) (pins : List (Addr × Obj)) (σ : St) (Q : VK) (u : Value) (s' : Shared) : Prop := ∃ v H', Inv X pins σ H' s' ∧ RelV v u ∧ Q v H'
def TP (X : Cx) (pins : List (Addr × Obj)) (σ : St) (Q : Bool → Hp → Prop) (b : Bool) (s' : Shared) : Prop := ∃ H', Inv X pins σ H' s' ∧ Q b H'
def AP (X : Cx) (pins : List (Addr × Obj)) (σ : St) (Q : List V → Hp → Prop) (us : List Value) (s' : Shared) : Prop := ∃ vs H', Inv X pins σ H' s' ∧ Vals vs us ∧ Q vs H'
def SP (X : Cx) (pins : List (Addr × Obj)) (D : Ends) (f : Flow) (s' : Shared) : Prop :=
  match f with
  | .next => ∃ σ' H', Inv X pins σ' H' s' ∧ D.nx σ' H'
  | .brk => ∃ σ' H', Inv X pins σ' H' s' ∧ D.bk σ' H'
  | .cont => ∃ σ' H', Inv X pins σ' H' s' ∧ D.ct σ' H'
  | .ret u => ∃ v σ' H', Inv X pins σ' H' s' ∧ RelV v u ∧ D.rt v H'

def PE (X : Cx) (e : Expr) (t : TE) : Prop :=
  ∀ (pins : List (Addr × Obj)) (s : Shared) (σ : St) (H : Hp) (Q : VK), Inv X pins σ H s → t σ H Q → wpAny (model X.prog X.w) X.A (eval e X.env) (EP X pins σ Q) X.xe s
def PT (X : Cx) (e : Expr) (t : TT) : Prop :=
  ∀ (pins : List (Addr × Obj)) (s : Shared) (σ : St) (H : Hp) (Q : Bool → Hp → Prop), Inv X pins σ H s → t σ H Q → wpAny (model X.prog X.w) X.A (isTrue e X.env (eval e X.env)) (TP X pins σ Q) X.xe s
/-- a test whatever its 'whole' is (and, or) -/
def PW (X : Cx) (e : Expr) (t : TT) : Prop :=
  ∀ (whole : Sem Value) (pins : List (Addr × Obj)) (s : Shared) (σ : St) (H : Hp) (Q : Bool → Hp → Prop), Inv X pins σ H s → t σ H Q → wpAny (model X.prog X.w) X.A (isTrue e X.env whole) (TP X pins σ Q) X.xe s
theorem PW.pt {X : Cx} {e : Expr} {t : TT} (h : PW X e t) : PT X e t := h _
/-- an argument list (no star), from the left -/
def PA (X : Cx) (es : List Expr) (t : TA) : Prop :=
  ∀ (pos : Pos) (pins : List (Addr × Obj)) (s : Shared) (σ : St) (H : Hp) (Q : List V → Hp → Prop), Inv X pins σ H s → t σ H Q → wpAny (model X.prog X.w) X.A (spliced (backTo pos (starEach es X.env))) (AP X pins σ Q) X.xe s
def PS (X : Cx) (st : Stmt) (t : TS) : Prop :=
  ∀ (pins : List (Addr × Obj)) (s : Shared) (σ : St) (H : Hp) (D : Ends), Inv X pins σ H s → t D σ H → wpAny (model X.prog X.w) X.A (exec st X.env) (SP X pins D) X.xe s
def PSs (X : Cx) (st : List Stmt) (t : TS) : Prop :=
  ∀ (pins : List (Addr × Obj)) (s : Shared) (σ : St) (H : Hp) (D : Ends), Inv X pins σ H s → t D σ H → wpAny (model X.prog X.w) X.A (execs st X.env) (SP X pins D) X.xe s
/-- weaken the end -/
theorem thn {α : Type} {t : Sem α} {Q Q' : α → Shared → Prop} {M : Model} {A : Around} {E : Value → Shared → Prop} {s : Shared} (h : wpAny M A t Q E s) (hQ : ∀ a s, Q a s → Q' a s) : wpAny M A t Q' E s := wpAny_mono h hQ fun _ _ x => x
end L2

namespace L2
open PySem PySem.Spec PyProof.Rows
section
variable {X : Cx}

/-- two expressions in a row -/
theorem bin {a b : Expr} {ta tb : TE} (ha : PE X a ta) (hb : PE X b tb) {pins : List (Addr × Obj)} {s : Shared} {σ : St} {H : Hp} {R : V → V → Hp → Prop} (I : Inv X pins σ H s) (h : ta σ H fun x H1 => tb σ H1 fun y H2 => R x y H2)
    {α : Type} {Q : α → Shared → Prop} {f : Value → Value → Sem α}
    (hf : ∀ v u s2 x y H2, Inv X pins σ H2 s2 → RelV x v → RelV y u → R x y H2 → wpAny (model X.prog X.w) X.A (f v u) Q X.xe s2) :
    wpAny (model X.prog X.w) X.A (eval a X.env) (fun v s₁ => wpAny (model X.prog X.w) X.A (eval b X.env) (fun u s₂ => wpAny (model X.prog X.w) X.A (f v u) Q X.xe s₂) X.xe s₁) X.xe s := by
  refine thn (ha pins s σ H _ I h) fun v s1 ⟨x, H1, I1, r1, q1⟩ => ?_
  refine thn (hb pins s1 σ H1 _ I1 q1) fun u s2 ⟨y, H2, I2, r2, q2⟩ => ?_
  exact hf v u s2 x y H2 I2 r1 r2 q2

/-! ### names and constants -/
def tVar (i : Nat) : TE := fun σ H Q => ∃ v, σ[i]? = some (some v) ∧ Q v H
def tC (v : V) : TE := fun _ H Q => Q v H
theorem pe_var {i : Nat} {x : Str} {pos : Pos} (hN : X.N[i]? = some x) (hv : Vis X.env.scope x) (hd : (x == ("__debug__" : Str)) = false := by decide) (hcd : (x == ("__classdict__" : Str)) = false := by decide) : PE X (.Name x pos) (tVar i) := by
  intro pins s σ H Q I h
  obtain ⟨v, e, h⟩ := h
  obtain ⟨m, hn, hl⟩ := I.loc
  obtain ⟨u, r, l⟩ := hl i x v hN e hv
  have fin : EP X pins σ Q u s := ⟨v, H, I, r, h⟩
  rcases l with ⟨hk, hm⟩ | ⟨hk, c, hc, hcell⟩
  · exact wpAny_Name (wpAny_loadName_local I.ok.kind hk hn hm fin) hd
  · rcases hk with hk | hk
    · exact wpAny_Name (wpAny_loadName_cell I.ok.kind hk hc hcell fin) hd
    · exact wpAny_Name (wpAny_loadName_free I.ok.kind hk hc hcell fin hcd) hd
theorem pe_int {i j pos} : PE X (.Constant (.int i) j pos) (tC (.int i)) := fun _ _ _ H _ I h => wpAny_Constant_int ⟨.int i, H, I.tok _, ⟨_, rfl⟩, h⟩
theorem pe_bl {b j pos} : PE X (.Constant (.bool b) j pos) (tC (.bl b)) := fun _ _ _ H _ I h => Constant_bool ⟨.bl b, H, I, rfl, h⟩

/-- a global name of the def -/
def Gl (X : Cx) (x : Str) : Prop := X.env.kindOf x = some .globalImplicit
theorem ld_glob {E : Value → Shared → Prop} {pins : List (Addr × Obj)} {s : Shared} {σ : St} {H : Hp} {x : Str} {u : Value} {pos : Pos} {Q : Value → Shared → Prop} (I : Inv X pins σ H s) (hg : Gl X x) (hm : X.mg x = some u) (h : Q u s)
    (hd : (x == ("__debug__" : Str)) = false := by decide) : wpAny (model X.prog X.w) X.A (eval (.Name x pos) X.env) Q E s :=
  Calls.Name_function_global I.ok.kind hg (Calls.loadGlobal_global (by rw [I.ok.glob]; exact I.mod.glob.keeps I.bk) hm h) hd
theorem ld_blt {E : Value → Shared → Prop} {pins : List (Addr × Obj)} {s : Shared} {σ : St} {H : Hp} {x : Str} {u : Value} {pos : Pos} {Q : Value → Shared → Prop} (I : Inv X pins σ H s) (hg : Gl X x) (hm : X.mg x = none) (hv : bootBuiltins x = some u) (h : Q u s)
    (hn : x ≠ "__name__" := by decide) (hd : (x == ("__debug__" : Str)) = false := by decide) : wpAny (model X.prog X.w) X.A (eval (.Name x pos) X.env) Q E s := by
  obtain ⟨mb, h1, h2⟩ := I.mod.blt
  exact Calls.Name_function_global I.ok.kind hg (Calls.loadGlobal_builtin (by rw [I.ok.glob]; exact I.mod.glob.keeps I.bk) hm (by rw [I.ok.blt]; exact h1.keeps I.bk) ((h2 x hn).trans hv) h) hd
/-- a module's constant, a class, a function, as a value -/
theorem pe_glob {x : Str} {v : V} {u : Value} {pos : Pos} (hg : Gl X x) (hm : X.mg x = some u) (r : RelV v u) (hd : (x == ("__debug__" : Str)) = false := by decide) : PE X (.Name x pos) (tC v) :=
  fun _ _ _ H _ I h => ld_glob I hg hm ⟨v, H, I, r, h⟩ hd
theorem pe_bltn {x : Str} {v : V} {u : Value} {pos : Pos} (hg : Gl X x) (hm : X.mg x = none) (hv : bootBuiltins x = some u) (r : RelV v u) (hn : x ≠ "__name__" := by decide) (hd : (x == ("__debug__" : Str)) = false := by decide) : PE X (.Name x pos) (tC v) :=
  fun _ _ _ H _ I h => ld_blt I hg hm hv ⟨v, H, I, r, h⟩ hn hd

/-! ### arithmetic -/
variable {a b : Expr} {ta tb : TE} {pos : Pos}

/-! ### comparisons -/
def PC (X : Cx) (op : CmpOp) (a b : Expr) (t : TE) : Prop :=
  ∀ (pins : List (Addr × Obj)) (s : Shared) (σ : St) (H : Hp) (Q : VK), Inv X pins σ H s → t σ H Q →
    wpAny (model X.prog X.w) X.A (eval a X.env) (fun v s₁ => wpAny (model X.prog X.w) X.A (eval b X.env) (fun u s₂ => wpAny (model X.prog X.w) X.A (compareOp op v u) (EP X pins σ Q) X.xe s₂) X.xe s₁) X.xe s
/-- a comparison as a value, as a test -/
def tB (t : TE) : TT := fun σ H Q => t σ H fun x H1 => ∃ c, x = .bl c ∧ Q c H1
theorem pt_cmp {op : CmpOp} {t : TE} (h : PC X op a b t) (h1 : behindInMarks op b = false := by first | exact nobehind _ (by decide) (by decide) | rfl) : PT X (.Compare a [op] [b] pos) (tB t) := by
  intro pins s σ H Q I hw
  refine wpAny_isTrue_Compare1 (thn (h pins s σ H _ I hw) fun v s1 h1 => thn h1 fun u s2 h2 => thn h2 fun c s3 ⟨x, H1, I1, r1, q1⟩ => ?_) h1
  obtain ⟨d, rfl, q⟩ := q1
  cases r1
  exact wpAny_truthy_bool ⟨H1, I1, q⟩
/-- an expression whose value is a bool, as a test -/
theorem pt_val {e : Expr} {t : TE} (h : PE X e t) (he : ∀ whole, isTrue e X.env whole = (do let v ← whole; standAt e.pos; holding [v] (truthy v)) := by intro _; rfl) : PT X e (tB t) := by
  intro pins s σ H Q I hw
  refine isTrue_plain (thn (h pins s σ H _ I hw) fun v s1 ⟨x, H1, I1, r1, q1⟩ => ?_) (he _)
  obtain ⟨d, rfl, q⟩ := q1
  cases r1
  exact wpAny_truthy_bool ⟨H1, I1, q⟩

/-! ### and, or, not -/
variable {tA tB' : TT} {rest : List Expr}
def tOr (t u : TT) : TT := fun σ H Q => t σ H fun c H1 => if c = true then Q true H1 else u σ H1 Q
def tNot (t : TT) : TT := fun σ H Q => t σ H fun c H1 => Q (!c) H1
theorem pw_or1 (ha : PT X a tA) : PW X (.BoolOp .Or [a] pos) tA := by
  intro wh pins s σ H Q I h
  refine isTrue_or (thn (ha pins s σ H Q I h) fun c s1 e => ?_)
  cases c with
  | false => exact isTrue_or_nil e
  | true => exact e
theorem pw_or (ha : PT X a tA) (hb : PW X (.BoolOp .Or (b :: rest) pos) tB') : PW X (.BoolOp .Or (a :: b :: rest) pos) (tOr tA tB') := by
  intro wh pins s σ H Q I h
  refine isTrue_or (thn (ha pins s σ H _ I h) fun c s1 ⟨H1, I1, q1⟩ => ?_)
  cases c with
  | true => exact ⟨H1, I1, q1⟩
  | false => exact hb wh pins s1 σ H1 Q I1 q1
theorem pt_not (ha : PT X a tA) : PT X (.UnaryOp .Not a pos) (tNot tA) := by
  intro pins s σ H Q I h
  exact isTrue_not (ha pins s σ H (fun c H1 => Q (!c) H1) I h)
/-- .. as values (bools) -/
def tAndV (ta tb : TE) : TE := fun σ H Q => ta σ H fun x H1 => ∃ c, x = .bl c ∧ if c = true then tb σ H1 Q else Q (.bl false) H1
def tNotV (ta : TE) : TE := fun σ H Q => ta σ H fun x H1 => ∃ c, x = .bl c ∧ Q (.bl (!c)) H1
theorem pe_one {op} {t : TE} (h : PE X a t) : PE X (.BoolOp op [a] pos) t := fun pins s σ H Q I hw => BoolOp_one (h pins s σ H Q I hw)
theorem pe_and (ha : PE X a ta) (hb : PE X (.BoolOp .And (b :: rest) pos) tb) : PE X (.BoolOp .And (a :: b :: rest) pos) (tAndV ta tb) := by
  intro pins s σ H Q I h
  refine BoolOp_and (thn (ha pins s σ H _ I h) fun v s1 ⟨x, H1, I1, r1, q1⟩ => ?_)
  obtain ⟨c, rfl, q1⟩ := q1
  cases r1
  refine wpAny_truthy_bool ?_
  cases c with
  | true => exact hb pins s1 σ H1 Q I1 q1
  | false => exact ⟨.bl false, H1, I1, rfl, q1⟩
theorem pe_not (ha : PE X a ta) : PE X (.UnaryOp .Not a pos) (tNotV ta) := by
  intro pins s σ H Q I h
  refine UnaryOp_ (thn (ha pins s σ H _ I h) fun v s1 ⟨x, H1, I1, r1, q1⟩ => ?_)
  obtain ⟨c, rfl, q1⟩ := q1
  cases r1
  exact not_of (wpAny_truthy_bool ⟨.bl (!c), H1, I1, rfl, q1⟩)
end
end L2

namespace L2
open PySem PySem.Spec PyProof.Rows

/-! ### a list, a tuple that is read: tracked, frozen, or an object of the module -/
def SqL (K : PySem.W.Frag) (H : Hp) (a : Addr) (xs : List V) : Prop :=
  Rd H a (.lst xs) ∨
    ∃ (o : Obj) (its : Array Value) (n : Nat), K.lookup a = some o ∧ o.cls = .type "list" ∧ o.dict = none ∧ o.data = .seq its n ∧ its.size ≤ sizeLine ∧ Vals xs its.toList
def SqT (K : PySem.W.Frag) (H : Hp) (a : Addr) (xs : List V) : Prop :=
  Rd H a (.tup xs) ∨
    ∃ (o : Obj) (its : Array Value) (n : Nat), K.lookup a = some o ∧ o.cls = .type "tuple" ∧ o.data = .seq its n ∧ its.size ≤ sizeLine ∧ Vals xs its.toList
def absV : Value → Option V
  | .none => some .non
  | .bool b => some (.bl b)
  | .int i _ => some (.int i)
  | .str x _ => some (.str x)
  | .bytes b _ => some (.byt b)
  | .float b _ => some (.flt b)
  | .ref a => some (.ref a)
  | .type n => some (.ty n)
  | _ => none
theorem RelV.abs {x : V} {u : Value} (r : RelV x u) : absV u = some x := by
  cases x with
  | non => cases r; rfl
  | bl _ => cases r; rfl
  | int _ => obtain ⟨t, rfl⟩ := r; rfl
  | str _ => obtain ⟨t, rfl⟩ := r; rfl
  | byt _ => obtain ⟨t, rfl⟩ := r; rfl
  | flt _ => obtain ⟨t, rfl⟩ := r; rfl
  | ref _ => cases r; rfl
  | ty _ => cases r; rfl
theorem RelV.inj {x y : V} {u : Value} (r : RelV x u) (q : RelV y u) : x = y := Option.some.inj (r.abs.symm.trans q.abs)
theorem Vals.inj : ∀ {xs ys : List V} {us : List Value}, Vals xs us → Vals ys us → xs = ys
  | _, _, _, .nil, .nil => rfl
  | _, _, _, .cons r t, .cons r' t' => by rw [r.inj r', Vals.inj t t']
section
variable {X : Cx} {pins : List (Addr × Obj)} {σ : St} {H : Hp} {s : Shared} {a : Addr} {xs ys : List V}
theorem SqL.of {K : PySem.W.Frag} (h : H a = some (.lst xs)) : SqL K H a xs := .inl (.inl h)
theorem SqT.of {K : PySem.W.Frag} (h : H a = some (.tup xs)) : SqT K H a xs := .inl (.inl h)
theorem Inv.list (I : Inv X pins σ H s) (h : SqL X.K H a xs) : ∃ its : List Value, Vals xs its ∧ PlainL s.heap a its.toArray ∧ xs.length ≤ sizeLine := by
  rcases h with h | ⟨o, its, n, hk, hc, hd, hs, hz, r⟩
  · obtain ⟨z, its, n, r, e⟩ := h.ok I.hok
    exact ⟨its, r, ⟨_, n, e, rfl, rfl, rfl⟩, z⟩
  · refine ⟨its.toList, r, ⟨o, n, I.kIn a o hk, hc, hd, by simpa using hs⟩, ?_⟩
    have e := r.length
    simp only [Array.length_toList] at e
    omega
theorem Inv.tuple (I : Inv X pins σ H s) (h : SqT X.K H a xs) : ∃ its : List Value, Vals xs its ∧ IsTup s.heap a its.toArray ∧ xs.length ≤ sizeLine := by
  rcases h with h | ⟨o, its, n, hk, hc, hs, hz, r⟩
  · obtain ⟨z, its, r, p⟩ := h.ok I.hok
    exact ⟨its, r, p, z⟩
  · refine ⟨its.toList, r, ⟨o, I.kIn a o hk, hc, n, by simpa using hs⟩, ?_⟩
    have e := r.length
    simp only [Array.length_toList] at e
    omega
theorem Inv.list_inj (I : Inv X pins σ H s) (h : SqL X.K H a xs) (h' : SqL X.K H a ys) : xs = ys := by
  obtain ⟨its, r, ⟨o, n, e, _, _, d⟩, _⟩ := I.list h
  obtain ⟨its', r', ⟨o', n', e', _, _, d'⟩, _⟩ := I.list h'
  rw [e] at e'; cases e'
  rw [d] at d'
  injection d' with d1 _
  have : its = its' := by simpa using congrArg Array.toList d1
  subst this
  exact r.inj r'
theorem Inv.tuple_inj (I : Inv X pins σ H s) (h : SqT X.K H a xs) (h' : SqT X.K H a ys) : xs = ys := by
  obtain ⟨its, r, ⟨o, e, _, n, d⟩, _⟩ := I.tuple h
  obtain ⟨its', r', ⟨o', e', _, n', d'⟩, _⟩ := I.tuple h'
  rw [e] at e'; cases e'
  rw [d] at d'
  injection d' with d1 _
  have : its = its' := by simpa using congrArg Array.toList d1
  subst this
  exact r.inj r'
end

/-! ### another wish about exceptions -/
abbrev Cx.wish (X : Cx) (E : Value → Shared → Prop) : Cx := { X with xe := E }
/-- no exception leaves -/
abbrev Cx.nox (X : Cx) : Cx := X.wish fun _ _ => False
theorem Cx.Ok.wish {X : Cx} (ok : X.Ok) (E : Value → Shared → Prop) : (X.wish E).Ok :=
  ⟨ok.mod, ok.kind, ok.glob, ok.blt, ok.above, ok.inj, ok.has, ok.cab, ok.hd, ok.frames, ok.stk, ok.exf, ok.bs, ok.bsz, ok.noex, ok.exfs, ok.funs, ok.frf⟩
theorem Cx.Ok.unwish {X : Cx} {E : Value → Shared → Prop} (ok : (X.wish E).Ok) : X.Ok :=
  ⟨ok.mod, ok.kind, ok.glob, ok.blt, ok.above, ok.inj, ok.has, ok.cab, ok.hd, ok.frames, ok.stk, ok.exf, ok.bs, ok.bsz, ok.noex, ok.exfs, ok.funs, ok.frf⟩
section
variable {X : Cx} {pins : List (Addr × Obj)} {σ : St} {H : Hp} {s : Shared} {E : Value → Shared → Prop}
theorem Inv.wish (I : Inv X pins σ H s) (E : Value → Shared → Prop) : Inv (X.wish E) pins σ H s := ⟨I.ok.wish E, I.os, I.bare, I.base, I.loc, I.cell, I.free, I.freeC, I.pin, I.hok, I.len⟩
theorem Inv.unwish (I : Inv (X.wish E) pins σ H s) : Inv X pins σ H s := ⟨I.ok.unwish, I.os, I.bare, I.base, I.loc, I.cell, I.free, I.freeC, I.pin, I.hok, I.len⟩
theorem SP.unwish {D : Ends} {f : Flow} {s' : Shared} (h : SP (X.wish E) pins D f s') : SP X pins D f s' := by
  cases f with
  | next => obtain ⟨σ', H', I, q⟩ := h; exact ⟨σ', H', I.unwish, q⟩
  | brk => obtain ⟨σ', H', I, q⟩ := h; exact ⟨σ', H', I.unwish, q⟩
  | cont => obtain ⟨σ', H', I, q⟩ := h; exact ⟨σ', H', I.unwish, q⟩
  | ret u => obtain ⟨v, σ', H', I, r, q⟩ := h; exact ⟨v, σ', H', I.unwish, r, q⟩
theorem PSs.nox {st : List Stmt} {t : TS} (h : PSs X.nox st t) : PSs X st t := fun pins s σ H D I hw =>
  wpAny_mono (h pins s σ H D (I.wish _) hw) (fun _ _ q => q.unwish) fun _ _ z => False.elim z
end

/-! ### blocks and small statements -/
section
variable {X : Cx} {st : Stmt} {rest : List Stmt} {t u : TS} {e : Expr} {te : TE} {pos : Pos}
def tNext : TS := fun D σ H => D.nx σ H
def tSeq (t u : TS) : TS := fun D σ H => t { D with nx := u D } σ H
theorem pss_nil : PSs X [] tNext := fun _ _ σ H _ I h => wpAny_execs_nil ⟨σ, H, I, h⟩
theorem pss_cons (h1 : PS X st t) (h2 : PSs X rest u) : PSs X (st :: rest) (tSeq t u) := by
  intro pins s σ H D I h
  refine wpAny_execs_cons (thn (h1 pins s σ H { D with nx := u D } I h) fun f s1 q => ?_)
  cases f with
  | next =>
    obtain ⟨σ', H', I', q⟩ := q
    exact h2 pins s1 σ' H' D I' q
  | ret v => exact q
  | brk => exact q
  | cont => exact q
theorem pss_one (h1 : PS X st t) : PSs X [st] t := by
  intro pins s σ H D I h
  refine wpAny_execs_cons (thn (h1 pins s σ H D I h) fun f s1 q => ?_)
  cases f with
  | next => exact wpAny_execs_nil q
  | ret v => exact q
  | brk => exact q
  | cont => exact q
/-- in a def's body nothing is shown -/
theorem Inv.quiet {pins : List (Addr × Obj)} {σ : St} {H : Hp} {s : Shared} (I : Inv X pins σ H s) : interactive X.env = false := by simp [interactive, I.ok.kind]
/-- an expression whose value is dropped -/
def tDrop (te : TE) : TS := fun D σ H => te σ H fun _ H1 => D.nx σ H1
theorem ps_expr (he : PE X e te) (hs : swapsWith e none pos.line X.env = pure false := by rfl) : PS X (.Expr e pos) (tDrop te) := by
  intro pins s σ H D I h
  exact wpAny_Expr_any (thn (he pins s σ H _ I h) fun v s1 ⟨x, H1, I1, r1, q1⟩ => ⟨σ, H1, I1, q1⟩) I.quiet hs
def tRet (te : TE) : TS := fun D σ H => te σ H D.rt
theorem ps_ret (he : PE X e te) : PS X (.Return (some e) pos) (tRet te) := by
  intro pins s σ H D I h
  exact wpAny_Return_some (thn (he pins s σ H _ I h) fun v s1 ⟨x, H1, I1, r1, q1⟩ => ⟨x, σ, H1, I1, r1, q1⟩)
def tIfS (c : TT) (t u : TS) : TS := fun D σ H => c σ H fun b H1 => if b = true then t D σ H1 else u D σ H1
theorem ps_if {c : Expr} {a b : List Stmt} {tc : TT} (hc : PT X c tc) (ha : PSs X a t) (hb : PSs X b u) : PS X (.If c a b pos) (tIfS tc t u) := by
  intro pins s σ H D I h
  refine wpAny_If (thn (hc pins s σ H _ I h) fun d s1 ⟨H1, I1, q1⟩ => ?_)
  cases d with
  | true => exact ha pins s1 σ H1 D I1 q1
  | false => exact hb pins s1 σ H1 D I1 q1
/-- code that the proof never comes to -/
def tNever : TS := fun _ _ _ => False
theorem ps_never : PS X st tNever := fun _ _ _ _ _ _ h => h.elim
end

/-! ### targets -/
abbrev TG := V → St → Hp → (St → Hp → Prop) → Prop
abbrev TGs := List V → St → Hp → (St → Hp → Prop) → Prop
def PG (X : Cx) (target : Expr) (t : TG) : Prop :=
  ∀ (pins : List (Addr × Obj)) (s : Shared) (σ : St) (H : Hp) (v : V) (u : Value) (Q : St → Hp → Prop), Inv X pins σ H s → RelV v u → t v σ H Q →
    wpAny (model X.prog X.w) X.A (assign target X.env u) (fun _ s' => ∃ σ' H', Inv X pins σ' H' s' ∧ Q σ' H') X.xe s
/-- several targets, one after another -/
def PGs (X : Cx) (ts : List Expr) (t : TGs) : Prop :=
  ∀ (pins : List (Addr × Obj)) (s : Shared) (σ : St) (H : Hp) (vs : List V) (us : List Value) (Q : St → Hp → Prop), Inv X pins σ H s → Vals vs us → t vs σ H Q →
    wpAny (model X.prog X.w) X.A (assignInOrder ((assignEach ts X.env).map (·.2)) us) (fun _ s' => ∃ σ' H', Inv X pins σ' H' s' ∧ Q σ' H') X.xe s
/-- o[i] = v, by values -/
abbrev TSet := V → V → V → Hp → (Hp → Prop) → Prop
def PSet (X : Cx) (t : TSet) : Prop :=
  ∀ (pins : List (Addr × Obj)) (s : Shared) (σ : St) (H : Hp) (o i v : V) (ov iv u : Value) (Q : Hp → Prop), Inv X pins σ H s → RelV o ov → RelV i iv → RelV v u → t o i v H Q →
    wpAny (model X.prog X.w) X.A (setItem ov iv u) (fun _ s' => ∃ H', Inv X pins σ H' s' ∧ Q H') X.xe s
/-- a op= b, by values -/
abbrev TIp := V → V → Hp → VK → Prop
def PIp (X : Cx) (op : Operator) (t : TIp) : Prop :=
  ∀ (pins : List (Addr × Obj)) (s : Shared) (σ : St) (H : Hp) (x y : V) (v u : Value) (Q : VK), Inv X pins σ H s → RelV x v → RelV y u → t x y H Q →
    wpAny (model X.prog X.w) X.A (inplaceOp op v u) (EP X pins σ Q) X.xe s
section
variable {X : Cx} {pos : Pos}
def gName (i : Nat) : TG := fun v σ H Q => Q (σ.set i (some v)) H
theorem pg_name {i : Nat} {x : Str} (hN : X.N.Nodup) (hi : X.N[i]? = some x) (hx : Loc X.env.scope x) (hf : X.fn x = true ∨ X.env.scope.names.lookup x = some .local := by first | exact .inl rfl | exact .inr rfl | assumption) : PG X (.Name x pos) (gName i) := by
  intro pins s σ H v u Q I r h
  exact wpAny_assign_Name (store_ok I hN hi hx r (fun s' I' => ⟨_, H, I', h⟩) hf)
def gNil : TGs := fun vs σ H Q => vs = [] ∧ Q σ H
def gCons (t : TG) (u : TGs) : TGs := fun vs σ H Q => ∃ v r, vs = v :: r ∧ t v σ H fun σ' H' => u r σ' H' Q
theorem pgs_nil : PGs X [] gNil := by
  intro pins s σ H vs us Q I r h
  obtain ⟨e, h⟩ := h
  subst e
  cases r
  exact assignInOrder_nil ⟨σ, H, I, h⟩
theorem pgs_cons {e : Expr} {es : List Expr} {t : TG} {u : TGs} (h1 : PG X e t) (h2 : PGs X es u)
    (hs : (assignEach (e :: es) X.env).map (·.2) = assign e X.env :: (assignEach es X.env).map (·.2) := by rfl) : PGs X (e :: es) (gCons t u) := by
  intro pins s σ H vs us Q I r h
  obtain ⟨v, vr, e1, h⟩ := h
  subst e1
  cases r with
  | cons r rr =>
    rw [hs]
    refine assignInOrder_cons (thn (h1 pins s σ H _ _ _ I r h) fun _ s1 ⟨σ1, H1, I1, q1⟩ => ?_)
    exact h2 pins s1 σ1 H1 _ _ Q I1 rr q1
/-- (a, b, ..) = a tuple of that length -/
def gTup (K : PySem.W.Frag) (n : Nat) (t : TGs) : TG := fun v σ H Q => ∃ a xs, v = .ref a ∧ SqT K H a xs ∧ xs.length = n ∧ t xs σ H Q
theorem pg_tup {es : List Expr} {k : Nat} {t : TGs} {n : Nat} (hc : X.calm = true) (h : PGs X es t)
    (hn : (assignEach es X.env).length = n := by rfl) (hst : (assignEach es X.env).findIdx? (·.1) = none := by rfl) : PG X (.Tuple es k pos) (gTup X.K n t) := by
  intro pins s σ H v u Q I r hw
  obtain ⟨a, xs, e1, hq, hl, hw⟩ := hw
  subst e1
  cases r
  obtain ⟨its, rv, ht, hz⟩ := I.tuple hq
  refine assign_Tuple_tuple (I.ok.hd hc) ht (by simp [hn, ← hl, rv.length]) hst fun h' hx => ?_
  have I1 : Inv X pins σ H { s with heap := h' } := I.kept (t' := s.toks) fun b o e => hx b o (Nat.ne_of_lt (Heap.lt_size e)) e
  exact h pins _ σ H xs _ Q I1 (by simpa using rv) hw
/-- o[i] = .. -/
def gSub (to ti : TE) (t : TSet) : TG := fun v σ H Q => to σ H fun o H1 => ti σ H1 fun i H2 => t o i v H2 fun H3 => Q σ H3
theorem pg_sub {o i : Expr} {to ti : TE} {t : TSet} (ho : PE X o to) (hi : PE X i ti) (hs : PSet X t)
    (ha : ∀ v, assign (.Subscript o i pos) X.env v = (do
      let ov ← holding [v] (eval o X.env)
      let iv ← holding [v, ov] (eval i X.env)
      standAt pos
      holding [v, ov, iv] (setItem ov iv v)
      release [v, ov, iv] []) := by intro _; rfl) : PG X (.Subscript o i pos) (gSub to ti t) := by
  intro pins s σ H v u Q I r h
  rw [ha]
  refine wpAny_bind (wpAny_holding (thn (ho pins s σ H _ I h) fun ov s1 ⟨x, H1, I1, r1, q1⟩ => ?_))
  refine wpAny_bind (wpAny_holding (thn (hi pins s1 σ H1 _ I1 q1) fun iv s2 ⟨y, H2, I2, r2, q2⟩ => ?_))
  refine wpAny_bind (wpAny_standAt (wpAny_bind (wpAny_holding (thn (hs pins s2 σ H2 x y v ov iv u _ I2 r1 r2 r q2) fun _ s3 ⟨H3, I3, q3⟩ => ?_))))
  exact wpAny_release ⟨σ, H3, I3, q3⟩
/-- target = value -/
def tAsg (te : TE) (g : TG) : TS := fun D σ H => te σ H fun x H1 => g x σ H1 D.nx
theorem ps_asg {tg e : Expr} {te : TE} {g : TG} (he : PE X e te) (hg : PG X tg g) (hs : swapsWithSole [tg] e pos.line X.env = pure false := by rfl) (hw : swappedStores [tg] e X.env = pure none := by rfl)
    (h1 : (assignEach [tg] X.env).map (·.2) = [assign tg X.env] := by rfl) : PS X (.Assign [tg] e pos) (tAsg te g) := by
  intro pins s σ H D I h
  refine wpAny_Assign_stores (thn (he pins s σ H _ I h) fun v s1 ⟨x, H1, I1, r1, q1⟩ => ?_) hs hw
  rw [h1]
  exact thn (hg pins s1 σ H1 x v _ I1 r1 q1) fun _ s2 q => q
/-- name = value -/
theorem ps_set {i : Nat} {x : Str} {e : Expr} {te : TE} {pos' : Pos} (hN : X.N.Nodup) (hi : X.N[i]? = some x) (hx : Loc X.env.scope x) (he : PE X e te) (hs : swapsWith e (some (.Name x pos')) pos.line X.env = pure false := by rfl) (hf : X.fn x = true ∨ X.env.scope.names.lookup x = some .local := by first | exact .inl rfl | exact .inr rfl | assumption) :
    PS X (.Assign [.Name x pos'] e pos) (tAsg te (gName i)) := by
  intro pins s σ H D I h
  refine wpAny_Assign_Name (thn (he pins s σ H _ I h) fun v s1 ⟨y, H1, I1, r1, q1⟩ => ?_) hs
  exact store_ok I1 hN hi hx r1 (fun s2 I2 => ⟨_, H1, I2, q1⟩) hf
/-- a, b = x, y with plain local names: stored from the right; the pair itself is not tracked (the opening rows as in PyProof/Rows/TupAssign.lean:23) -/
def tPar (i j : Nat) (ta : TA) : TS := fun D σ H => ta σ H fun vs H1 => ∃ v w, vs = [v, w] ∧ D.nx ((σ.set i (some v)).set j (some w)) H1
theorem ps_par {i j : Nat} {x y : Str} {a b : Expr} {ta : TA} {px py pt : Pos} {kt k2 pt2} (hc : X.calm = true) (hN : X.N.Nodup) (hi : X.N[i]? = some x) (hj : X.N[j]? = some y) (hij : i ≠ j)
    (hx : X.env.scope.names.lookup x = some .local) (hy : X.env.scope.names.lookup y = some .local) (ha : PA X [a, b] ta)
    (hw : swappedStores [.Tuple [.Name x px, .Name y py] kt pt] (.Tuple [a, b] k2 pt2) X.env = pure (some [x, y]))
    (hs : swapsWithSole [.Tuple [.Name x px, .Name y py] kt pt] (.Tuple [a, b] k2 pt2) pos.line X.env = pure false := by rfl) :
    PS X (.Assign [.Tuple [.Name x px, .Name y py] kt pt] (.Tuple [a, b] k2 pt2) pos) (tPar i j ta) := by
  intro pins s σ H D I h
  rw [exec_Assign_arm]
  refine wpAny_bind (wpAny_standAt ?_)
  rw [hs]
  refine wpAny_bind (wpAny_pure ?_)
  rw [if_neg (by decide)]
  refine wpAny_bind (Tuple_ (thn (ha _ pins s σ H _ I h) fun us s1 ⟨vs, H1, I1, r1, q1⟩ => ?_))
  obtain ⟨v, w, e1, q1⟩ := q1
  subst e1
  obtain ⟨u1, u2, rfl, rv, rw'⟩ : ∃ u1 u2, us = [u1, u2] ∧ RelV v u1 ∧ RelV w u2 := by
    cases r1 with
    | cons p q =>
      cases q with
      | cons p' q' =>
        cases q'
        exact ⟨_, _, rfl, p, p'⟩
  refine wpAny_newObj_type ?_ (by show 2 ≤ sizeLine; decide)
  have I2 : Inv X pins σ H1 { s1 with heap := s1.heap.push { cls := .type "tuple", data := .seq [u1, u2].toArray } } := I1.kept (t' := s1.toks) fun b o e => Heap.get?_push_of_some _ e
  rw [hw]
  refine wpAny_bind (wpAny_pure ?_)
  show wpAny (model X.prog X.w) X.A (do rule "assign.swapped-stores"; let items ← unpackItems (.ref s1.heap.objs.size) 2 none; assignInOrder [fun v => bindName X.env y v, fun v => bindName X.env x v] items.reverse; pure Flow.next) _ _ _
  refine wpAny_bind (wpAny_rule (wpAny_bind (unpackItems_tuple (items := #[u1, u2]) (I.ok.hd hc) (IsTup.new s1.heap _) fun h' hx' => ?_)))
  have I3 := I2.kept (h' := h') (t' := s1.toks) fun b o e => hx' b o (Nat.ne_of_lt (Heap.lt_size e)) e
  show wpAny _ _ (assignInOrder [fun v => bindName X.env y v, fun v => bindName X.env x v] [u2, u1] >>= fun _ => pure Flow.next) _ _ _
  refine wpAny_bind (assignInOrder_cons (wpAny_bindName (store_ok I3 hN hj (.inl hy) rw' (fun s2 I4 => ?_) (.inr hy))))
  refine assignInOrder_cons (wpAny_bindName (store_ok I4 hN hi (.inl hx) rv (fun s3 I5 => assignInOrder_nil (wpAny_pure ?_)) (.inr hx)))
  rw [List.set_comm _ _ (Ne.symm hij)] at I5
  exact ⟨_, H1, I5, q1⟩
/-- o[i] op= e -/
def tAugS (to ti te : TE) (tget : V → V → Hp → VK → Prop) (tip : TIp) (tset : TSet) : TS := fun D σ H => to σ H fun o H1 => ti σ H1 fun i H2 => tget o i H2 fun x H3 => te σ H3 fun y H4 => tip x y H4 fun z H5 => tset o i z H5 fun H6 => D.nx σ H6
/-- o[i], by values -/
def PGet (X : Cx) (t : V → V → Hp → VK → Prop) : Prop :=
  ∀ (pins : List (Addr × Obj)) (s : Shared) (σ : St) (H : Hp) (o i : V) (ov iv : Value) (Q : VK), Inv X pins σ H s → RelV o ov → RelV i iv → t o i H Q →
    wpAny (model X.prog X.w) X.A (getItem ov iv) (EP X pins σ Q) X.xe s
theorem ps_augS {o i e : Expr} {to ti te : TE} {tget : V → V → Hp → VK → Prop} {tip : TIp} {tset : TSet} {op : Operator} {tpos : Pos} (ho : PE X o to) (hi : PE X i ti) (hg : PGet X tget) (he : PE X e te) (hp : PIp X op tip) (hs : PSet X tset)
    (ha : ∀ ov iv new, augStore i ov iv new = (do holding [new, ov, iv] (setItem ov iv new); release [new, ov, iv] []; pure .next) := by intros; rfl) : PS X (.AugAssign (.Subscript o i tpos) op e pos) (tAugS to ti te tget tip tset) := by
  intro pins s σ H D I h
  refine wpAny_AugAssign_SubscriptAny (thn (ho pins s σ H _ I h) fun ov s1 ⟨x1, H1, I1, r1, q1⟩ => ?_) ha
  refine thn (hi pins s1 σ H1 _ I1 q1) fun iv s2 ⟨x2, H2, I2, r2, q2⟩ => ?_
  refine thn (hg pins s2 σ H2 x1 x2 ov iv _ I2 r1 r2 q2) fun old s3 ⟨x3, H3, I3, r3, q3⟩ => ?_
  refine thn (he pins s3 σ H3 _ I3 q3) fun v s4 ⟨x4, H4, I4, r4, q4⟩ => ?_
  refine thn (hp pins s4 σ H4 x3 x4 old v _ I4 r3 r4 q4) fun new s5 ⟨x5, H5, I5, r5, q5⟩ => ?_
  exact thn (hs pins s5 σ H5 x1 x2 x5 ov iv new _ I5 r1 r2 r5 q5) fun _ s6 ⟨H6, I6, q6⟩ => ⟨σ, H6, I6, q6⟩
/-- ints -/
def ipI (f : Int → Int → Int) : TIp := fun x y H Q => ∃ i j, x = .int i ∧ y = .int j ∧ Q (.int (f i j)) H
theorem ip_add : PIp X .Add (ipI fun i j => i + j) := by
  intro pins s σ H x y v u Q I r1 r2 h
  obtain ⟨i, j, e1, e2, q⟩ := h
  subst e1; subst e2
  obtain ⟨t, rfl⟩ := r1
  obtain ⟨t', rfl⟩ := r2
  exact iadd_int ⟨.int _, H, I.tok _, ⟨_, rfl⟩, q⟩
end

/-! ### while -/
section
variable {X : Cx} {pos : Pos}
end

/-! ### what a loop or a comprehension walks -/
/-- at turn i: it yields x (the heap may grow), or it stops -/
structure It where
  go : Nat → Hp → Prop
  yld : Nat → Hp → V → Hp → Prop
  stop : Nat → Hp → Prop
/-- the iterator's own objects may turn: they are not the frame's, not pinned, younger than the entry (or a comprehension's own) -/
def FpOk (X : Cx) (pins : List (Addr × Obj)) (H : Hp) (b : Addr) : Prop :=
  H b = none ∧ b ≠ X.env.locals ∧ b ∉ X.fs ∧ (b ∈ X.ex ∨ X.s₀.heap.objs.size ≤ b) ∧ (∀ x c, X.env.cells.lookup x = some c → c ≠ b) ∧ ∀ p ∈ X.pn ++ pins, p.1 ≠ b
theorem Inv.fpOk {X : Cx} {pins : List (Addr × Obj)} {σ : St} {H H' : Hp} {s : Shared} {b : Addr} (I : Inv X pins σ H s) (hb : s.heap.objs.size ≤ b) (hn : H' b = none) : FpOk X pins H' b := by
  refine ⟨hn, Nat.ne_of_gt (Nat.lt_of_lt_of_le I.lt hb), I.nofs hb, .inr (Nat.le_trans I.sz hb), fun x c e z => ?_, fun p hp z => ?_⟩
  · obtain ⟨v, q⟩ := I.cell x c e
    exact absurd (Nat.lt_of_lt_of_le q.lt (by rw [z]; exact hb)) (Nat.lt_irrefl _)
  · exact absurd (Nat.lt_of_lt_of_le (Heap.lt_size (I.pin p hp).1) (by rw [z]; exact hb)) (Nat.lt_irrefl _)
structure Turn (P : Program) (w : World) (K : PySem.W.Frag) (tg : Expr) (J : It) (fp : List Addr) (it : Addr) (tn : Nat → Heap → Prop) : Prop where
  mem : it ∈ fp
  obj : ∀ i h, tn i h → ∀ b ∈ fp, ∃ o, h.get? b = some o ∧ ∀ v, o.data ≠ .cell v
  keep : ∀ i h h', tn i h → (∀ b ∈ fp, ∀ o, h.get? b = some o → h'.get? b = some o) → tn i h'
  item : ∀ (X : Cx), X.prog = P → X.w = w → X.K = K → X.calm = true → ∀ (i : Nat) (pins : List (Addr × Obj)) (s : Shared) (σ : St) (H : Hp) (E : Value → Shared → Prop), Inv X pins σ H s → (∀ b ∈ fp, FpOk X pins H b) → tn i s.heap → J.go i H →
    wpAny (model P w) X.A (pyNext (.ref it)) (fun r s1 => ∃ u, r = some u ∧
      wpAny (model P w) X.A (letOwnedTupleGo tg (.ref it) u) (fun _ s2 => ∃ x H', Inv X pins σ H' s2 ∧ RelV x u ∧ J.yld i H x H' ∧ tn (i + 1) s2.heap ∧ ∀ b ∈ fp, H' b = none) E s1) E s
  done : ∀ (X : Cx), X.prog = P → X.w = w → X.K = K → X.calm = true → ∀ (i : Nat) (pins : List (Addr × Obj)) (s : Shared) (σ : St) (H : Hp) (E : Value → Shared → Prop), Inv X pins σ H s → (∀ b ∈ fp, FpOk X pins H b) → tn i s.heap → J.stop i H →
    wpAny (model P w) X.A (pyNext (.ref it)) (fun r s1 => r = none ∧ Inv X pins σ H s1) E s
  self : ∀ (A : Around) (i : Nat) (s : Shared) (Q : Value → Shared → Prop) (E : Value → Shared → Prop), tn i s.heap → Q (.ref it) s → wpAny (model P w) A (pyIter (.ref it)) Q E s
abbrev TI := St → Hp → (It → Hp → Prop) → Prop
/-- an iterator has come -/
def PIE (X : Cx) (pins : List (Addr × Obj)) (σ : St) (tg : Expr) (R : It → Hp → Prop) (itv : Value) (s2 : Shared) : Prop :=
  ∃ (it : Addr) (fp : List Addr) (tn : Nat → Heap → Prop) (J : It) (H' : Hp), itv = .ref it ∧ Inv X pins σ H' s2 ∧ Turn X.prog X.w X.K tg J fp it tn ∧ tn 0 s2.heap ∧ (∀ b ∈ fp, FpOk X pins H' b) ∧ R J H'
def PI (X : Cx) (tg iter : Expr) (wi : TI) : Prop :=
  ∀ (pins : List (Addr × Obj)) (s : Shared) (σ : St) (H : Hp) (R : It → Hp → Prop), Inv X pins σ H s → wi σ H R →
    wpAny (model X.prog X.w) X.A (eval iter X.env) (fun v s1 => wpAny (model X.prog X.w) X.A (pyIter v) (PIE X pins σ tg R) X.xe s1) X.xe s

/-- the step ahead of the store is nothing for an iterator that keeps no tuple -/
theorem go_of {M : Model} {A : Around} {E : Value → Shared → Prop} {s : Shared} {tg : Expr} {it : Addr} {u : Value} {o : Obj} {n : String} {vs : Array Value} {Q : Unit → Shared → Prop} (ho : s.heap.get? it = some o) (hc : o.cls = .type n) (hd : o.data = .fields vs)
    (hn : ["enumerate", "zip", "dict_itemiterator", "dict_reverseitemiterator", "odict_iterator", "itertools.zip_longest", "itertools.pairwise"].contains n = false) (hQ : Q () s) : wpAny M A (letOwnedTupleGo tg (.ref it) u) Q E s := by
  unfold letOwnedTupleGo
  cases tg <;> first
    | exact wpAny_pure hQ
    | (cases u <;> first
        | exact wpAny_pure hQ
        | (refine wpAny_bind (wpAny_load ho ?_)
           rw [hc, hd]
           show wpAny M A (if (["enumerate", "zip", "dict_itemiterator", "dict_reverseitemiterator", "odict_iterator", "itertools.zip_longest", "itertools.pairwise"].contains n && vs[0]? == some (rawInt _)) = true then _ else _) Q E s
           rw [if_neg (by intro h; rw [hn, Bool.false_and] at h; cases h)]
           exact wpAny_pure hQ))

/-- the list at a, as it stands at each turn (a loop may append to it) -/
def Itl (K : PySem.W.Frag) (a : Addr) : It :=
  ⟨fun i H => ∃ xs x, SqL K H a xs ∧ xs[i]? = some x, fun i H x H' => H' = H ∧ ∀ xs, SqL K H a xs → xs[i]? = some x, fun i H => ∃ xs, SqL K H a xs ∧ xs.length ≤ i⟩
def Itt (K : PySem.W.Frag) (a : Addr) : It :=
  ⟨fun i H => ∃ xs x, SqT K H a xs ∧ xs[i]? = some x, fun i H x H' => H' = H ∧ ∀ xs, SqT K H a xs → xs[i]? = some x, fun i H => ∃ xs, SqT K H a xs ∧ xs.length ≤ i⟩
/-- lo, lo + 1, .. (n of them) -/
def Itr (lo : Int) (n : Nat) : It := ⟨fun i _ => i < n, fun i H x H' => H' = H ∧ x = .int (lo + i), fun i _ => n ≤ i⟩
theorem turn_list {P : Program} {w : World} {K : PySem.W.Frag} {tg : Expr} (a it : Addr) : Turn P w K tg (Itl K a) [it] it (fun i h => h.IsListIter it a i) where
  mem := by simp
  obj := fun i h st b hb => by
    have e : b = it := by simpa using hb
    subst e
    obtain ⟨o, e, c, d⟩ := st
    exact ⟨o, e, fun v z => by rw [d] at z; cases z⟩
  keep := fun i h h' st k => st.at fun o e => k it (by simp) o e
  item := by
    intro X hP hw hK hc i pins s σ H E I hf st hg
    subst hP hw hK
    obtain ⟨xs, x, hq, hx⟩ := hg
    obtain ⟨its, rv, p, hz⟩ := I.list hq
    obtain ⟨u, hu, ru⟩ := rv.get hx
    obtain ⟨f0, f1, f2, f3, f4, f5⟩ := hf it (by simp)
    refine wpAny_pyNext_list_item st p.isList (x := u) (by simpa using hu) fun h' st' sb => ?_
    have I1 : Inv X pins σ H { s with heap := h' } := I.turned (t' := s.toks) (fun b o hb e => (sb.2 b hb).trans e) f0 f1 f3 f4 f5
    obtain ⟨o, e, c, d⟩ := id st'
    exact ⟨u, rfl, go_of (s := { s with heap := h' }) e c d (by decide) ⟨x, H, I1, ru, ⟨rfl, fun ys hy => by rw [I.list_inj hy hq]; exact hx⟩, st', fun b hb => (hf b hb).1⟩⟩
  done := by
    intro X hP hw hK hc i pins s σ H E I hf st hg
    subst hP hw hK
    obtain ⟨xs, hq, hx⟩ := hg
    obtain ⟨its, rv, p, hz⟩ := I.list hq
    obtain ⟨f0, f1, f2, f3, f4, f5⟩ := hf it (by simp)
    have hl := rv.length
    exact wpAny_pyNext_list_end (I.ok.hd hc) st p.isList (by simp; omega) fun h' eb => ⟨rfl, I.turned (t' := s.toks) (fun b o hb e => eb b o hb e) f0 f1 f3 f4 f5⟩
  self := fun _ _ _ _ _ st h => wpAny_pyIter_listiter st h
theorem turn_tuple {P : Program} {w : World} {K : PySem.W.Frag} {tg : Expr} (a it : Addr) : Turn P w K tg (Itt K a) [it] it (fun i h => h.IsTupleIter it a i) where
  mem := by simp
  obj := fun i h st b hb => by
    have e : b = it := by simpa using hb
    subst e
    obtain ⟨o, e, c, d⟩ := st
    exact ⟨o, e, fun v z => by rw [d] at z; cases z⟩
  keep := fun i h h' st k => st.at fun o e => k it (by simp) o e
  item := by
    intro X hP hw hK hc i pins s σ H E I hf st hg
    subst hP hw hK
    obtain ⟨xs, x, hq, hx⟩ := hg
    obtain ⟨its, rv, p, hz⟩ := I.tuple hq
    obtain ⟨u, hu, ru⟩ := rv.get hx
    obtain ⟨f0, f1, f2, f3, f4, f5⟩ := hf it (by simp)
    refine wpAny_pyNext_tuple_item st (show s.heap.IsTuple a its.toArray from p) (x := u) (by simpa using hu) fun h' st' sb => ?_
    have I1 : Inv X pins σ H { s with heap := h' } := I.turned (t' := s.toks) (fun b o hb e => (sb.2 b hb).trans e) f0 f1 f3 f4 f5
    obtain ⟨o, e, c, d⟩ := id st'
    exact ⟨u, rfl, go_of (s := { s with heap := h' }) e c d (by decide) ⟨x, H, I1, ru, ⟨rfl, fun ys hy => by rw [I.tuple_inj hy hq]; exact hx⟩, st', fun b hb => (hf b hb).1⟩⟩
  done := by
    intro X hP hw hK hc i pins s σ H E I hf st hg
    subst hP hw hK
    obtain ⟨xs, hq, hx⟩ := hg
    obtain ⟨its, rv, p, hz⟩ := I.tuple hq
    obtain ⟨f0, f1, f2, f3, f4, f5⟩ := hf it (by simp)
    have hl := rv.length
    exact wpAny_pyNext_tuple_end (I.ok.hd hc) st (show s.heap.IsTuple a its.toArray from p) (by simp; omega) fun h' eb => ⟨rfl, I.turned (t' := s.toks) (fun b o hb e => eb b o hb e) f0 f1 f3 f4 f5⟩
  self := fun _ _ _ _ _ st h => wpAny_pyIter_tupleiter st h
theorem turn_range {P : Program} {w : World} {K : PySem.W.Frag} {tg : Expr} (it : Addr) (lo : Int) (n : Nat) : Turn P w K tg (Itr lo n) [it] it (fun i h => IsRangeIter h it (lo + (i : Nat) * 1) ((n : Int) - (i : Nat)) 1) where
  mem := by simp
  obj := fun i h st b hb => by
    have e : b = it := by simpa using hb
    subst e
    exact ⟨_, st, fun v z => by
      have z' : Data.fields _ = Data.cell v := z
      cases z'⟩
  keep := fun i h h' st k => k it (by simp) _ st
  item := by
    intro X hP hw hK hc i pins s σ H E I hf st hg
    subst hP hw hK
    obtain ⟨f0, f1, f2, f3, f4, f5⟩ := hf it (by simp)
    have W := Walks.range (prog := X.prog) (w := X.w) (I.ok.hd hc) it lo 1 n
    refine W.item i s _ _ hg st fun v h' tk hv st' kk => ?_
    obtain ⟨t, rfl⟩ := hv
    have I1 : Inv X pins σ H { s with heap := h', toks := tk } := I.turned (fun b o hb e => kk b o (by simpa using hb) e) f0 f1 f3 f4 f5
    refine ⟨_, rfl, go_of (s := { s with heap := h', toks := tk }) (n := "range_iterator") st' rfl rfl (by decide) ⟨.int (lo + i), H, I1, ⟨t, ?_⟩, ⟨rfl, rfl⟩, st', fun b hb => (hf b hb).1⟩⟩
    rw [Int.mul_one]
  done := by
    intro X hP hw hK hc i pins s σ H E I hf st hg
    subst hP hw hK
    obtain ⟨f0, f1, f2, f3, f4, f5⟩ := hf it (by simp)
    exact wpAny_pyNext_range_end (I.ok.hd hc) st (by have : n ≤ i := hg; omega) fun h' eb => ⟨rfl, I.turned (t' := s.toks) (fun b o hb e => eb b o hb e) f0 f1 f3 f4 f5⟩
  self := fun _ _ _ _ _ st h => wpAny_pyIter_rangeiter st h
end L2

namespace L2
open PySem PySem.Spec PyProof.Rows
section
variable {X : Cx} {tg : Expr}
def iList (K : PySem.W.Frag) (tl : TE) : TI := fun σ H R => tl σ H fun x H1 => ∃ a, x = .ref a ∧ (∃ xs, SqL K H1 a xs) ∧ R (Itl K a) H1
def iTup (K : PySem.W.Frag) (tl : TE) : TI := fun σ H R => tl σ H fun x H1 => ∃ a, x = .ref a ∧ (∃ xs, SqT K H1 a xs) ∧ R (Itt K a) H1
theorem pi_list {l : Expr} {tl : TE} (hl : PE X l tl) : PI X tg l (iList X.K tl) := by
  intro pins s σ H R I h
  refine thn (hl pins s σ H _ I h) fun v s1 ⟨x, H1, I1, r1, q1⟩ => ?_
  obtain ⟨a, e, ⟨xs, hq⟩, q⟩ := q1
  subst e
  cases r1
  obtain ⟨its, rv, p, hz⟩ := I1.list hq
  refine wpAny_pyIter_list p.isList ?_
  refine ⟨s1.heap.objs.size, [s1.heap.objs.size], _, _, H1, rfl, I1.kept (t' := s1.toks) fun b o e => Heap.get?_push_of_some _ e, turn_list a _, ⟨_, Heap.get?_push_size _ rfl, rfl, rfl⟩, fun b hb => ?_, q⟩
  have e : b = s1.heap.objs.size := by simpa using hb
  subst e
  exact I1.fpOk (Nat.le_refl _) (I1.hok.fresh (Nat.le_refl _))
theorem pi_tup {l : Expr} {tl : TE} (hl : PE X l tl) : PI X tg l (iTup X.K tl) := by
  intro pins s σ H R I h
  refine thn (hl pins s σ H _ I h) fun v s1 ⟨x, H1, I1, r1, q1⟩ => ?_
  obtain ⟨a, e, ⟨xs, hq⟩, q⟩ := q1
  subst e
  cases r1
  obtain ⟨its, rv, p, hz⟩ := I1.tuple hq
  refine wpAny_pyIter_tuple (show s1.heap.IsTuple a its.toArray from p) ?_
  refine ⟨s1.heap.objs.size, [s1.heap.objs.size], _, _, H1, rfl, I1.kept (t' := s1.toks) fun b o e => Heap.get?_push_of_some _ e, turn_tuple a _, ⟨_, Heap.get?_push_size _ rfl, rfl, rfl⟩, fun b hb => ?_, q⟩
  have e : b = s1.heap.objs.size := by simpa using hb
  subst e
  exact I1.fpOk (Nat.le_refl _) (I1.hok.fresh (Nat.le_refl _))
/-- a range object just made, walked -/
theorem range_it {pins : List (Addr × Obj)} {σ : St} {H : Hp} {s : Shared} {R : It → Hp → Prop} {E : Value → Shared → Prop} {lo hi : Int} {t u v : Tok} {tk : Nat} (I : Inv X pins σ H s) (h1 : -(2 ^ 62) ≤ lo) (h2 : lo < 2 ^ 62) (h3 : -(2 ^ 62) ≤ hi) (h4 : hi < 2 ^ 62)
    (q : R (Itr lo (hi - lo).toNat) H) : wpAny (model X.prog X.w) X.A (pyIter (.ref s.heap.objs.size)) (PIE X pins σ tg R) E { s with heap := s.heap.push { cls := .type "range", data := .fields #[.int lo t, .int hi u, .int 1 v] }, toks := tk } := by
  refine wpAny_pyIter_range (IsRange.new ..) (small_one h1 h2 h3 h4) ?_
  have I1 : Inv X pins σ H { s with heap := s.heap.push { cls := .type "range", data := .fields #[.int lo t, .int hi u, .int 1 v] }, toks := tk } := I.kept fun b o e => Heap.get?_push_of_some _ e
  refine ⟨(s.heap.push { cls := .type "range", data := .fields #[.int lo t, .int hi u, .int 1 v] }).objs.size, [(s.heap.push { cls := .type "range", data := .fields #[.int lo t, .int hi u, .int 1 v] }).objs.size], _, _, H, rfl,
    I1.kept (t' := tk) fun b o e => Heap.get?_push_of_some _ e, turn_range _ lo (hi - lo).toNat, ?_, fun b hb => ?_, q⟩
  · have e1 : lo + ((0 : Nat) : Int) * 1 = lo := by simp
    have e2 : (((hi - lo).toNat : Nat) : Int) - ((0 : Nat) : Int) = Builtin.Range.rangeSize lo hi 1 := by rw [rangeSize_one]; split <;> omega
    show IsRangeIter _ _ (lo + ((0 : Nat) : Int) * 1) ((((hi - lo).toNat : Nat) : Int) - ((0 : Nat) : Int)) 1
    rw [e1, e2]
    exact Heap.get?_push_size _ rfl
  · have e : b = (s.heap.push { cls := .type "range", data := .fields #[.int lo t, .int hi u, .int 1 v] }).objs.size := by simpa using hb
    subst e
    exact I1.fpOk (Nat.le_refl _) (I1.hok.fresh (Nat.le_refl _))
def iRng1 (ta : TA) : TI := fun σ H R => ta σ H fun vs H1 => ∃ j : Int, vs = [.int j] ∧ -(2 ^ 62) ≤ j ∧ j < 2 ^ 62 ∧ R (Itr 0 j.toNat) H1
theorem pi_range1 {a : Expr} {ta : TA} {p pos : Pos} (hg : Gl X "range") (hm : X.mg "range" = none) (ha : PA X [a] ta) (hs : starEach [a] X.env = [(false, eval a X.env)] := by rfl) : PI X tg (.Call (.Name "range" p) [a] [] pos) (iRng1 ta) := by
  intro pins s σ H R I h
  refine Call_ (ld_blt I hg hm boot_range (PyProof.Rows.callWith_type1 (thn (ha pos pins s σ H _ I h) fun us s1 ⟨vs, H1, I1, r1, q1⟩ => ?_) hs rfl))
  obtain ⟨j, e, q1, q2, q⟩ := q1
  subst e
  cases r1 with
  | cons r rr =>
    cases rr
    obtain ⟨t, rfl⟩ := r
    exact call_range_1 (range_it I1 (by omega) (by omega) q1 q2 (by simpa using q))

/-! ### for -/
/-- W: the invariant by the turn and a measure; N: what the body is to reach -/
def tFor (wi : TI) (g : TG) (tb : TS) : TS := fun D σ H => wi σ H fun J H1 => ∃ W : Nat → Nat → St → Hp → Prop, (∃ m, W 0 m σ H1) ∧ ∀ i m σ H, W i m σ H →
  (J.stop i H ∧ D.nx σ H) ∨ (J.go i H ∧ ∃ N : St → Hp → Prop, (∀ σ' H', N σ' H' → ∃ m', m' < m ∧ W (i + 1) m' σ' H') ∧ ∀ x H', J.yld i H x H' → g x σ H' fun σ2 H2 => tb { D with nx := N, ct := N, bk := D.nx } σ2 H2)
/-- the records at fp as they stand -/
def pinsAt (fp : List Addr) (h : Heap) : List (Addr × Obj) := fp.filterMap fun b => (h.get? b).map fun o => (b, o)
theorem mem_pinsAt {fp : List Addr} {h : Heap} {b : Addr} {o : Obj} (hb : b ∈ fp) (e : h.get? b = some o) : (b, o) ∈ pinsAt fp h := List.mem_filterMap.mpr ⟨b, hb, by rw [e]; rfl⟩
theorem of_pinsAt {fp : List Addr} {h : Heap} {p : Addr × Obj} (hp : p ∈ pinsAt fp h) : p.1 ∈ fp ∧ h.get? p.1 = some p.2 := by
  obtain ⟨b, hb, e⟩ := List.mem_filterMap.mp hp
  cases q : h.get? b with
  | none => rw [q] at e; cases e
  | some o =>
    rw [q] at e
    have e' : (b, o) = p := Option.some.inj e
    subst e'
    exact ⟨hb, q⟩
theorem Inv.pinned {pins : List (Addr × Obj)} {σ : St} {H : Hp} {s : Shared} {fp : List Addr} (I : Inv X pins σ H s) (hf : ∀ b ∈ fp, FpOk X pins H b) (ho : ∀ b ∈ fp, ∃ o, s.heap.get? b = some o ∧ ∀ v, o.data ≠ .cell v) : Inv X (pins ++ pinsAt fp s.heap) σ H s :=
  I.pins_of fun p hp => (List.mem_append.mp hp).elim (fun z => I.pin p (List.mem_append_right _ z)) fun z => by
    obtain ⟨hb, e⟩ := of_pinsAt z
    obtain ⟨f0, f1, f2, _⟩ := hf p.1 hb
    obtain ⟨o, e', d⟩ := ho p.1 hb
    rw [e] at e'; cases e'
    exact ⟨e, f0, f1, f2, d⟩
theorem Inv.unpinned {pins pl : List (Addr × Obj)} {σ : St} {H : Hp} {s : Shared} (I : Inv X (pins ++ pl) σ H s) : Inv X pins σ H s := I.pins_of fun p hp => I.pin p (List.mem_append_right _ (List.mem_append_left _ hp))
theorem ps_for {iter : Expr} {body : List Stmt} {wi : TI} {g : TG} {tb : TS} {pos : Pos} (hp : PassesOwn (model X.prog X.w) X.A X.env X.xe) (hc : X.calm = true) (hi : PI X tg iter wi) (hg : PG X tg g) (hb : PSs X body tb)
    (hs : ∀ x, foldedSetIterable iter X.env x = pure x := by intro _; rfl) : PS X (.For tg iter body [] pos) (tFor wi g tb) := by
  intro pins s σ H D I h
  refine wpAny_For (thn (hi pins s σ H _ I h) fun v s1 h1 => thn h1 fun itv s2 h2 => ?_) hs
  obtain ⟨it, fp, tn, J, H2, e, I2, T, st2, f2, W, ⟨m0, w0⟩, turn⟩ := h2
  subst e
  -- what stays true of the iterator's objects through the loop
  have stat : ∀ {H' : Hp}, (∀ b ∈ fp, H' b = none) → ∀ b ∈ fp, FpOk X pins H' b := fun hn b hb => ⟨hn b hb, (f2 b hb).2⟩
  refine codeAny_forLoop_any (fun n s' => ∃ i σ' H', Inv X pins σ' H' s' ∧ tn i s'.heap ∧ (∀ b ∈ fp, H' b = none) ∧ W i n σ' H') ?_ m0 ⟨0, σ, H2, I2, st2, fun b hb => (f2 b hb).1, w0⟩
  rintro n s3 ⟨i, σ3, H3, I3, st3, fr3, w3⟩
  rcases turn i n σ3 H3 w3 with ⟨stop, qn⟩ | ⟨go, N, hN, step⟩
  · refine wpAny_passesOwn hp (thn (T.done X rfl rfl rfl hc i pins s3 σ3 H3 X.xe I3 (stat fr3) st3 stop) fun r s4 ⟨hr, I4⟩ => ?_)
    subst hr
    exact wpAny_execs_nil ⟨σ3, H3, I4, qn⟩
  · refine wpAny_passesOwn hp (thn (T.item X rfl rfl rfl hc i pins s3 σ3 H3 X.xe I3 (stat fr3) st3 go) fun r s4 ⟨u, hr, h4⟩ => ?_)
    subst hr
    refine wpAny_passesOwn hp (thn h4 fun _ s5 ⟨x, H5, I5, r5, y5, st5, fr5⟩ => ?_)
    have I5' := I5.pinned (stat fr5) (T.obj _ _ st5)
    refine wpAny_passesOwn hp (thn (hg _ s5 σ3 H5 x u _ I5' r5 (step x H5 y5)) fun _ s6 ⟨σ6, H6, I6, q6⟩ => ?_)
    refine wpAny_passesOwn hp (thn (hb _ s6 σ6 H6 _ I6 q6) fun f s7 q7 => ?_)
    have again : ∀ {σ7 : St} {H7 : Hp}, Inv X (pins ++ pinsAt fp s5.heap) σ7 H7 s7 → N σ7 H7 → ∃ m, m < n ∧ ∃ i σ' H', Inv X pins σ' H' s7 ∧ tn i s7.heap ∧ (∀ b ∈ fp, H' b = none) ∧ W i m σ' H' := fun {σ7 H7} I7 n7 => by
      obtain ⟨m', hm, w7⟩ := hN σ7 H7 n7
      refine ⟨m', hm, i + 1, σ7, H7, I7.unpinned, T.keep _ _ _ st5 fun b hb o e => (I7.pin (b, o) (List.mem_append_right _ (List.mem_append_right _ (mem_pinsAt hb e)))).1, fun b hb => ?_, w7⟩
      obtain ⟨o, e, d⟩ := T.obj _ _ st5 b hb
      exact (I7.pin (b, o) (List.mem_append_right _ (List.mem_append_right _ (mem_pinsAt hb e)))).2.1
    cases f with
    | next => obtain ⟨σ7, H7, I7, n7⟩ := q7; exact again I7 n7
    | cont => obtain ⟨σ7, H7, I7, n7⟩ := q7; exact again I7 n7
    | brk => obtain ⟨σ7, H7, I7, q7⟩ := q7; exact ⟨σ7, H7, I7.unpinned, q7⟩
    | ret v => obtain ⟨x7, σ7, H7, I7, r7, q7⟩ := q7; exact ⟨x7, σ7, H7, I7.unpinned, r7, q7⟩
end

/-! ### the forms one uses -/
/-- over a list that the body leaves as it is -/
theorem for_list {K : PySem.W.Frag} {a : Addr} {xs : List V} {g : TG} {tb : TS} {D : Ends} {σ : St} {H : Hp} (Pv : Nat → St → Hp → Prop) (h0 : Pv 0 σ H) (hl : ∀ i σ H, i ≤ xs.length → Pv i σ H → SqL K H a xs)
    (hs : ∀ i x σ H, xs[i]? = some x → Pv i σ H → g x σ H fun σ2 H2 => tb { D with nx := Pv (i + 1), ct := Pv (i + 1), bk := D.nx } σ2 H2) (hd : ∀ σ H, Pv xs.length σ H → D.nx σ H) :
    ∃ W : Nat → Nat → St → Hp → Prop, (∃ m, W 0 m σ H) ∧ ∀ i m σ H, W i m σ H →
      ((Itl K a).stop i H ∧ D.nx σ H) ∨ ((Itl K a).go i H ∧ ∃ N : St → Hp → Prop, (∀ σ' H', N σ' H' → ∃ m', m' < m ∧ W (i + 1) m' σ' H') ∧ ∀ x H', (Itl K a).yld i H x H' → g x σ H' fun σ2 H2 => tb { D with nx := N, ct := N, bk := D.nx } σ2 H2) := by
  refine ⟨fun i m σ H => m = xs.length - i ∧ i ≤ xs.length ∧ Pv i σ H, ⟨xs.length, by simp, Nat.zero_le _, h0⟩, ?_⟩
  rintro i m σ H ⟨rfl, hi, p⟩
  have q := hl i σ H hi p
  by_cases hlt : i < xs.length
  · refine .inr ⟨⟨xs, xs[i], q, by simp [hlt]⟩, Pv (i + 1), fun σ' H' p' => ⟨xs.length - (i + 1), by omega, rfl, hlt, p'⟩, fun x H' y => ?_⟩
    obtain ⟨e, y⟩ := y
    subst e
    exact hs i x σ _ (y xs q) p
  · have e : i = xs.length := by omega
    subst e
    exact .inl ⟨⟨xs, q, Nat.le_refl _⟩, hd σ H p⟩
theorem for_range {lo : Int} {n : Nat} {g : TG} {tb : TS} {D : Ends} {σ : St} {H : Hp} (Pv : Nat → St → Hp → Prop) (h0 : Pv 0 σ H)
    (hs : ∀ i σ H, i < n → Pv i σ H → g (.int (lo + i)) σ H fun σ2 H2 => tb { D with nx := Pv (i + 1), ct := Pv (i + 1), bk := D.nx } σ2 H2) (hd : ∀ σ H, Pv n σ H → D.nx σ H) :
    ∃ W : Nat → Nat → St → Hp → Prop, (∃ m, W 0 m σ H) ∧ ∀ i m σ H, W i m σ H →
      ((Itr lo n).stop i H ∧ D.nx σ H) ∨ ((Itr lo n).go i H ∧ ∃ N : St → Hp → Prop, (∀ σ' H', N σ' H' → ∃ m', m' < m ∧ W (i + 1) m' σ' H') ∧ ∀ x H', (Itr lo n).yld i H x H' → g x σ H' fun σ2 H2 => tb { D with nx := N, ct := N, bk := D.nx } σ2 H2) := by
  refine ⟨fun i m σ H => m = n - i ∧ i ≤ n ∧ Pv i σ H, ⟨n, by simp, Nat.zero_le _, h0⟩, ?_⟩
  rintro i m σ H ⟨rfl, hi, p⟩
  by_cases hlt : i < n
  · refine .inr ⟨hlt, Pv (i + 1), fun σ' H' p' => ⟨n - (i + 1), by omega, rfl, hlt, p'⟩, fun x H' y => ?_⟩
    obtain ⟨e, y⟩ := y
    subst e y
    exact hs i σ _ hlt p
  · have e : i = n := by omega
    subst e
    exact .inl ⟨Nat.le_refl _, hd σ H p⟩
end L2

namespace L2
open PySem PySem.Spec PyProof.Rows

abbrev R2 := V → V → Hp → VK → Prop
/-- a two-place operation on values: f is binaryOp op, inplaceOp op or compareOp op -/
def OpR (X : Cx) (f : Value → Value → Sem Value) (r : R2) : Prop :=
  ∀ (pins : List (Addr × Obj)) (s : Shared) (σ : St) (H : Hp) (x y : V) (v u : Value) (Q : VK), Inv X pins σ H s → RelV x v → RelV y u → r x y H Q →
    wpAny (model X.prog X.w) X.A (f v u) (EP X pins σ Q) X.xe s
/-- a one-place operation -/
def UnR (X : Cx) (f : Value → Sem Value) (r : V → Hp → VK → Prop) : Prop :=
  ∀ (pins : List (Addr × Obj)) (s : Shared) (σ : St) (H : Hp) (x : V) (v : Value) (Q : VK), Inv X pins σ H s → RelV x v → r x H Q →
    wpAny (model X.prog X.w) X.A (f v) (EP X pins σ Q) X.xe s
/-- a call of a value that is known (a builtin, a type) with values -/
def CallR (X : Cx) (f : Value) (r : List V → Hp → VK → Prop) : Prop :=
  ∀ (pins : List (Addr × Obj)) (s : Shared) (σ : St) (H : Hp) (xs : List V) (us : List Value) (Q : VK), Inv X pins σ H s → Vals xs us → r xs H Q →
    wpAny (model X.prog X.w) X.A (call f us) (EP X pins σ Q) X.xe s

def tOp (r : R2) (ta tb : TE) : TE := fun σ H Q => ta σ H fun x H1 => tb σ H1 fun y H2 => r x y H2 Q
def tUn (r : V → Hp → VK → Prop) (ta : TE) : TE := fun σ H Q => ta σ H fun x H1 => r x H1 Q
/-- ints in, under C, and a value out -/
def rI (C : Int → Int → Prop) (g : Int → Int → V) : R2 := fun x y H Q => ∃ i j, x = .int i ∧ y = .int j ∧ C i j ∧ Q (g i j) H
def rI0 (g : Int → Int → V) : R2 := fun x y H Q => ∃ i j, x = .int i ∧ y = .int j ∧ Q (g i j) H
def rU (g : Int → V) : V → Hp → VK → Prop := fun x H Q => ∃ i, x = .int i ∧ Q (g i) H

section
variable {X : Cx} {a b c : Expr} {ta tb tc : TE} {pos : Pos}

theorem binT (ha : PE X a ta) (hb : PE X b tb) {pins : List (Addr × Obj)} {s : Shared} {σ : St} {H : Hp} {R : V → V → Hp → Prop} (I : Inv X pins σ H s)
    (h : ta σ H fun x H1 => tb σ H1 fun y H2 => R x y H2) {Q : Value → Shared → Prop} {f : Value → Value → Sem Value}
    (hf : ∀ v u s2 x y H2, Inv X pins σ H2 s2 → RelV x v → RelV y u → R x y H2 → wpAny (model X.prog X.w) X.A (f v u) Q X.xe s2) :
    wpAny (model X.prog X.w) X.A (eval a X.env) (fun v s₁ => wpAny (model X.prog X.w) X.A (eval b X.env) (fun u s₂ => wpAny (model X.prog X.w) X.A (f v u) Q X.xe s₂) X.xe s₁) X.xe s := by
  refine thn (ha pins s σ H _ I h) fun v s1 ⟨x, H1, I1, r1, q1⟩ => ?_
  refine thn (hb pins s1 σ H1 _ I1 q1) fun u s2 ⟨y, H2, I2, r2, q2⟩ => ?_
  exact hf v u s2 x y H2 I2 r1 r2 q2

theorem pe_op {op : Operator} {r : R2} (ho : OpR X (binaryOp op) r) (ha : PE X a ta) (hb : PE X b tb) : PE X (.BinOp a op b pos) (tOp r ta tb) := by
  intro pins s σ H Q I h
  exact wpAny_BinOp (binT ha hb I h fun v u s2 x y H2 I2 rx ry q => ho pins s2 σ H2 x y v u Q I2 rx ry q)
theorem pe_un {op : UnaryOp} {r : V → Hp → VK → Prop} (ho : UnR X (unaryOp op) r) (ha : PE X a ta) : PE X (.UnaryOp op a pos) (tUn r ta) := by
  intro pins s σ H Q I h
  exact UnaryOp_ (thn (ha pins s σ H _ I h) fun v s1 ⟨x, H1, I1, r1, q1⟩ => ho pins s1 σ H1 x v Q I1 r1 q1)

/-! ### ints -/
theorem opI {f : Value → Value → Sem Value} {C : Int → Int → Prop} {g : Int → Int → Int}
    (rule : ∀ (i j : Int) (t u : Tok) (s : Shared) (Q : Value → Shared → Prop) (E : Value → Shared → Prop), C i j → Q (.int (g i j) s.toks) { s with toks := s.toks + 1 } → wpAny (model X.prog X.w) X.A (f (.int i t) (.int j u)) Q E s) :
    OpR X f (rI C fun i j => .int (g i j)) := by
  intro pins s σ H x y v u Q I rx ry h
  obtain ⟨i, j, rfl, rfl, hc, q⟩ := h
  obtain ⟨t, rfl⟩ := rx
  obtain ⟨t', rfl⟩ := ry
  exact rule i j t t' s _ _ hc ⟨.int (g i j), H, I.tok _, ⟨_, rfl⟩, q⟩
theorem opI0 {f : Value → Value → Sem Value} {g : Int → Int → Int}
    (rule : ∀ (i j : Int) (t u : Tok) (s : Shared) (Q : Value → Shared → Prop) (E : Value → Shared → Prop), Q (.int (g i j) s.toks) { s with toks := s.toks + 1 } → wpAny (model X.prog X.w) X.A (f (.int i t) (.int j u)) Q E s) :
    OpR X f (rI0 fun i j => .int (g i j)) := by
  intro pins s σ H x y v u Q I rx ry h
  obtain ⟨i, j, rfl, rfl, q⟩ := h
  obtain ⟨t, rfl⟩ := rx
  obtain ⟨t', rfl⟩ := ry
  exact rule i j t t' s _ _ ⟨.int (g i j), H, I.tok _, ⟨_, rfl⟩, q⟩
theorem opB0 {f : Value → Value → Sem Value} {g : Int → Int → Bool}
    (rule : ∀ (i j : Int) (t u : Tok) (s : Shared) (Q : Value → Shared → Prop) (E : Value → Shared → Prop), Q (.bool (g i j)) s → wpAny (model X.prog X.w) X.A (f (.int i t) (.int j u)) Q E s) :
    OpR X f (rI0 fun i j => .bl (g i j)) := by
  intro pins s σ H x y v u Q I rx ry h
  obtain ⟨i, j, rfl, rfl, q⟩ := h
  obtain ⟨t, rfl⟩ := rx
  obtain ⟨t', rfl⟩ := ry
  exact rule i j t t' s _ _ ⟨.bl (g i j), H, I, rfl, q⟩

def CDiv (i j : Int) : Prop := 0 < j ∧ j < 1073741824
def CPow (i j : Int) : Prop := 0 ≤ j ∧ j ≤ 1000000 ∧ i.natAbs < 2 ^ 64
def CMul (i j : Int) : Prop := (-(2 ^ 64) < i ∧ i < 2 ^ 64) ∨ (-(2 ^ 64) < j ∧ j < 2 ^ 64)
theorem CMul.ok {i j : Int} (h : CMul i j) : IntMulOk i j := by
  rcases h with ⟨h1, h2⟩ | ⟨h1, h2⟩
  · exact .of_left (intBits_le_64 h1 h2)
  · exact .of_right (intBits_le_64 h1 h2)

theorem op_add : OpR X (binaryOp .Add) (rI0 fun i j => .int (i + j)) := opI0 fun _ _ _ _ _ _ _ q => add_int q
theorem op_sub : OpR X (binaryOp .Sub) (rI0 fun i j => .int (i - j)) := opI0 fun _ _ _ _ _ _ _ q => sub_int q
theorem op_mul : OpR X (binaryOp .Mult) (rI CMul fun i j => .int (i * j)) := opI fun _ _ _ _ _ _ _ hc q => mul_int q hc.ok
/-- // by a positive divisor -/
theorem op_fdiv : OpR X (binaryOp .FloorDiv) (rI CDiv fun i j => .int (i / j)) := opI fun i j _ _ _ _ _ hc q => by
  have h1 : (0 : Int) < j := hc.1
  have h2 : j < 1073741824 := hc.2
  exact floordiv_int (by omega) (by rw [Int.fdiv_eq_ediv_of_nonneg i (by omega)]; exact q) (.inl (PyProof.noPylong_small (by omega)))
/-- % by a positive divisor of any size -/
theorem op_mod : OpR X (binaryOp .Mod) (rI (fun _ j => 0 < j) fun i j => .int (i % j)) := opI fun i j _ _ _ _ _ hc q => by
  have h1 : (0 : Int) < j := hc
  exact mod_int' (by omega) (by rw [Int.fmod_eq_emod_of_nonneg i (by omega)]; exact q)
theorem op_pow : OpR X (binaryOp .Pow) (rI CPow fun i j => .int (i ^ j.toNat)) := opI fun _ _ _ _ _ _ _ hc q => pow_int_small hc.1 hc.2.1 hc.2.2 q


theorem unI {f : Value → Sem Value} {g : Int → Int}
    (rule : ∀ (i : Int) (t : Tok) (s : Shared) (Q : Value → Shared → Prop) (E : Value → Shared → Prop), Q (.int (g i) s.toks) { s with toks := s.toks + 1 } → wpAny (model X.prog X.w) X.A (f (.int i t)) Q E s) :
    UnR X f (rU fun i => .int (g i)) := by
  intro pins s σ H x v Q I rx h
  obtain ⟨i, rfl, q⟩ := h
  obtain ⟨t, rfl⟩ := rx
  exact rule i t s _ _ ⟨.int (g i), H, I.tok _, ⟨_, rfl⟩, q⟩
theorem un_neg : UnR X (unaryOp .USub) (rU fun i => .int (-i)) := unI fun _ _ _ _ _ q => neg_int q

/-! ### bools among ints: n += (a < b) -/
end

/-! ### comparisons -/
/-- the scalars that == tells apart as data does -/
def scal : V → V → Bool
  | .non, .non => true | .non, .int _ => true | .int _, .non => true | .non, .bl _ => true | .bl _, .non => true | .non, .str _ => true | .str _, .non => true
  | .int _, .int _ => true | .bl _, .bl _ => true | .str _, .str _ => true | .byt _, .byt _ => true
  | .int _, .str _ => true | .str _, .int _ => true | .bl _, .str _ => true | .str _, .bl _ => true
  | _, _ => false
def rEq : R2 := fun x y H Q => scal x y = true ∧ Q (.bl (decide (x = y))) H
def rNe : R2 := fun x y H Q => scal x y = true ∧ Q (.bl (!decide (x = y))) H

theorem dec_int {i j : Int} : decide (V.int i = V.int j) = (i == j) := by
  rw [Bool.eq_iff_iff]
  simp
theorem dec_bl {i j : Bool} : decide (V.bl i = V.bl j) = (i == j) := by
  rw [Bool.eq_iff_iff]
  simp
theorem dec_str {i j : Str} : decide (V.str i = V.str j) = (i == j) := by
  rw [Bool.eq_iff_iff]
  simp
theorem dec_byt {i j : Array UInt8} : decide (V.byt i = V.byt j) = (i.toList == j.toList) := by
  rw [Bool.eq_iff_iff]
  cases i
  cases j
  simp

section
variable {X : Cx} {a b c : Expr} {ta tb tc : TE} {pos : Pos}
theorem fin_bl {pins : List (Addr × Obj)} {σ : St} {H : Hp} {s : Shared} {Q : VK} {k k' : Bool} (I : Inv X pins σ H s) (q : Q (.bl k) H) (e : k = k') : EP X pins σ Q (.bool k') s := by
  subst e
  exact ⟨.bl k, H, I, rfl, q⟩
theorem op_eq : OpR X (compareOp .Eq) rEq := by
  intro pins s σ H x y v u Q I rx ry h
  obtain ⟨hs, q⟩ := h
  cases x with
  | non =>
    cases rx
    cases y with
    | non => cases ry; exact PySem.EqNone.eq_none_none (fin_bl I q (by simp))
    | bl j => cases ry; exact PySem.EqNone.eq_none_bool (fin_bl I q (by simp))
    | int j => obtain ⟨t', rfl⟩ := ry; exact PySem.EqNone.eq_none_int (fin_bl I q (by simp))
    | str j => obtain ⟨t', rfl⟩ := ry; exact PySem.EqNone.eq_none_str (fin_bl I q (by simp))
    | _ => exact absurd (show false = true from hs) Bool.false_ne_true
  | bl i =>
    cases rx
    cases y with
    | non => cases ry; exact PySem.EqNone.eq_bool_none (fin_bl I q (by simp))
    | bl j => cases ry; exact eq_bool (fin_bl I q dec_bl)
    | str j => obtain ⟨t', rfl⟩ := ry; exact PySem.EqMixed.eq_bool_str (fin_bl I q (by simp))
    | _ => exact absurd (show false = true from hs) Bool.false_ne_true
  | int i =>
    obtain ⟨t, rfl⟩ := rx
    cases y with
    | non => cases ry; exact PySem.EqNone.eq_int_none (fin_bl I q (by simp))
    | int j => obtain ⟨t', rfl⟩ := ry; exact eq_int (fin_bl I q dec_int)
    | str j => obtain ⟨t', rfl⟩ := ry; exact PySem.EqMixed.eq_int_str (fin_bl I q (by simp))
    | _ => exact absurd (show false = true from hs) Bool.false_ne_true
  | str i =>
    obtain ⟨t, rfl⟩ := rx
    cases y with
    | non => cases ry; exact PySem.EqNone.eq_str_none (fin_bl I q (by simp))
    | bl j => cases ry; exact PySem.EqMixed.eq_str_bool (fin_bl I q (by simp))
    | int j => obtain ⟨t', rfl⟩ := ry; exact PySem.EqMixed.eq_str_int (fin_bl I q (by simp))
    | str j => obtain ⟨t', rfl⟩ := ry; exact eq_str (fin_bl I q dec_str)
    | _ => exact absurd (show false = true from hs) Bool.false_ne_true
  | byt i =>
    obtain ⟨t, rfl⟩ := rx
    cases y with
    | byt j => obtain ⟨t', rfl⟩ := ry; exact PySem.W.eq_bytes (fin_bl I q dec_byt)
    | _ => exact absurd (show false = true from hs) Bool.false_ne_true
  | _ => cases y <;> exact absurd (show false = true from hs) Bool.false_ne_true
theorem op_ne : OpR X (compareOp .NotEq) rNe := by
  intro pins s σ H x y v u Q I rx ry h
  obtain ⟨hs, q⟩ := h
  cases x with
  | non =>
    cases rx
    cases y with
    | non => cases ry; exact PySem.EqNone.ne_none_none (fin_bl I q (by simp))
    | bl j => cases ry; exact PySem.EqNone.ne_none_bool (fin_bl I q (by simp))
    | int j => obtain ⟨t', rfl⟩ := ry; exact PySem.EqNone.ne_none_int (fin_bl I q (by simp))
    | str j => obtain ⟨t', rfl⟩ := ry; exact PySem.EqNone.ne_none_str (fin_bl I q (by simp))
    | _ => exact absurd (show false = true from hs) Bool.false_ne_true
  | bl i =>
    cases rx
    cases y with
    | non => cases ry; exact PySem.EqNone.ne_bool_none (fin_bl I q (by simp))
    | bl j => cases ry; exact ne_bool (fin_bl I q (congrArg not dec_bl))
    | str j => obtain ⟨t', rfl⟩ := ry; exact PySem.EqMixed.ne_bool_str (fin_bl I q (by simp))
    | _ => exact absurd (show false = true from hs) Bool.false_ne_true
  | int i =>
    obtain ⟨t, rfl⟩ := rx
    cases y with
    | non => cases ry; exact PySem.EqNone.ne_int_none (fin_bl I q (by simp))
    | int j => obtain ⟨t', rfl⟩ := ry; exact ne_int (fin_bl I q (congrArg not dec_int))
    | str j => obtain ⟨t', rfl⟩ := ry; exact PySem.EqMixed.ne_int_str (fin_bl I q (by simp))
    | _ => exact absurd (show false = true from hs) Bool.false_ne_true
  | str i =>
    obtain ⟨t, rfl⟩ := rx
    cases y with
    | non => cases ry; exact PySem.EqNone.ne_str_none (fin_bl I q (by simp))
    | bl j => cases ry; exact PySem.EqMixed.ne_str_bool (fin_bl I q (by simp))
    | int j => obtain ⟨t', rfl⟩ := ry; exact PySem.EqMixed.ne_str_int (fin_bl I q (by simp))
    | str j => obtain ⟨t', rfl⟩ := ry; exact ne_str (fin_bl I q (congrArg not dec_str))
    | _ => exact absurd (show false = true from hs) Bool.false_ne_true
  | byt i =>
    obtain ⟨t, rfl⟩ := rx
    cases y with
    | byt j => obtain ⟨t', rfl⟩ := ry; exact PySem.W.ne_bytes (fin_bl I q (congrArg not dec_byt))
    | _ => exact absurd (show false = true from hs) Bool.false_ne_true
  | _ => cases y <;> exact absurd (show false = true from hs) Bool.false_ne_true

theorem op_lt : OpR X (compareOp .Lt) (rI0 fun i j => .bl (decide (i < j))) := opB0 fun _ _ _ _ _ _ _ q => lt_int q
theorem op_le : OpR X (compareOp .LtE) (rI0 fun i j => .bl (decide (i ≤ j))) := opB0 fun _ _ _ _ _ _ _ q => le_int q
theorem op_gt : OpR X (compareOp .Gt) (rI0 fun i j => .bl (decide (j < i))) := opB0 fun _ _ _ _ _ _ _ q => gt_int q
theorem op_ge : OpR X (compareOp .GtE) (rI0 fun i j => .bl (decide (j ≤ i))) := opB0 fun _ _ _ _ _ _ _ q => ge_int q




theorem nomark (b : Expr) {op : CmpOp} (h : op ≠ .In := by decide) (h2 : op ≠ .NotIn := by decide) : behindInMarks op b = false := by
  have e1 : (op == CmpOp.In) = false := by cases op <;> first | rfl | exact absurd rfl h
  have e2 : (op == CmpOp.NotIn) = false := by cases op <;> first | rfl | exact absurd rfl h2
  cases b <;> simp [behindInMarks, e1, e2]
/-- a comparison as a value; hm: nomark b, or (for in, not in) by with_unfolding_all rfl -/
theorem pe_cmpR {op : CmpOp} {r : R2} (ho : OpR X (compareOp op) r) (ha : PE X a ta) (hb : PE X b tb) (hm : behindInMarks op b = false) : PE X (.Compare a [op] [b] pos) (tOp r ta tb) := by
  intro pins s σ H Q I h
  exact wpAny_Compare1 (binT ha hb I h fun v u s2 x y H2 I2 rx ry q => ho pins s2 σ H2 x y v u Q I2 rx ry q) hm
/-- a reading of a value as a test -/
def tTest (t : TE) : TT := fun σ H Q => t σ H fun x H' => ∃ k, x = .bl k ∧ Q k H'
theorem pt_cmpR {op : CmpOp} {r : R2} (ho : OpR X (compareOp op) r) (ha : PE X a ta) (hb : PE X b tb) (hm : behindInMarks op b = false) : PT X (.Compare a [op] [b] pos) (tTest (tOp r ta tb)) := by
  intro pins s σ H Q I h
  refine wpAny_isTrue_Compare1 (thn (ha pins s σ H _ I h) fun v s1 ⟨x, H1, I1, r1, q1⟩ => thn (hb pins s1 σ H1 _ I1 q1) fun u s2 ⟨y, H2, I2, r2, q2⟩ =>
    thn (ho pins s2 σ H2 x y v u _ I2 r1 r2 q2) fun c s3 ⟨z, H3, I3, r3, k, e, q3⟩ => ?_) hm
  subst e
  cases r3
  exact wpAny_truthy_bool ⟨H3, I3, q3⟩
/-- a op1 b op2 c -/
def tChain (r r' : R2) (ta tb tc : TE) : TE := fun σ H Q => ta σ H fun x H1 => tb σ H1 fun y H2 => r x y H2 fun z H3 => ∃ k, z = .bl k ∧
  (if k = true then tc σ H3 fun w' H4 => r' y w' H4 Q else Q (.bl false) H3)
theorem pe_chain {op op' : CmpOp} {r r' : R2} (ho : OpR X (compareOp op) r) (ho' : OpR X (compareOp op') r') (ha : PE X a ta) (hb : PE X b tb) (hc : PE X c tc)
    (hm : lastMarks [op, op'] [b, c] = false := by with_unfolding_all rfl) : PE X (.Compare a [op, op'] [b, c] pos) (tChain r r' ta tb tc) := by
  intro pins s σ H Q I h
  refine Compare_chain (thn (ha pins s σ H _ I h) fun v s1 ⟨x, H1, I1, r1, q1⟩ => chain_link (thn (hb pins s1 σ H1 _ I1 q1) fun u s2 ⟨y, H2, I2, r2, q2⟩ =>
    thn (ho pins s2 σ H2 x y v u _ I2 r1 r2 q2) fun d s3 ⟨z, H3, I3, r3, k, e, q3⟩ => ?_)) hm
  subst e
  cases r3
  refine wpAny_truthy_bool ?_
  cases k with
  | false => exact ite_ff ⟨.bl false, H3, I3, rfl, q3⟩
  | true => exact ite_tt (chain_last (thn (hc pins s3 σ H3 _ I3 q3) fun w' s4 ⟨z', H4, I4, r4, q4⟩ => ho' pins s4 σ H4 y z' u w' Q I4 r2 r4 q4))

/-! ### truth -/
theorem line63 : (sizeLine : Nat) < 2 ^ 63 := by rw [sizeLine_eq]; decide

/-! ### strs and bytes -/


/-! ### scalar builtins, by CallR -/
theorem vals1 {x : V} {us : List Value} (r : Vals [x] us) : ∃ u, us = [u] ∧ RelV x u := by
  cases r with
  | cons r1 r2 => cases r2; exact ⟨_, rfl, r1⟩
theorem vals2 {x y : V} {us : List Value} (r : Vals [x, y] us) : ∃ u w', us = [u, w'] ∧ RelV x u ∧ RelV y w' := by
  cases r with
  | cons r1 r2 =>
    cases r2 with
    | cons r3 r4 => cases r4; exact ⟨_, _, rfl, r1, r3⟩
theorem call_max2 (hc : X.calm = true) : CallR X (.builtin "max") (fun xs H Q => ∃ i j, xs = [.int i, .int j] ∧ Q (.int (if j > i then j else i)) H) := by
  intro pins s σ H xs us Q I r h
  obtain ⟨i, j, rfl, q⟩ := h
  obtain ⟨u, w', rfl, ⟨t, rfl⟩, ⟨t', rfl⟩⟩ := vals2 r
  refine max_two_ints (I.ok.hd hc) fun h' tk k => ⟨_, H, I.kept k, ?_, q⟩
  by_cases hj : j > i
  · rw [if_pos hj, if_pos hj]; exact ⟨_, rfl⟩
  · rw [if_neg hj, if_neg hj]; exact ⟨_, rfl⟩
theorem call_min2 (hc : X.calm = true) : CallR X (.builtin "min") (fun xs H Q => ∃ i j, xs = [.int i, .int j] ∧ Q (.int (if j < i then j else i)) H) := by
  intro pins s σ H xs us Q I r h
  obtain ⟨i, j, rfl, q⟩ := h
  obtain ⟨u, w', rfl, ⟨t, rfl⟩, ⟨t', rfl⟩⟩ := vals2 r
  refine min_two_ints (I.ok.hd hc) fun h' tk k => ⟨_, H, I.kept k, ?_, q⟩
  by_cases hj : j < i
  · rw [if_pos hj, if_pos hj]; exact ⟨_, rfl⟩
  · rw [if_neg hj, if_neg hj]; exact ⟨_, rfl⟩
theorem call_int1 : CallR X (.type "int") (fun xs H Q => (∃ i, xs = [.int i] ∧ Q (.int i) H) ∨ ∃ k, xs = [.bl k] ∧ Q (.int (if k then 1 else 0)) H) := by
  intro pins s σ H xs us Q I r h
  rcases h with ⟨i, rfl, q⟩ | ⟨k, rfl, q⟩
  · obtain ⟨u, rfl, t, rfl⟩ := vals1 r
    exact call_int_int ⟨.int i, H, I, ⟨_, rfl⟩, q⟩
  · obtain ⟨u, rfl, r1⟩ := vals1 r
    cases r1
    exact call_int_bool ⟨.int (if k then 1 else 0), H, I.tok _, ⟨_, rfl⟩, q⟩
/-- divmod: a new tuple -/
theorem call_divmod : CallR X (.builtin "divmod") (fun xs H Q => ∃ i j, xs = [.int i, .int j] ∧ CDiv i j ∧ ∀ p, H p = none → Q (.ref p) (upd H p (.tup [.int (i / j), .int (i % j)]))) := by
  intro pins s σ H xs us Q I r h
  obtain ⟨i, j, rfl, ⟨h1, h2⟩, q⟩ := h
  obtain ⟨u, w', rfl, ⟨t, rfl⟩, ⟨t', rfl⟩⟩ := vals2 r
  refine divmod_int (by omega) ?_ (.inl (PyProof.noPylong_small (by omega)))
  rw [Int.fdiv_eq_ediv_of_nonneg i (by omega), Int.fmod_eq_emod_of_nonneg i (by omega)]
  have hn : H s.heap.objs.size = none := I.hok.fresh (Nat.le_refl _)
  refine ⟨.ref s.heap.objs.size, _, ?_, rfl, q _ hn⟩
  refine I.laid (fun b o e => Heap.get?_push_of_some _ e) (Nat.le_refl _) ⟨by simp only [List.length_cons, List.length_nil]; rw [sizeLine_eq]; decide, [.int (i / j) s.toks, .int (i % j) (s.toks + 1)], .cons ⟨_, rfl⟩ (.cons ⟨_, rfl⟩ .nil), ?_⟩
  exact ⟨_, Heap.get?_push_size s.heap rfl, rfl, 0, rfl⟩
end
end L2

namespace L2
open PySem PySem.Spec PyProof.Rows

/-! ### an instance, its attributes a map -/
structure ObjM (h : Heap) (x dx C : Addr) (mA : Str → Option Value) : Prop where
  obj : h.get? x = some (PySem.W.instObj C dx)
  ns : h.Ns1 dx mA
  ne : dx ≠ x

theorem lookIn_ns {h : Heap} {dx : Addr} {mA : Str → Option Value} (n : h.Ns1 dx mA) : ∃ od, h.get? dx = some od ∧ ∀ name, PySem.W.lookIn name od = some (mA name) := by
  obtain ⟨o, es, ep, ho, hd, hk, _, hm⟩ := n
  refine ⟨o, ho, fun name => ?_⟩
  have e := hm name
  unfold nsFind findBy at e
  rw [← Array.find?_toList] at e
  unfold PySem.W.lookIn
  rw [hd]
  dsimp only
  split
  · rename_i y q
    rw [q] at e
    exact congrArg some e
  · rename_i q
    rw [q] at e
    have a : es.toList.any (·.refKey) = false := by
      rw [List.any_eq_false]
      intro y hy
      obtain ⟨z, t, hkey⟩ := hk y (Array.mem_toList_iff.mp hy)
      simp [DictEntry.refKey, hkey]
    have a' : ¬ es.toList.any (·.refKey) = true := by rw [a]; exact Bool.false_ne_true
    rw [if_neg a']
    exact congrArg some e

theorem ObjM.look {h : Heap} {x dx C : Addr} {mA : Str → Option Value} (I : ObjM h x dx C mA) : ∃ od, PySem.W.InstAt h x (PySem.W.instObj C dx) C (some od) ∧ ∀ name, PySem.W.lookIn name od = some (mA name) :=
  let ⟨od, ho, hl⟩ := lookIn_ns I.ns
  ⟨od, ⟨I.obj, rfl, rfl, ho⟩, hl⟩

section
variable {prog : Program} {w : World} {A : Around} {E : Value → Shared → Prop} {s : Shared} {K : PySem.W.Frag} {x dx C f : Addr} {mA : Str → Option Value} {name : Str} {v : Value}





end

/-! ### the attributes as a list of pairs -/


section
variable {P : Program} {w : World} {H H' : Hp} {h h' : Heap} {a C dx : Addr} {fs fs' : List (Str × V)}
theorem ins_get (hok : HOk P w H h) (e : H a = some (.ins C dx fs)) : ∃ mA, ObjM h a dx C mA ∧ (∀ f, RelO (fs.lookup f) (mA f)) ∧ PySem.Within mA (fs.map (·.1)) ∧ fs.length ≤ 1000 ∧ H dx = some (.own a) := by
  obtain ⟨d, z, ne, ob, mA, n, r, q⟩ := (show ObjOk P w H h a (.ins C dx fs) from hok a _ e)
  exact ⟨mA, ⟨ob, n, ne⟩, r, q, z, d⟩
end

/-! ### what of the text a class must have -/
structure Cls (K : PySem.W.Frag) (C : Addr) : Prop where
  pg : PySem.W.plainGet K C Str.empty = true
  hd : PySem.W.hasDictIn K C = true
  po : PySem.W.plainOver K C = true
  sa : PySem.W.findIn K (.ref C) "__setattr__" = some (some (.builtin "object.__setattr__"))
theorem Cls.get {K : PySem.W.Frag} {C : Addr} (c : Cls K C) (f : Str) : PySem.W.plainGet K C f = true := c.pg

section
variable {X : Cx} {pins : List (Addr × Obj)} {σ : St} {H : Hp} {s : Shared} {a C dx : Addr} {fs : List (Str × V)} {f : Str} {v : V} {A : Around} {E : Value → Shared → Prop}






end

/-! ### readings and rules -/

section
variable {X : Cx} {o e value : Expr} {f : Str} {pos pos' tpos : Pos} {ta tv : TE}

end

/-! ### isinstance -/
section
variable {X : Cx} {pins : List (Addr × Obj)} {σ : St} {H : Hp} {s : Shared} {A : Around} {E : Value → Shared → Prop} {Q : Value → Shared → Prop} {c : Value} {b : Bool}
/-- the type of a value, as the fragment's deciders take it; for an instance its class -/
inductive TyOf (K : PySem.W.Frag) (H : Hp) : V → Value → Prop where
  | non : TyOf K H .non (.type "NoneType")
  | bl (x : Bool) : TyOf K H (.bl x) (.type "bool")
  | int (i : Int) : TyOf K H (.int i) (.type "int")
  | str (x : Str) : TyOf K H (.str x) (.type "str")
  | flt (x : UInt64) : TyOf K H (.flt x) (.type "float")
  | lst {a : Addr} {xs : List V} (e : H a = some (.lst xs)) : TyOf K H (.ref a) (.type "list")
  | frz {a : Addr} {o : Obj} {xs : List V} (e : H a = some (.frz o (.lst xs))) : TyOf K H (.ref a) (.type "list")
  | tup {a : Addr} {xs : List V} (e : H a = some (.tup xs)) : TyOf K H (.ref a) (.type "tuple")
  | dK {a : Addr} {kvs : List (Key × V)} (e : H a = some (.dK kvs)) : TyOf K H (.ref a) (.type "dict")
  | dT {a : Addr} {kvs : List (List Key × V)} (e : H a = some (.dT kvs)) : TyOf K H (.ref a) (.type "dict")
  | ins {a C dx : Addr} {fs : List (Str × V)} (e : H a = some (.ins C dx fs)) (cl : Cls K C) (ha : PySem.W.findIn K (.ref C) "__class__" = some (some (.builtin "object.__class__")))
      (hn : PySem.W.specialIn K (.builtin "object.__class__") "__get__" = some (some (.builtin "getset_descriptor.__get__"))) (htk : PySem.W.takesIn K (.builtin "object.__class__") = some true)
      (hm : PySem.W.mroIn K C (.type "object") = some true) : TyOf K H (.ref a) (.ref C)
/-- isinstance(x, c) for one class c, a built-in or an own one: kitOne's answer -/
theorem isinst_ok {x : V} {u t : Value} (I : Inv X pins σ H s) (rx : RelV x u) (ty : TyOf X.K H x t) (e : PySem.W.kitOne X.K t c = some b) (h : ∀ tk, Q (.bool b) { s with toks := tk }) :
    wpAny (model X.prog X.w) A (call (.builtin "isinstance") [u, c]) Q E s := by
  cases ty with
  | non => cases (show u = Value.none from rx); exact PySem.W.kia_one PySem.W.kitx_none I.kIn True.intro e (fun z => nomatch z) h
  | bl y => cases (show u = Value.bool y from rx); exact PySem.W.kia_one PySem.W.kitx_bool I.kIn True.intro e (fun z => nomatch z) h
  | int i => obtain ⟨t, q⟩ := (show ∃ t, u = Value.int i t from rx); cases q; exact PySem.W.kia_one PySem.W.kitx_int I.kIn True.intro e (fun z => nomatch z) h
  | str y => obtain ⟨t, q⟩ := (show ∃ t, u = Value.str y t from rx); cases q; exact PySem.W.kia_one PySem.W.kitx_str I.kIn True.intro e (fun z => nomatch z) h
  | flt y => obtain ⟨t, q⟩ := (show ∃ t, u = Value.float y t from rx); cases q; exact PySem.W.kia_one PySem.W.kitx_float I.kIn True.intro e (fun z => nomatch z) h
  | @lst a xs ea =>
    cases (show u = Value.ref a from rx)
    obtain ⟨_, _, n, _, h1⟩ := (show ObjOk X.prog X.w H s.heap a (.lst xs) from I.hok a _ ea)
    exact PySem.W.kia_one PySem.W.kitx_list I.kIn ⟨_, h1, rfl⟩ e (fun z => nomatch z) h
  | @frz a ob xs ea =>
    cases (show u = Value.ref a from rx)
    obtain ⟨_, _, _, n, _, h1⟩ := (show ObjOk X.prog X.w H s.heap a (.frz ob (.lst xs)) from I.hok a _ ea)
    exact PySem.W.kia_one PySem.W.kitx_list I.kIn ⟨_, h1, rfl⟩ e (fun z => nomatch z) h
  | @tup a xs ea =>
    cases (show u = Value.ref a from rx)
    obtain ⟨_, _, _, p⟩ := (show ObjOk X.prog X.w H s.heap a (.tup xs) from I.hok a _ ea)
    obtain ⟨o, h1, h2, _⟩ := p
    exact PySem.W.kia_one PySem.W.kitx_tuple I.kIn ⟨o, h1, h2⟩ e (fun z => nomatch z) h
  | @dK a kvs ea =>
    cases (show u = Value.ref a from rx)
    obtain ⟨_, _, vs, _, p⟩ := (show ObjOk X.prog X.w H s.heap a (.dK kvs) from I.hok a _ ea)
    obtain ⟨o, es, ep, h1, h2, _⟩ := p
    exact PySem.W.kia_one PySem.W.kitx_dict I.kIn ⟨o, h1, h2.1⟩ e (fun z => nomatch z) h
  | @dT a kvs ea =>
    cases (show u = Value.ref a from rx)
    obtain ⟨_, _, xs, _, o, es, ep, h1, h2, _⟩ := (show ObjOk X.prog X.w H s.heap a (.dT kvs) from I.hok a _ ea)
    exact PySem.W.kia_one PySem.W.kitx_dict I.kIn ⟨o, h1, h2.1⟩ e (fun z => nomatch z) h
  | @ins a C dx fs ea cl ha hn htk hm =>
    cases (show u = Value.ref a from rx)
    obtain ⟨mA, O, _⟩ := ins_get I.hok ea
    obtain ⟨od, J, _⟩ := O.look
    exact PySem.W.kia_one (PySem.W.kitx_own (cl.get _) cl.hd ha hn htk hm) I.kIn J e (fun z => nomatch z) h
end
end L2

namespace L2
open PySem PySem.Spec PyProof.Rows

/-! ### room -/
structure Room (k : Nat) (A : Around) : Prop where
  hd : A.handled = none
  dp : A.depth + 3 * k + 5 < recursionLimit
  un : A.units + 16 * k + 200 < cLine
  gd : A.guards = some []
theorem Room.mono {j k : Nat} {A : Around} (r : Room k A) (h : j ≤ k) : Room j A := ⟨r.hd, by have := r.dp; omega, by have := r.un; omega, r.gd⟩
theorem Room.deeper {k : Nat} {A : Around} (r : Room (k + 1) A) (env : Env) : Room k (A.deeper env) :=
  ⟨r.hd, by have := r.dp; show A.depth + 1 + 3 * k + 5 < _; omega, by have := r.un; show A.units + 3 + 16 * k + 200 < _; omega, r.gd⟩
theorem Room.depth {k : Nat} {A : Around} (r : Room k A) : A.depth < recursionLimit := by have := r.dp; omega

/-! ### argument lists and displays -/
def tNil : TA := fun _ H Q => Q [] H
def tCons (ta : TE) (tr : TA) : TA := fun σ H Q => ta σ H fun x H1 => tr σ H1 fun xs H2 => Q (x :: xs) H2
section
variable {X : Cx} {e : Expr} {es : List Expr} {te : TE} {t : TA} {pos : Pos}
theorem pa_nil : PA X [] tNil := fun _ _ _ _ H Q I h => Calls.spliced_nil ⟨[], H, I, .nil, h⟩
theorem pa_cons (ha : PE X e te) (hr : PA X es t) (hs : starEach (e :: es) X.env = (false, eval e X.env) :: starEach es X.env := by rfl) : PA X (e :: es) (tCons te t) := by
  intro pos pins s σ H Q I h
  rw [hs]
  show wpAny _ _ (spliced ((false, eval e X.env) :: backTo pos (starEach es X.env))) _ _ s
  refine Calls.spliced_cons (thn (ha pins s σ H _ I h) fun u s1 ⟨x, H1, I1, r1, q1⟩ => ?_)
  exact thn (hr pos pins s1 σ H1 _ I1 q1) fun us s2 ⟨xs, H2, I2, r2, q2⟩ => ⟨x :: xs, H2, I2, .cons r1 r2, q2⟩

/-- a tuple, a list of written items -/
def tTup (t : TA) : TE := fun σ H Q => t σ H fun xs H1 => xs.length ≤ sizeLine ∧ ∀ p, H1 p = none → Q (.ref p) (upd H1 p (.tup xs))
def tLst (t : TA) : TE := fun σ H Q => t σ H fun xs H1 => xs.length ≤ sizeLine ∧ ∀ p, H1 p = none → Q (.ref p) (upd H1 p (.lst xs))
theorem pe_tup {x1} (h : PA X es t) : PE X (.Tuple es x1 pos) (tTup t) := by
  intro pins s σ H Q I hq
  refine wpAny_Tuple_spliced (thn (h pos pins s σ H _ I hq) fun us s1 ⟨xs, H1, I1, r, z, q⟩ => ⟨by rw [← r.length]; exact z, ?_⟩)
  have hf : H1 s1.heap.objs.size = none := I1.hok.fresh (Nat.le_refl _)
  refine ⟨.ref s1.heap.objs.size, upd H1 s1.heap.objs.size (.tup xs), I1.laid (t' := s1.toks) (fun b u e => Heap.get?_push_of_some _ e) (Nat.le_refl _) ?_, rfl, q _ hf⟩
  exact ⟨z, us, r, ⟨_, Heap.get?_push_size _ rfl, rfl, _, rfl⟩⟩
theorem pe_lst (h : PA X es t) : PE X (.List es pos) (tLst t) := by
  intro pins s σ H Q I hq
  refine wpAny_List_spliced (thn (h pos pins s σ H _ I hq) fun us s1 ⟨xs, H1, I1, r, z, q⟩ => ⟨by rw [← r.length]; exact z, ?_⟩)
  have hf : H1 s1.heap.objs.size = none := I1.hok.fresh (Nat.le_refl _)
  refine ⟨.ref s1.heap.objs.size, upd H1 s1.heap.objs.size (.lst xs), I1.laid (t' := s1.toks) (fun b u e => Heap.get?_push_of_some _ e) (Nat.le_refl _) ?_, rfl, q _ hf⟩
  exact ⟨z, us, 0, r, Heap.get?_push_size _ rfl⟩
end

/-! ### what a def promises -/
/-- a def's promise: the bound arguments in the parameters' order, the heap, the wanted end, the wanted exception -/
abbrev Sp := List V → Hp → VK → XK → Prop
/-- how an exception lies behind a call (file 08 gives it): the callers' frames, abstract heap and state ahead of the call, the wish, the exception, the state -/
abbrev CXT := List Env → Hp → Shared → XK → Value → Shared → Prop

/-- the state at a call -/
structure Env0 (P : Program) (w : World) (K : PySem.W.Frag) (mg : Str → Option Value) (base : Heap) (A : Around) (outer : List Env) (s : Shared) (H : Hp) : Prop where
  frames : A.frames = some outer
  mod : Mod K mg base
  bs : ∀ b o, base.get? b = some o → s.heap.get? b = some o ∧ H b = none
  bsz : base.objs.size ≤ s.heap.objs.size
  funs : s.heap.FunFrames base outer
  frf : ∀ b ∈ frs outer, H b = none
  hok : HOk P w H s.heap
  bare : AllBare s.gens
/-- a call's end -/
def CE (outer : List Env) (P : Program) (w : World) (H : Hp) (s : Shared) (Q : VK) (u : Value) (s' : Shared) : Prop :=
  ∃ v H', s'.os = s.os ∧ AllBare s'.gens ∧ Un (frs outer) [] H H' s.heap s'.heap ∧ HOk P w H' s'.heap ∧ RelV v u ∧ Q v H'
def CR (CX : CXT) (outer : List Env) (P : Program) (w : World) (H : Hp) (s : Shared) (Q : VK) (E : XK) (r : Result) (s' : Shared) : Prop :=
  match r with
  | .ok (.ret u) => CE outer P w H s Q u s'
  | .ok _ => False
  | .error e => CX outer H s E e s'
structure FnOk (P : Program) (w : World) (K : PySem.W.Frag) (mg : Str → Option Value) (base : Heap) (CX : CXT) (k : Nat) (f : Addr) (fd : FuncData) (ps : List Str) (sp : Sp) : Prop where
  len : ∀ vs H Q E, sp vs H Q E → vs.length = ps.length
  run : ∀ (A : Around) (outer : List Env) (s : Shared) (H : Hp) (args : Args) (us : List Value) (vs : List V) (Q : VK) (E : XK), Room k A → Env0 P w K mg base A outer s H → BindsTo s fd args (ps.zip us) → Vals vs us → sp vs H Q E →
    codeAny (model P w) A (.call (.ref f) args) (CR CX outer P w H s Q E) s


section
variable {X : Cx} {pins : List (Addr × Obj)} {σ : St} {H : Hp} {s s' : Shared}
/-- from a body: what a callee wants -/
theorem Inv.env0 (I : Inv X pins σ H s) : Env0 X.prog X.w X.K X.mg X.base X.A X.stack s H :=
  ⟨I.ok.frames, I.ok.mod, I.bs, Nat.le_trans I.ok.bsz I.sz, I.stack, I.stkFree, I.hok, I.bare⟩
/-- behind a call -/
theorem Inv.after {Q : VK} {u : Value} (I : Inv X pins σ H s) (h : CE X.stack X.prog X.w H s Q u s') : EP X pins σ Q u s' := by
  obtain ⟨v, H', os, bare, un, hok, r, q⟩ := h
  obtain ⟨hh, g, d, t, os'⟩ := s'
  obtain rfl : os' = s.os := os
  exact ⟨v, H', I.call (h' := hh) (g' := g) (d' := d) (t' := t) (ch := []) un hok bare (fun b z => absurd z (by simp)), r, q⟩
end

/-! ### calls -/
/-- f(..): the written arguments, then the defaults dvs; E: what is wanted of an exception -/
def tCall (sp : Sp) (dvs : List V) (E : XK) (t : TA) : TE := fun σ H Q => t σ H fun vs H1 => sp (vs ++ dvs) H1 Q E

/-- how the parameters are bound: us the positional arguments, kw the keywords' values by name, ds the defaults that fill up -/
def Binds (K : PySem.W.Frag) (fd : FuncData) (ps : List Str) (ds : List Value) : Prop :=
  ∀ (s : Shared) (us : List Value), K.In s.heap → (us ++ ds).length = ps.length → BindsTo s fd ⟨us, []⟩ (ps.zip (us ++ ds))
/-- every parameter is given -/
theorem Binds.all {K : PySem.W.Frag} {fd : FuncData} {ps : List Str} (h : ∀ us : List Value, us.length = ps.length → bindArgs fd ⟨us, []⟩ = pure (ps.zip us)) : Binds K fd ps [] := fun s us _ hl => by
  rw [List.append_nil] at hl ⊢
  exact .of_eq (h us hl)

/-- an exception of a callee reaches what this body wants of exceptions -/
def Passes (CX : CXT) (X : Cx) (E : XK) : Prop := ∀ (pins : List (Addr × Obj)) (σ : St) (H : Hp) (s : Shared) (e : Value) (s' : Shared), Inv X pins σ H s → CX X.stack H s E e s' → X.xe e s'

section
variable {X : Cx} {CX : CXT} {k : Nat} {f C : Addr} {fd : FuncData} {ps : List Str} {sp : Sp} {dvs : List V} {ds : List Value} {E : XK} {x m : Str} {p pos apos : Pos} {e o : Expr} {es : List Expr} {ta : TE} {t : TA}

/-- the callee runs -/
theorem run_fn {pins : List (Addr × Obj)} {σ : St} {H : Hp} {s : Shared} {Q : VK} {us : List Value} {vs : List V} (F : FnOk X.prog X.w X.K X.mg X.base CX k f fd ps sp) (hr : Room k X.A) (hb : Binds X.K fd ps ds) (hd : Vals dvs ds) (hx : Passes CX X E)
    (I : Inv X pins σ H s) (r : Vals vs us) (h : sp (vs ++ dvs) H Q E) : wpAny (model X.prog X.w) X.A (call (.ref f) us) (EP X pins σ Q) X.xe s := by
  have r2 : Vals (vs ++ dvs) (us ++ ds) := r.append hd
  have hl : (us ++ ds).length = ps.length := by rw [← r2.length]; exact F.len _ _ _ _ h
  refine wpAny_call (codeAny_mono (F.run X.A X.stack s H ⟨us, []⟩ (us ++ ds) (vs ++ dvs) Q E hr I.env0 (hb s us I.kIn hl) r2 h) fun r s' hq => ?_)
  cases r with
  | error e => exact hx pins σ H s e s' I hq
  | ok fl =>
    cases fl with
    | ret u => exact I.after hq
    | next => exact False.elim hq
    | brk => exact False.elim hq
    | cont => exact False.elim hq

theorem pe_call (F : FnOk X.prog X.w X.K X.mg X.base CX k f fd ps sp) (hr : Room k X.A) (hg : Gl X x) (hm : X.mg x = some (.ref f)) (hk : PySem.W.keepIn X.K (.ref f) = true) (hb : Binds X.K fd ps ds) (hd : Vals dvs ds) (hx : Passes CX X E)
    (ha : PA X (e :: es) t) (hdb : (x == ("__debug__" : Str)) = false := by decide) (he : starEach (e :: es) X.env = (false, eval e X.env) :: starEach es X.env := by rfl) (hpl : (backTo pos (starEach es X.env)).any (·.1) = false := by rfl) :
    PE X (.Call (.Name x p) (e :: es) [] pos) (tCall sp dvs E t) := by
  intro pins s σ H Q I h
  refine wpAny_Call_Name_kw (ld_glob I hg hm ?_ hdb)
  refine PySem.W.callWith_K (h₀ := X.base) I.ok.mod.kin hk (thn (ha pos pins s σ H _ I h) fun us s1 ⟨vs, H1, I1, r, q⟩ => ⟨I1.kIn, ?_⟩) he hpl
  exact run_fn F hr hb hd hx I1 r q



end

/-! ### keywords -/
section
variable {X : Cx} {CX : CXT} {k : Nat} {f C : Addr} {fd : FuncData} {ps ks : List Str} {sp : Sp} {E : XK} {x m : Str} {p pos apos kpos : Pos} {e o : Expr} {es : List Expr} {kws : List Keyword} {te ta : TE} {t tk : TA} {nm : Option Str}

variable {g : List Value → List Value → List Value} {gV : List V → List V → List V}
end

/-! ### a def's body keeps its promise -/
/-- names: the parameters first -/
structure FnScope (N P : List Str) (sc : Scope) : Prop where
  kind : sc.kind = .function
  co : sc.isCoroutine = false
  gen : sc.isGenerator = false
  nd : N.Nodup
  pre : N.take P.length = P
  par : ∀ x ∈ P, sc.names.lookup x = some .local ∨ sc.names.lookup x = some .cell
  nofree : ∀ y ∈ sc.names, y.2 ≠ .free

theorem bindL_out {kindOf : Str → Option NameKind} {x : Str} : ∀ {binds : List (Str × Value)} {m : Str → Option Value}, (∀ v, (x, v) ∉ binds) → bindL kindOf binds m x = m x
  | [], _, _ => rfl
  | (n, v) :: r, m, h => by
    unfold bindL
    rw [bindL_out fun w hw => h w (List.mem_cons_of_mem _ hw)]
    split
    · have : x ≠ n := by rintro rfl; exact h v List.mem_cons_self
      simp [this]
    · rfl
theorem bindC_out {kindOf : Str → Option NameKind} {x : Str} : ∀ {binds : List (Str × Value)} {m : Str → Option Value}, (∀ v, (x, v) ∉ binds) → bindC kindOf binds m x = m x
  | [], _, _ => rfl
  | (n, v) :: r, m, h => by
    unfold bindC
    rw [bindC_out fun w hw => h w (List.mem_cons_of_mem _ hw)]
    split
    · rfl
    · have : x ≠ n := by rintro rfl; exact h v List.mem_cons_self
      simp [this]
theorem bindL_get {kindOf : Str → Option NameKind} {x : Str} {v : Value} : ∀ {P : List Str} {vs : List Value} {i : Nat} {m : Str → Option Value}, P.Nodup → P[i]? = some x → vs[i]? = some v → kindOf x = some .local →
    bindL kindOf (P.zip vs) m x = some v
  | [], _, _, _, _, h, _, _ => by simp at h
  | _ :: _, [], _, _, _, _, h, _ => by simp at h
  | p :: P, w :: vs, 0, m, nd, h1, h2, hk => by
    simp at h1 h2; subst h1; subst h2
    show bindL kindOf ((p, w) :: P.zip vs) m p = _
    unfold bindL
    rw [bindL_out fun v hv => (List.nodup_cons.mp nd).1 (List.of_mem_zip hv).1, if_pos hk]
    simp
  | p :: P, w :: vs, i + 1, m, nd, h1, h2, hk => by
    show bindL kindOf ((p, w) :: P.zip vs) m x = _
    unfold bindL
    exact bindL_get (i := i) (List.nodup_cons.mp nd).2 (by simpa using h1) (by simpa using h2) hk
theorem bindC_get {kindOf : Str → Option NameKind} {x : Str} {v : Value} : ∀ {P : List Str} {vs : List Value} {i : Nat} {m : Str → Option Value}, P.Nodup → P[i]? = some x → vs[i]? = some v → kindOf x ≠ some .local →
    bindC kindOf (P.zip vs) m x = some v
  | [], _, _, _, _, h, _, _ => by simp at h
  | _ :: _, [], _, _, _, _, h, _ => by simp at h
  | p :: P, w :: vs, 0, m, nd, h1, h2, hk => by
    simp at h1 h2; subst h1; subst h2
    show bindC kindOf ((p, w) :: P.zip vs) m p = _
    unfold bindC
    rw [bindC_out fun v hv => (List.nodup_cons.mp nd).1 (List.of_mem_zip hv).1, if_neg hk]
    simp
  | p :: P, w :: vs, i + 1, m, nd, h1, h2, hk => by
    show bindC kindOf ((p, w) :: P.zip vs) m x = _
    unfold bindC
    exact bindC_get (i := i) (List.nodup_cons.mp nd).2 (by simpa using h1) (by simpa using h2) hk

/-- the names' values at the entry -/
def start (N : List Str) (vs : List V) : St := vs.map some ++ List.replicate (N.length - vs.length) none

/-- the context of a def's body, at its entry; an exception leaves the frame, then lies as CX says -/
def cxOf (CX : CXT) (P : Program) (w : World) (K : PySem.W.Frag) (mg : Str → Option Value) (base : Heap) (N : List Str) (qual : Str) (scope : Scope) (f : Addr) (cd : Value) (A : Around) (outer : List Env) (s : Shared) (H : Hp) (E : XK) : Cx where
  prog := P
  w := w
  K := K
  mg := mg
  base := base
  A := A.deeper (envOfC qual scope s.heap.objs.size f cd)
  N := N
  s₀ := s
  H₀ := H
  env := envOfC qual scope s.heap.objs.size f cd
  outer := outer
  stack := envOfC qual scope s.heap.objs.size f cd :: outer
  ex := []
  calm := true
  fn := fun _ => true
  pn := []
  xe := fun e s' => wpAny (model P w) (A.deeper (envOfC qual scope s.heap.objs.size f cd)) (leaving (envOfC qual scope s.heap.objs.size f cd) e) (fun _ s'' => CX outer H s E e s'') (fun e' s'' => CX outer H s E e' s'') s'

theorem cell_has {sc : Scope} {n : Nat} {x : Str} (h : sc.names.lookup x = some .cell) : ∃ c, (cellsFrom n sc.names []).lookup x = some c := by
  have q := PySem.W.cellsFrom_some sc.names n [] (.inl h)
  exact Option.isSome_iff_exists.mp q

theorem inv_start {CX : CXT} {P : Program} {w : World} {K : PySem.W.Frag} {mg : Str → Option Value} {base : Heap} {N ps : List Str} {qual : Str} {scope : Scope} {f : Addr} {cd : Value} {A : Around} {outer : List Env} {s s1 : Shared} {H : Hp} {E : XK} {us : List Value} {vs : List V}
    (S : FnScope N ps scope) (hd : A.handled = none) (e0 : Env0 P w K mg base A outer s H) (hl : vs.length = ps.length) (r : Vals vs us)
    (x : InCallC s s.heap.objs.size (bindL (envOfC qual scope s.heap.objs.size f cd).kindOf (ps.zip us) fun _ => none) (cellsFrom (s.heap.objs.size + 1) scope.names []) (bindC (envOfC qual scope s.heap.objs.size f cd).kindOf (ps.zip us) fun _ => none) s1) :
    Inv (cxOf CX P w K mg base N qual scope f cd A outer s H E) [] (start N vs) H s1 := by
  have hpl : ps.length ≤ N.length := by have := congrArg List.length S.pre; rw [List.length_take] at this; omega
  obtain ⟨h1, tk, rfl, hk⟩ := x.done
  have noA : ∀ b : Addr, b ∉ (cxOf CX P w K mg base N qual scope f cd A outer s H E).ex := fun b z => absurd (show b ∈ ([] : List Addr) from z) (by simp)
  refine ⟨⟨e0.mod, S.kind, rfl, rfl, Nat.le_refl _, fun y z c h1 h2 => ?_, fun y hy => ?_, fun y c _ h => ?_, fun _ => hd, Around.frames_deeper e0.frames, .inr ⟨rfl, rfl⟩, fun b z => absurd z (noA b), e0.bs, e0.bsz, fun b _ _ => noA b, fun b z => absurd z (noA b), e0.funs, e0.frf⟩,
    rfl, e0.bare, Un.kept hk, ⟨_, x.toInCall.ns, fun i y v h1 h2 h3 => ?_⟩, fun y c h => ⟨_, x.cell y c h⟩, e0.hok.fresh (Nat.le_refl _), fun y c h => ?_, fun p hp => absurd (show p ∈ ([] : List (Addr × Obj)) from hp) (by simp), e0.hok.kept hk, ?_⟩
  · exact name_of_addr x.apart (PySem.mem_of_lookup h1) (PySem.mem_of_lookup h2)
  · have hy : scope.names.lookup y = some .cell ∨ scope.names.lookup y = some .free := hy
    rcases hy with hy | hy
    · exact cell_has hy
    · exact absurd rfl (S.nofree _ (PySem.mem_of_lookup hy))
  · exact Nat.le_of_lt (x.above y c (PySem.mem_of_lookup h))
  · have hi : i < vs.length := by
      unfold start at h2
      by_cases hi : i < vs.length
      · exact hi
      · rw [List.getElem?_append_right (by simpa using hi)] at h2
        rw [List.getElem?_replicate] at h2
        split at h2 <;> cases h2
    have ha : vs[i]? = some v := by
      unfold start at h2
      rw [List.getElem?_append_left (by simpa using hi), List.getElem?_map] at h2
      cases e : vs[i]? with
      | none => rw [e] at h2; cases h2
      | some a => rw [e] at h2; cases h2; rfl
    obtain ⟨u, hu, rv⟩ := r.get ha
    have hp : ps[i]? = some y := by
      rw [← S.pre, List.getElem?_take_of_lt (by omega)]; exact h1
    have ndP : ps.Nodup := by rw [← S.pre]; exact S.nd.sublist (List.take_sublist _ _)
    refine ⟨u, rv, ?_⟩
    rcases S.par y (List.mem_of_getElem? hp) with k | k
    · exact .inl ⟨k, bindL_get ndP hp hu k⟩
    · obtain ⟨c, e⟩ := cell_has (n := s.heap.objs.size + 1) k
      refine .inr ⟨.inl k, c, e, ?_⟩
      have q := x.cell y c e
      rw [bindC_get ndP hp hu (by show scope.names.lookup y ≠ _; rw [k]; decide)] at q
      exact q
  · exact e0.hok.fresh (Nat.le_of_lt (x.above y c (PySem.mem_of_lookup h)))
  · unfold start
    show _ = N.length
    rw [List.length_append, List.length_map, List.length_replicate]
    omega

/-- THE RULE: a def (or a method) of the text, by its body. The body's reading t is chosen for each entry; it is run at the parameters' values -/
theorem fn_of {CX : CXT} {P : Program} {w : World} {K : PySem.W.Frag} {mg : Str → Option Value} {base : Heap} {k : Nat} {f : Addr} {name qual : Str} {params : Arguments} {body : List Stmt} {scope : Scope} {dV kV doc pm cdv ct oc : Value} {an od : Option Addr}
    {osl : Array (Option Value)} {N ps : List Str} {sp : Sp} (lk : K.lookup f = some ⟨oc, od, .func (PySem.W.fnOf name qual params body scope dV kV doc pm an cdv ct), osl⟩) (hcd : PySem.W.codeIn K cdv qual = true) (S : FnScope N ps scope)
    (len : ∀ vs H Q E, sp vs H Q E → vs.length = ps.length)
    (hbody : ∀ (A : Around) (outer : List Env) (s : Shared) (H : Hp) (vs : List V) (Q : VK) (E : XK), Room k (A.deeper (envOfC qual scope s.heap.objs.size f cdv)) → sp vs H Q E →
      ∃ t, PSs (cxOf CX P w K mg base N qual scope f cdv A outer s H E) body t ∧ t { nx := fun _ H' => Q .non H', rt := Q } (start N vs) H) :
    FnOk P w K mg base CX (k + 1) f (PySem.W.fnOf name qual params body scope dV kV doc pm an cdv ct) ps sp := by
  refine ⟨len, fun A outer s H args us vs Q E hr e0 hb r hsp => ?_⟩
  have hl := len _ _ _ _ hsp
  have KX : K.In s.heap := e0.mod.kin.keeps fun b o e => (e0.bs b o e).1
  have lim : s.heap.NoLimit := e0.mod.nolimit.keeps fun b o e => (e0.bs b o e).1
  have hkind : ∀ y ∈ ps.zip us, scope.names.lookup y.1 = some .local ∨ (scope.names.lookup y.1 = some .cell ∧ ((cellsFrom (s.heap.objs.size + 1) scope.names []).lookup y.1).isSome = true) := fun ⟨n, v⟩ hy => by
    rcases S.par n (List.of_mem_zip hy).1 with q | q
    · exact .inl q
    · exact .inr ⟨q, PySem.W.cellsFrom_some _ _ _ (.inl q)⟩
  refine codeAny_call_function hr.depth (KX _ _ lk) rfl S.co S.gen rfl (PySem.W.codeRec_of KX hcd) (hb _ _ _ _ ?_)
  refine wpAny_newFunctionEnv_cells S.kind hkind fun env he s1 x => ?_
  subst he
  refine ⟨lim.keeps x.toInCall.keep, codeAny_func ?_⟩
  obtain ⟨t, ht, hq⟩ := hbody A outer s H vs Q E (hr.deeper _) hsp
  have I : Inv (cxOf CX P w K mg base N qual scope f cdv A outer s H E) [] (start N vs) H s1 := inv_start S hr.hd e0 hl r x
  refine wpAny_mono (ht [] s1 (start N vs) H _ I hq) (fun fl s' hs => ?_) fun e s' hs => hs
  have fin : ∀ {σ' : St} {H' : Hp} {v : V} {u : Value}, Inv (cxOf CX P w K mg base N qual scope f cdv A outer s H E) [] σ' H' s' → RelV v u → Q v H' → CE outer P w H s Q u s' :=
    fun {σ' H' v u} J rv q => ⟨v, H', J.os, J.bare, J.base, J.hok, rv, q⟩
  cases fl with
  | ret u =>
    obtain ⟨v, σ', H', J, rv, q⟩ := hs
    exact fin J rv q
  | next =>
    obtain ⟨σ', H', J, q⟩ := hs
    exact fin (v := V.non) (u := Value.none) J rfl q
  | brk =>
    obtain ⟨_, _, _, q⟩ := hs
    exact False.elim q
  | cont =>
    obtain ⟨_, _, _, q⟩ := hs
    exact False.elim q
end L2

namespace L2
open PySem PySem.Spec PyProof.Rows
section
variable {X : Cx} {x : Str} {p pos : Pos} {e : Expr} {es : List Expr} {t : TA} {id T : String} {r : List V → Hp → VK → Prop}

def tCB (r : List V → Hp → VK → Prop) (t : TA) : TE := fun σ H Q => t σ H fun vs H1 => r vs H1 Q
/-- f(e, ..), f a built-in function -/
theorem pe_callB (hc : CallR X (.builtin id) r) (hg : Gl X x) (hm : X.mg x = none) (hv : bootBuiltins x = some (.builtin id)) (ha : PA X (e :: es) t) (hn : x ≠ "__name__" := by decide) (hdb : (x == ("__debug__" : Str)) = false := by decide)
    (he : starEach (e :: es) X.env = (false, eval e X.env) :: starEach es X.env := by rfl) (hpl : (backTo pos (starEach es X.env)).any (·.1) = false := by rfl) : PE X (.Call (.Name x p) (e :: es) [] pos) (tCB r t) := by
  intro pins s σ H Q I h
  refine wpAny_Call_Name_kw (ld_blt I hg hm hv ?_ hn hdb)
  exact PyProof.Rows.callWith_builtin1 (thn (ha pos pins s σ H _ I h) fun us s1 ⟨vs, H1, I1, r1, q1⟩ => hc pins s1 σ H1 vs us Q I1 r1 q1) he hpl
/-- T(e, ..), T a built-in type -/
theorem pe_callTy (hc : CallR X (.type T) r) (hg : Gl X x) (hm : X.mg x = none) (hv : bootBuiltins x = some (.type T)) (ha : PA X (e :: es) t) (hn : x ≠ "__name__" := by decide) (hdb : (x == ("__debug__" : Str)) = false := by decide)
    (he : starEach (e :: es) X.env = (false, eval e X.env) :: starEach es X.env := by rfl) (hpl : (backTo pos (starEach es X.env)).any (·.1) = false := by rfl) : PE X (.Call (.Name x p) (e :: es) [] pos) (tCB r t) := by
  intro pins s σ H Q I h
  refine wpAny_Call_Name_kw (ld_blt I hg hm hv ?_ hn hdb)
  exact PyProof.Rows.callWith_type1 (thn (ha pos pins s σ H _ I h) fun us s1 ⟨vs, H1, I1, r1, q1⟩ => hc pins s1 σ H1 vs us Q I1 r1 q1) he hpl
end
end L2

namespace HT
open PySem PyProof.Rows

/-- t < u of tuples of ints -/
def lexLt : List Int → List Int → Bool
  | [], [] => false
  | [], _ :: _ => true
  | _ :: _, [] => false
  | x :: xs, y :: ys => if x = y then lexLt xs ys else decide (x < y)


section
open PySem.SeqAt
open PySem.AutoSeq1 (wpAny_loadPart')
open PySem.MeetsSeq PySem.MeetsSeq2 PySem.MeetsSeq3

end

section
variable {prog : Program} {w : World} {A : Around} {E : Value → Shared → Prop} {s : Shared}



/-! ### t[a:b], not the whole -/
/-- a slice's bound as a place among n (d where it is left out) -/
def sIx (n d : Nat) : Option Int → Nat
  | none => d
  | some v => if v < 0 then (v + (n : Int)).toNat else min v.toNat n

end
end HT

namespace L2
open PySem PySem.Spec PyProof.Rows

/-! ### the parts of a slice -/
abbrev TO := St → Hp → (Option Int → Hp → Prop) → Prop
/-- a slice's part (left out, or an int) -/
def PO (X : Cx) (e : Option Expr) (t : TO) : Prop :=
  ∀ (pins : List (Addr × Obj)) (s : Shared) (σ : St) (H : Hp) (Q : Option Int → Hp → Prop), Inv X pins σ H s → t σ H Q →
    wpAny (model X.prog X.w) X.A (evalPart e X.env) (fun u s' => ∃ o H', Inv X pins σ H' s' ∧ IsPart u o ∧ Q o H') X.xe s
def tNoPart : TO := fun _ H Q => Q none H
def tPart (t : TE) : TO := fun σ H Q => t σ H fun x H1 => ∃ i, x = .int i ∧ Q (some i) H1

theorem intsAre_of {ns : List Int} : ∀ {us : List Value}, Vals (ns.map V.int) us → IntsAre us ns := by
  induction ns with
  | nil => intro us r; rw [List.map_nil] at r; cases r; exact .nil
  | cons n ns ih =>
    intro us r
    rw [List.map_cons] at r
    cases r with
    | cons r1 r2 =>
      obtain ⟨t, e⟩ := r1
      subst e
      exact .cons n t (ih r2)

section
variable {X : Cx} {e : Expr} {te : TE} {lo hi : Option Expr} {tl th : TO} {pos p2 : Pos}

theorem po_none : PO X none tNoPart := by
  intro pins s σ H Q I h
  rw [evalPart_none]
  exact wpAny_pure ⟨none, H, I, .none, h⟩
theorem po_some (h : PE X e te) : PO X (some e) (tPart te) := by
  intro pins s σ H Q I hw
  rw [evalPart_some]
  refine thn (h pins s σ H _ I hw) fun u s1 ⟨x, H1, I1, r1, q1⟩ => ?_
  obtain ⟨i, rfl, q⟩ := q1
  obtain ⟨t, rfl⟩ := r1
  exact ⟨some i, H1, I1, .int i t, q⟩

/-- what a slice of a value is, by values: the slice object stands at sl -/
def SlR (X : Cx) (r : V → Option Int → Option Int → Hp → VK → Prop) : Prop :=
  ∀ (pins : List (Addr × Obj)) (s : Shared) (σ : St) (H : Hp) (x : V) (v vl vu : Value) (lo hi : Option Int) (sl : Addr) (Q : VK), Inv X pins σ H s → RelV x v → s.heap.IsSliceOf sl vl vu .none → IsPart vl lo → IsPart vu hi → r x lo hi H Q →
    ∃ T id, typeLookup (.type T) "__getitem__" = pure (some (.builtin id)) ∧ s.TypeIs v T ∧ wpAny (model X.prog X.w) X.A (getItem v (.ref sl)) (EP X pins σ Q) X.xe s
def tSl (r : V → Option Int → Option Int → Hp → VK → Prop) (te : TE) (tl th : TO) : TE := fun σ H Q => te σ H fun x H1 => tl σ H1 fun l H2 => th σ H2 fun u H3 => r x l u H3 Q
/-- a[lo:hi], any a -/
theorem pe_slice {r : V → Option Int → Option Int → Hp → VK → Prop} (hr : SlR X r) (he : PE X e te) (hl : PO X lo tl) (hu : PO X hi th) : PE X (.Subscript e (.Slice lo hi none p2) pos) (tSl r te tl th) := by
  intro pins s σ H Q I h
  refine Subscript_ (thn (he pins s σ H _ I h) fun v s1 ⟨x, H1, I1, r1, q1⟩ => ?_)
  refine wpAny_Slice (thn (hl pins s1 σ H1 _ I1 q1) fun vl s2 ⟨l, H2, I2, pl, q2⟩ => thn (hu pins s2 σ H2 _ I2 q2) fun vu s3 ⟨u, H3, I3, pu, q3⟩ => ?_)
  rw [evalPart_none]
  refine wpAny_pure ?_
  have I4 : Inv X pins σ H3 { s3 with heap := s3.heap.push { cls := .type "slice", data := .fields #[vl, vu, .none] } } := I3.kept (t' := s3.toks) fun b ob q => Heap.get?_push_of_some _ q
  obtain ⟨T, id, hT, ht, hg⟩ := hr pins { s3 with heap := s3.heap.push { cls := .type "slice", data := .fields #[vl, vu, .none] } } σ H3 x v vl vu l u s3.heap.objs.size Q I4 r1 (Heap.IsSliceOf.new ..) pl pu q3
  show wpAny (model X.prog X.w) X.A (subscriptTail e (.Slice lo hi none p2) v (.ref s3.heap.objs.size)) (EP X pins σ Q) X.xe { s3 with heap := s3.heap.push { cls := .type "slice", data := .fields #[vl, vu, .none] } }
  exact tail_any (ops := [.ref s3.heap.objs.size, v]) ht hT hg (by with_unfolding_all rfl)

/-- the items of xs[lo:hi] -/
def cutV (xs : List V) (lo hi : Option Int) : List V := (xs.drop (HT.sIx xs.length 0 lo)).take (HT.sIx xs.length xs.length hi - HT.sIx xs.length 0 lo)
theorem cutV_length (xs : List V) (lo hi : Option Int) : (cutV xs lo hi).length ≤ xs.length := by
  unfold cutV
  rw [List.length_take, List.length_drop]
  omega

/-! ### t < u, t + u -/
end
end L2

namespace L2
open PySem PySem.Spec PyProof.Rows

/-! ### places -/
/-- the place that an index of any sign means -/
def ixN (n : Nat) (i : Int) : Option Nat := if 0 ≤ i then (if i < n then some i.toNat else none) else if -(n : Int) ≤ i then some (i + n).toNat else none
def atI {α : Type} (xs : List α) (i : Int) : Option α := (ixN xs.length i).bind fun j => xs[j]?
theorem ixN_seq {n : Nat} {i : Int} {j : Nat} (h : ixN n i = some j) : seqIndex? i n = some j ∧ j < n ∧ -(n : Int) ≤ i ∧ i < n := by
  unfold ixN at h
  by_cases h0 : 0 ≤ i
  · rw [if_pos h0] at h
    by_cases h1 : i < n
    · rw [if_pos h1] at h
      have e : i.toNat = j := Option.some.inj h
      exact ⟨by rw [seqIndex_of h0 h1, e], by omega, by omega, h1⟩
    · rw [if_neg h1] at h; cases h
  · rw [if_neg h0] at h
    by_cases h1 : -(n : Int) ≤ i
    · rw [if_pos h1] at h
      have e : (i + n).toNat = j := Option.some.inj h
      exact ⟨by rw [seqIndex_neg (by omega) h1, e], by omega, h1, by omega⟩
    · rw [if_neg h1] at h; cases h
theorem atI_get {α : Type} {xs : List α} {i : Int} {v : α} (h : atI xs i = some v) : ∃ j, seqIndex? i xs.length = some j ∧ xs[j]? = some v ∧ j < xs.length ∧ -(xs.length : Int) ≤ i ∧ i < xs.length := by
  unfold atI at h
  cases e : ixN xs.length i with
  | none => rw [e] at h; cases h
  | some j =>
    rw [e] at h
    obtain ⟨h1, h2, h3, h4⟩ := ixN_seq e
    exact ⟨j, h1, h, h2, h3, h4⟩
theorem atI_nat {α : Type} {xs : List α} {j : Nat} {v : α} (h : xs[j]? = some v) : atI xs (j : Int) = some v := by
  have hj : j < xs.length := (List.getElem?_eq_some_iff.mp h).1
  have e : ixN xs.length (j : Int) = some j := by
    unfold ixN
    rw [if_pos (by omega), if_pos (by omega)]; simp
  unfold atI; rw [e]; exact h

/-! ### what may be subscripted -/
/-- what stands as an index of a plain subscript -/
def PlainIx (b : Expr) : Prop := ∀ o i, subscripted b false o i = operate [o, i] (getItem o i)
/-- a subscript by values -/
def IxR (X : Cx) (r : R2) : Prop :=
  ∀ (value slice : Expr) (pins : List (Addr × Obj)) (s : Shared) (σ : St) (H : Hp) (x y : V) (v u : Value) (Q : VK), Inv X pins σ H s → RelV x v → RelV y u → r x y H Q →
    subscripted slice false v u = operate [v, u] (getItem v u) → wpAny (model X.prog X.w) X.A (subscriptTail value slice v u) (EP X pins σ Q) X.xe s
section
variable {X : Cx} {a b : Expr} {ta tb : TE} {pos : Pos}
/-- a[b] -/
theorem pe_ix {r : R2} (hr : IxR X r) (ha : PE X a ta) (hb : PE X b tb) (hs : PlainIx b) : PE X (.Subscript a b pos) (tOp r ta tb) := by
  intro pins s σ H Q I h
  exact Subscript_ (binT ha hb I h fun v u s2 x y H2 I2 rx ry q => hr a b pins s2 σ H2 x y v u Q I2 rx ry q (hs _ _))

def rIxL (K : PySem.W.Frag) : R2 := fun x y H Q => ∃ p xs i v, x = .ref p ∧ y = .int i ∧ SqL K H p xs ∧ atI xs i = some v ∧ Q v H
def rIxT (K : PySem.W.Frag) : R2 := fun x y H Q => ∃ p xs i v, x = .ref p ∧ y = .int i ∧ SqT K H p xs ∧ atI xs i = some v ∧ Q v H
theorem ix_list : IxR X (rIxL X.K) := by
  intro value slice pins s σ H x y v u Q I rx ry h hs
  obtain ⟨p, xs, i, z, rfl, rfl, hq, he, q⟩ := h
  cases rx
  obtain ⟨t, rfl⟩ := ry
  obtain ⟨its, r, pl, hz⟩ := I.list hq
  obtain ⟨j, h1, h2, h3, h4, h5⟩ := atI_get he
  obtain ⟨w, ew, rw'⟩ := r.get h2
  have hl := r.length
  have hn := line63
  have fin : EP X pins σ Q w s := ⟨z, H, I, rw', q⟩
  by_cases h0 : 0 ≤ i
  · have hj : i.toNat = j := by
      rw [seqIndex_of h0 h5] at h1
      exact Option.some.inj h1
    exact item_listR pl.isList h0 (by omega) (by rw [hj]; simpa using ew) fin hs
  · have hj : (i + (its.toArray.size : Int)).toNat = j := by
      rw [seqIndex_neg (by omega) h4] at h1
      rw [List.size_toArray, ← hl]
      exact Option.some.inj h1
    exact subscriptTail_builtinR (x := w) pl.isList.typeIs slot_list_getitem.lookup
      (wpAny_getItem_list_neg (Q := fun r s' => r = w ∧ EP X pins σ Q r s') pl.isList (by omega) (by rw [List.size_toArray] <;> omega) (by omega) (by rw [hj]; simpa using ew) ⟨rfl, fin⟩) hs
theorem ix_tup : IxR X (rIxT X.K) := by
  intro value slice pins s σ H x y v u Q I rx ry h hs
  obtain ⟨p, xs, i, z, rfl, rfl, hq, he, q⟩ := h
  cases rx
  obtain ⟨t, rfl⟩ := ry
  obtain ⟨its, r, pl, hz⟩ := I.tuple hq
  obtain ⟨j, h1, h2, h3, h4, h5⟩ := atI_get he
  obtain ⟨w, ew, rw'⟩ := r.get h2
  have hl := r.length
  have hn := line63
  have fin : EP X pins σ Q w s := ⟨z, H, I, rw', q⟩
  exact subscriptTail_builtinR (x := w) pl.typeIs slot_tuple_getitem.lookup
    (getItem_tuple (j := j) (Q := fun r s' => r = w ∧ EP X pins σ Q r s') pl (by omega) (by omega) (by rw [List.size_toArray, ← hl]; exact h1) (by simpa using ew) ⟨rfl, fin⟩) hs

/-! ### xs[i] = v, any sign -/
/-- the list's object behind a store -/
theorem mapSeq_set (its : List Value) (n j : Nat) (u : Value) : Obj.mapSeq (·.setIfInBounds j u) { cls := .type "list", data := .seq its.toArray n } = { cls := .type "list", data := .seq (its.set j u).toArray n } := by
  simp [Obj.mapSeq]
theorem Inv.lst {pins : List (Addr × Obj)} {σ : St} {H : Hp} {s : Shared} {p : Addr} {xs : List V} (I : Inv X pins σ H s) (h : H p = some (.lst xs)) :
    ∃ (its : List Value) (n : Nat), Vals xs its ∧ s.heap.get? p = some { cls := .type "list", data := .seq its.toArray n } ∧ xs.length ≤ sizeLine := by
  obtain ⟨z, its, n, r, e⟩ := I.hok p _ h
  exact ⟨its, n, r, e, z⟩
/-- the list at p is written by an update of its object -/
theorem Inv.lstUpd {pins : List (Addr × Obj)} {σ : St} {H : Hp} {s : Shared} {p : Addr} {xs ys : List V} {its its' : List Value} {n n' : Nat} {f : Obj → Obj} (I : Inv X pins σ H s) (h : H p = some (.lst xs))
    (ho : s.heap.get? p = some { cls := .type "list", data := .seq its.toArray n }) (hf : f { cls := .type "list", data := .seq its.toArray n } = { cls := .type "list", data := .seq its'.toArray n' }) (r : Vals ys its') (hz : ys.length ≤ sizeLine) (t : Nat) :
    Inv X pins σ (upd H p (.lst ys)) { s with heap := s.heap.update p f, toks := t } := by
  have e : (s.heap.update p f).get? p = some { cls := .type "list", data := .seq its'.toArray n' } := by
    rw [Heap.get?_update_self f ho (by rw [hf] <;> rfl), hf]
  refine I.write (x := p) (e := p) (by rw [h]; trivial) (.inl rfl) (fun b u hb q => (Heap.get?_update_other _ _ (Ne.symm hb)).trans q) ⟨_, e⟩ ?_
  exact ⟨hz, its', n', r, e⟩
def rSetL : V → V → V → Hp → (Hp → Prop) → Prop := fun o i v H Q => ∃ p xs k j, o = .ref p ∧ i = .int k ∧ H p = some (.lst xs) ∧ ixN xs.length k = some j ∧ Q (upd H p (.lst (xs.set j v)))
theorem set_list : PSet X rSetL := by
  intro pins s σ H o i v ov iv u Q I ro ri rv h
  obtain ⟨p, xs, k, j, rfl, rfl, hp, hj, q⟩ := h
  cases ro
  obtain ⟨t, rfl⟩ := ri
  obtain ⟨its, n, r, ho, hz⟩ := I.lst hp
  obtain ⟨h1, h2, h3, h4⟩ := ixN_seq hj
  have hl := r.length
  have hn := line63
  have I' : Inv X pins σ (upd H p (.lst (xs.set j v))) { s with heap := s.heap.update p (Obj.mapSeq (·.setIfInBounds j u)) } :=
    I.lstUpd hp ho (mapSeq_set its n j u) (r.set rv j) (by rw [List.length_set]; exact hz) s.toks
  by_cases h0 : 0 ≤ k
  · have hk : k.toNat = j := by
      rw [seqIndex_of h0 h4] at h1
      exact Option.some.inj h1
    exact PySem.W.ki_setAt ho h0 (by omega) (by rw [List.size_toArray, ← hl]; exact h4) (by rw [hk]; exact ⟨_, I', q⟩)
  · have hk : (k + (its.toArray.size : Int)).toNat = j := by
      rw [seqIndex_neg (by omega) h3] at h1
      rw [List.size_toArray, ← hl]
      exact Option.some.inj h1
    exact PySem.W.ki_setBack ho (by omega) (by rw [List.size_toArray, ← hl]; exact h3) (by omega) (by rw [hk]; exact ⟨_, I', q⟩)

/-! ### slices -/
theorem slice_bounds (lo hi : Option Int) (n : Nat) : (sliceBounds lo hi none n).1 = ((HT.sIx n 0 lo : Nat) : Int) ∧ (sliceBounds lo hi none n).2.1 = ((HT.sIx n n hi : Nat) : Int) ∧ (sliceBounds lo hi none n).2.2 = 1 := by
  refine ⟨?_, ?_, rfl⟩
  · cases lo with
    | none => simp [sliceBounds, HT.sIx]
    | some i =>
      simp only [sliceBounds, HT.sIx, Option.getD_none, show (1 : Int) > 0 by decide, if_true]
      by_cases h : i < 0
      · simp only [h, if_true] <;> omega
      · simp only [h, if_false] <;> omega
  · cases hi with
    | none => simp [sliceBounds, HT.sIx]
    | some i =>
      simp only [sliceBounds, HT.sIx, Option.getD_none, show (1 : Int) > 0 by decide, if_true]
      by_cases h : i < 0
      · simp only [h, if_true] <;> omega
      · simp only [h, if_false] <;> omega
theorem slicePick_cut (its : List Value) (lo hi : Option Int) : slicePick its.toArray lo hi none = ((its.drop (HT.sIx its.length 0 lo)).take (HT.sIx its.length its.length hi - HT.sIx its.length 0 lo)).toArray := by
  obtain ⟨h1, h2, h3⟩ := slice_bounds lo hi its.toArray.size
  unfold slicePick
  rw [h1, h2, h3]
  simp only [sliceRange_one, pick_run, List.size_toArray] <;> rfl
/-- xs[lo:hi] of a list: a new list -/
def rSlL (K : PySem.W.Frag) : V → Option Int → Option Int → Hp → VK → Prop := fun x lo hi H Q => ∃ a xs, x = .ref a ∧ SqL K H a xs ∧ ∀ p, H p = none → Q (.ref p) (upd H p (.lst (cutV xs lo hi)))
theorem sl_list : SlR X (rSlL X.K) := by
  intro pins s σ H x v vl vu lo hi sl Q I rx hs pl pu h
  obtain ⟨a, xs, rfl, hx, q⟩ := h
  cases rx
  obtain ⟨its, r, ht, hz⟩ := I.list hx
  have hlen := r.length
  refine ⟨"list", _, slot_list_getitem.lookup, ht.isList.typeIs, ?_⟩
  refine wpAny_getItem_list_slice ht.isList hs pl pu .none (by simp) ?_ (by rw [List.size_toArray] <;> omega)
  rw [slicePick_cut, ← hlen]
  refine ⟨.ref s.heap.objs.size, _, I.laid (t' := s.toks) (o := .lst (cutV xs lo hi)) (fun b ob q => Heap.get?_push_of_some _ q) (Nat.le_refl _) ?_, rfl, q _ (I.hok.fresh (Nat.le_refl _))⟩
  exact ⟨Nat.le_trans (cutV_length xs lo hi) hz, _, 0, (r.drop (HT.sIx xs.length 0 lo)).take (HT.sIx xs.length xs.length hi - HT.sIx xs.length 0 lo), Heap.get?_push_size _ rfl⟩

/-! ### in, not in: flat items -/

/-! ### len, list(x), tuple(x) of any list or tuple that is read -/
theorem call_len_seq : CallR X (.builtin "len") (fun xs H Q => ∃ p ys, xs = [.ref p] ∧ (SqL X.K H p ys ∨ SqT X.K H p ys) ∧ Q (.int ys.length) H) := by
  intro pins s σ H xs us Q I r h
  obtain ⟨p, ys, rfl, hq, q⟩ := h
  obtain ⟨u, rfl, rx⟩ := vals1 r
  cases rx
  have hn := line63
  rcases hq with hq | hq
  · obtain ⟨its, r', pl, hz⟩ := I.list hq
    have hlen := r'.length
    exact Calls.call_len_list pl.isList (by simp only [List.size_toArray] <;> omega) ⟨.int ys.length, H, I.tok _, ⟨s.toks + 1, by rw [List.size_toArray, hlen]⟩, q⟩
  · obtain ⟨its, r', pl, hz⟩ := I.tuple hq
    have hlen := r'.length
    exact len_tuple pl (by simp only [List.size_toArray] <;> omega) ⟨.int ys.length, H, I.tok _, ⟨s.toks + 1, by rw [List.size_toArray, hlen]⟩, q⟩
theorem call_tuple_of : CallR X (.type "tuple") (fun xs H Q => ∃ p ys, xs = [.ref p] ∧ ((SqL X.K H p ys ∧ ∀ l, H l = none → Q (.ref l) (upd H l (.tup ys))) ∨ (SqT X.K H p ys ∧ Q (.ref p) H))) := by
  intro pins s σ H xs us Q I r h
  obtain ⟨p, ys, rfl, h⟩ := h
  obtain ⟨u, rfl, rx⟩ := vals1 r
  cases rx
  rcases h with ⟨hq, q⟩ | ⟨hq, q⟩
  · obtain ⟨its, r', pl, hz⟩ := I.list hq
    have hlen := r'.length
    refine call_tuple_list pl.isList (fun h' kp => ?_) (by simp only [List.size_toArray] <;> omega)
    have I1 : Inv X pins σ H { s with heap := h' } := I.kept (t' := s.toks) kp
    have I2 : Inv X pins σ (upd H h'.objs.size (.tup ys)) { s with heap := h'.push { cls := .type "tuple", data := .seq its.toArray } } :=
      I1.laid (t' := s.toks) (fun b o e => Heap.get?_push_of_some _ e) (Nat.le_refl _) (show ObjOk X.prog X.w _ _ _ (.tup ys) from ⟨hz, its, r', IsTup.new _ _⟩)
    exact ⟨.ref h'.objs.size, _, I2, rfl, q _ (I1.hok.fresh (Nat.le_refl _))⟩
  · obtain ⟨its, r', pl, hz⟩ := I.tuple hq
    exact call_tuple_same pl ⟨.ref p, H, I, rfl, q⟩

/-! ### the call of a builtin's method: o.m(..) -/
variable {o e : Expr} {es : List Expr} {to : TE} {t : TA} {name : Str} {apos cpos : Pos} {T id : String} {r : V → List V → Hp → VK → Prop}
/- xs.append(e), list.index on a module's tuple .. are MtR facts of 06m -/
end
end L2

namespace L2
open PySem PySem.Spec PyProof.Rows


/-! ### lists of values -/

section
variable {X : Cx} {pins : List (Addr × Obj)} {σ : St} {H : Hp} {s : Shared} {l b : Addr} {xs ys zs : List V}

/-! ### the two steps: a tracked list is rewritten, a new list is laid -/

end

section
variable {X : Cx}

/-! ### methods -/






/-! ### list + list, list += list, list * int -/

/-! ### del xs[i] -/
end

/-! ### xs[a:b] = ys -/
section
variable {prog : Program} {w : World} {A : Around} {E : Value → Shared → Prop} {s : Shared}
end

section
variable {X : Cx}
end
end L2

namespace Att
open PySem PySem.W PySem.Calls PyProof.Rows

/-! ### the script -/
theorem ints_of_wellAll {P : Params} {h : Heap} : ∀ (ns : List Int) (vs : List Value), WellAll P h vs (ns.map WData.int) → IntsAre vs ns := by
  intro ns
  induction ns with
  | nil =>
    intro vs w
    rw [List.map_nil] at w
    cases w
    exact .nil
  | cons n ns ih =>
    intro vs w
    rw [List.map_cons] at w
    cases w with
    | cons a b =>
      cases a
      exact .cons _ _ (ih _ b)

theorem script_of {l : OpenLaw} {n : Nat} (hn : l.most = some n) {P : Params} {h : Heap} {args : List WData} {vals : List Value}
    (hpre : l.row.toRowW.claim.pre args = true) (hwl : WellAll P h vals args) :
    ∃ a vs ns, vals = [Value.ref a] ∧ args = [WData.list (ns.map WData.int)] ∧ h.get? a = some { cls := .type "list", data := .seq vs.toArray } ∧ IntsAre vs ns ∧ ns.length ≤ n := by
  have hsh : WShape.hasAll [] args [.list .int] = true := (pre_splitW hpre).1
  have hc : l.pre.holds [] { args := args } = true := (pre_splitW hpre).2
  obtain ⟨d, r, rfl, h1, h2⟩ := hasAllW_cons hsh
  obtain rfl := hasAllW_nil h2
  obtain ⟨xs, rfl, h3⟩ := hasW_list h1
  obtain ⟨ns, rfl⟩ := items_int h3
  have hlen : ns.length ≤ n := by
    unfold OpenLaw.pre at hc
    have h4 : (WTm.not (.lt (.lit (.int (n : Int))) (.len (.arg 0)))).holds [] { args := [.list (ns.map .int)] } = true := by
      have h4 := (holds_andW hc).1
      rw [hn] at h4
      exact h4
    have h5 := condW_of h4 (w_not (w_lt w_lit (w_len_list (w_arg rfl))))
    rw [List.length_map] at h5
    refine Nat.le_of_not_lt fun q => ?_
    have q' : (n : Int) < ((ns.length : Nat) : Int) := by omega
    first
      | (rw [decide_eq_true q'] at h5; exact absurd h5 (by decide))
      | (simp at h5; omega)
  cases hwl with
  | cons w1 w2 =>
    cases w2
    cases w1 with
    | list ho hall => exact ⟨_, _, ns, rfl, rfl, ho, ints_of_wellAll ns _ hall, hlen⟩

theorem post_true (l : OpenLaw) (args : List WData) : l.row.toRowW.claim.post args (.bool true) args = true :=
  postW_of (r := l.row.toRowW) (X := (true == true))
    (show WShape.has [] (.bool true) .bool = true by first | rfl | decide | simp [WShape.has, WShape.arms, WShape.armsAll])
    (show (WTm.eq .res (.lit (.bool true))).value [] { args := args, res := some (.bool true), after := args } = some (.bool (true == true)) from w_eq_bool (w_res rfl) w_lit) rfl

/-! ### the attachment: holds_open's last premise (the goal 'hc' behind k_head) from a wpAny of the law's body -/

/-- the same from a codeAny of the CALL (for a layer whose function contracts speak of calls) -/
theorem attach_call {l : OpenLaw} {n : Nat} {q : Program} {loose : List Str} {XP : (Str → Option Value) → Heap → Prop} {YP : World → Heap → Prop} {d : DefRec}
    (hn : l.most = some n) (hdf : d.params.defaults = [])
    (call : ∀ (w : World) (s₀ s₁ : Shared) (mg mb : Str → Option Value) (fa : Addr) (o : Obj) (pm cd doc : Value) (a : Addr) (vs : List Value) (ns : List Int),
      Ground q loose [] XP w s₀ mg mb s₁.heap → YP w s₁.heap →
      s₁.heap.get? fa = some o → o.data = .func (docDef d.name d.params d.body d.scope pm cd doc) → s₁.heap.CodeRec cd d.name → mg d.name = some (.ref fa) →
      s₁.heap.get? a = some { cls := .type "list", data := .seq vs.toArray } → IntsAre vs ns → ns.length ≤ n → s₁.gens = #[] →
      codeAny (model l.prog w) callerA (.call (.ref fa) ⟨[.ref a], []⟩) (fun r s' => r = .ok (.ret (.bool true)) ∧ OldK s₁.heap s'.heap ∧ s'.os = s₁.os ∧ AllBare s'.gens) s₁) :
    WalkO q loose XP YP l.row.toRowW d [] (fun f vs => PySem.call f vs) := by
  intro w s₀ s₁ mg mb G Y fa o pm cd doc dV kV ho hd hcd hD hmg hg args vals as hpre hlay hrd hwl hlo
  obtain rfl : dV = .none := Dflts.none hD hdf
  obtain rfl : kV = .none := Dflts.noKw hD
  obtain ⟨a, vs, ns, rfl, rfl, hobj, hints, hlen⟩ := script_of hn hpre hwl
  refine enter_call (codeAny_mono (call w s₀ s₁ mg mb fa o pm cd doc a vs ns G Y ho (fd_plain hd) hcd hmg hobj hints hlen hg) fun r s' hq => ?_)
  obtain ⟨rfl, h2, h3, h4⟩ := hq
  exact ⟨.inl ⟨.bool true, .bool true, [], rfl, fun _ => rfl, .bool true, post_true l _, fun _ => ⟨List.Pairwise.nil, fun _ hm => (nomatch hm)⟩⟩, h2, h3, h4⟩


/-! ### rules over ANY heap (no ledger) from facts about the written part K: the library's own take a ledger (News) for what they write -/
section
variable {prog : Program} {w : World} {A : Around} {E : Value → Shared → Prop} {s : Shared} {K : Frag}





/-! the whole heap as the ledger: makes every rule that writes through a ledger a rule over any heap -/

end
end Att

namespace L2
open PySem PySem.Spec PyProof.Rows

theorem vals_ints : ∀ {vs : List Value} {ns : List Int}, IntsAre vs ns → Vals (ns.map V.int) vs
  | _, _, .nil => .nil
  | _, _, .cons n t h => .cons ⟨t, rfl⟩ (vals_ints h)

/-- nothing is tracked but the script, known to the object (or it is an object of the module) -/
def Only (H : Hp) : Prop := ∀ b, H b = none ∨ ∃ o xs, H b = some (.frz o (.lst xs))

/-- THE HEAD: the law's promise, at the heap behind the top. F, the promise of the law's def, may use that base is part of the heap (so K.In base, base.Ns mainGlobals mg stand in Mod) -/
theorem law_call {P : Program} {w : World} {K : PySem.W.Frag} {mg mb : Str → Option Value} {CX : CXT} {k : Nat} {fa a : Addr} {fd : FuncData} {x : Str} {sp : Sp} {s₁ : Shared} {vs : List Value} {ns : List Int}
    (KX : K.In s₁.heap) (hns : s₁.heap.Ns mainGlobals mg) (hb : s₁.heap.Ns builtinsNs mb) (hbb : ∀ x : Str, x ≠ "__name__" → mb x = bootBuiltins x) (hlim : s₁.heap.NoLimit) (hg : s₁.gens = #[])
    (ha : s₁.heap.get? a = some { cls := .type "list", data := .seq vs.toArray }) (hi : IntsAre vs ns) (hl : ns.length ≤ sizeLine) (hr : Room k callerA)
    (F : ∀ base : Heap, K.In base → base.Ns mainGlobals mg → FnOk P w K mg base CX k fa fd [x] sp) (hbind : ∀ (s : Shared) (u : Value), BindsTo s fd ⟨[u], []⟩ [(x, u)])
    (hsp : ∀ H : Hp, Only H → SqL K H a (ns.map V.int) → sp [.ref a] H (fun v _ => v = .bl true) fun _ _ _ => False)
    (hCX : ∀ H e s', CX [] H s₁ (fun _ _ _ => False) e s' → False) :
    codeAny (model P w) callerA (.call (.ref fa) ⟨[.ref a], []⟩) (fun r s' => r = .ok (.ret (.bool true)) ∧ OldK s₁.heap s'.heap ∧ s'.os = s₁.os ∧ AllBare s'.gens) s₁ := by
  have rv := vals_ints hi
  have lenV := hi.length
  -- from an abstract heap in which nothing but the script may be tracked
  have core : ∀ H : Hp, Only H → SqL K H a (ns.map V.int) → HOk P w H s₁.heap → (∀ b, H b ≠ none → b = a) → (H a ≠ none → K.lookup a = none) →
      codeAny (model P w) callerA (.call (.ref fa) ⟨[.ref a], []⟩) (fun r s' => r = .ok (.ret (.bool true)) ∧ OldK s₁.heap s'.heap ∧ s'.os = s₁.os ∧ AllBare s'.gens) s₁ := by
    intro H hO hS hok hA hK
    have base_of : ∀ {b : Addr} {o : Obj}, s₁.heap.get? b = some o → H b = none → (hidT s₁.heap H).get? b = some o := fun e n => hidT_get e n
    have noA : ∀ {b : Addr} {o : Obj} {es : Array DictEntry} {ep : Nat}, s₁.heap.get? b = some o → o.data = .dict es ep → H b = none := fun {b o es ep} e d => by
      cases q : H b with
      | none => rfl
      | some u =>
        have e' : b = a := hA b (by rw [q]; simp)
        subst e'
        rw [ha] at e; cases e
        have d' : Data.seq vs.toArray _ = Data.dict es ep := d
        cases d'
    have nsK : ∀ {b : Addr} {m : Str → Option Value}, s₁.heap.Ns b m → (hidT s₁.heap H).Ns b m := fun {b m} ⟨o, es, ep, e, d, r⟩ => ⟨o, es, ep, base_of e (noA e d), d, r⟩
    have hKb : K.In (hidT s₁.heap H) := fun b o e => base_of (KX b o e) (by
      cases q : H b with
      | none => rfl
      | some u =>
        have e' : b = a := hA b (by rw [q]; simp)
        subst e'
        rw [hK (by rw [q]; simp)] at e; cases e)
    have hM : Mod K mg (hidT s₁.heap H) := ⟨hKb, nsK hns, ⟨mb, nsK hb, hbb⟩, let ⟨mc, h1, h2⟩ := hlim; ⟨mc, nsK h1, h2⟩⟩
    have e0 : Env0 P w K mg (hidT s₁.heap H) callerA [] s₁ H := ⟨rfl, hM, fun b o e => of_hidT e, Nat.le_of_eq (hidT_size _ _), trivial, fun b hb => absurd (show b ∈ ([] : List Addr) from hb) (by simp), hok, .of_eq hg⟩
    refine codeAny_mono ((F _ hKb (nsK hns)).run callerA [] s₁ H ⟨[.ref a], []⟩ [.ref a] [.ref a] _ _ hr e0 (hbind s₁ (.ref a)) (.cons rfl .nil) (hsp H hO hS)) fun r s' h => ?_
    cases r with
    | error e => exact (hCX H e s' h).elim
    | ok fl =>
      cases fl with
      | next => exact False.elim h
      | brk => exact False.elim h
      | cont => exact False.elim h
      | ret u =>
        obtain ⟨v, H', os, bare, un, hok', r', q⟩ := h
        have q' : v = .bl true := q
        subst q'
        obtain rfl : u = Value.bool true := r'
        refine ⟨rfl, OldK.of_keep fun b o e => ?_, os, bare⟩
        cases q : H b with
        | none => exact un.keep b o e q (by intro z; exact absurd (show b ∈ ([] : List Addr) from z) (by simp)) (by simp)
        | some u =>
          rcases hO b with z | ⟨ob, xs, z⟩
          · rw [q] at z; cases z
          · have z2 := un.frzs b ob _ z
            obtain ⟨e1, _⟩ := hok b _ z
            obtain ⟨e2, _⟩ := hok' b _ z2
            rw [e] at e1; cases e1
            exact e2
  cases hk : K.lookup a with
  | some o =>
    -- the script is one of the module's own objects
    have e := KX a o hk
    rw [ha] at e
    cases e
    refine core (fun _ => none) (fun _ => .inl rfl) (.inr ⟨_, vs.toArray, _, hk, rfl, rfl, rfl, by rw [List.size_toArray, lenV]; exact hl, by simpa using rv⟩) (fun b u z => by have z' : (none : Option HO) = some u := z; cases z') (fun b z => absurd rfl z) fun z => absurd rfl z
  | none =>
    refine core (fun b => if b = a then some (.frz { cls := .type "list", data := .seq vs.toArray } (.lst (ns.map V.int))) else none) (fun b => ?_) (.inl (.inr ⟨{ cls := .type "list", data := .seq vs.toArray }, if_pos rfl⟩)) (fun b u z => ?_) (fun b z => ?_) fun _ => hk
    · by_cases hb : b = a
      · exact .inr ⟨_, _, if_pos hb⟩
      · exact .inl (if_neg hb)
    · by_cases hb : b = a
      · have z' := (if_pos hb).symm.trans z
        cases z'
        subst hb
        exact ⟨ha, by rw [List.length_map]; exact hl, vs, _, rv, ha⟩
      · have z' := (if_neg hb).symm.trans z
        cases z'
    · by_cases hb : b = a
      · exact hb
      · exact absurd (if_neg hb) z
end L2

namespace L2
open PySem PySem.Spec PyProof.Rows


/-- the goal that k_head leaves (case hc), from the law's promise. F gives the function object fd (K's own) once, then the promise over every base -/
theorem walk_of {l : PySem.W.OpenLaw} {n k : Nat} {q : Program} {loose : List Str} {XP : (Str → Option Value) → Heap → Prop} {YP : World → Heap → Prop} {d : DefRec} {K : Params → PySem.W.Frag} {CX : World → CXT} {sp : World → Sp} {x : Str}
    (hn : l.most = some n) (hn2 : n ≤ sizeLine) (hdf : d.params.defaults = []) (hr : Room k callerA)
    (hY : ∀ (w : World) (h : Heap), YP w h → (K w.params).In h)
    (F : ∀ (w : World) (mg : Str → Option Value) (fa : Addr) (h : Heap), (K w.params).In h → h.Ns mainGlobals mg → mg d.name = some (.ref fa) →
      ∃ fd : FuncData, (∀ (s : Shared) (u : Value), BindsTo s fd ⟨[u], []⟩ [(x, u)]) ∧
        ∀ base : Heap, (K w.params).In base → base.Ns mainGlobals mg → FnOk l.prog w (K w.params) mg base (CX w) k fa fd [x] (sp w))
    (hsp : ∀ (w : World) (H : Hp) (a : Addr) (ns : List Int), ns.length ≤ n → Only H → SqL (K w.params) H a (ns.map V.int) → sp w [.ref a] H (fun v _ => v = .bl true) fun _ _ _ => False)
    (hCX : ∀ (w : World) (H : Hp) (s : Shared) (e : Value) (s' : Shared), CX w [] H s (fun _ _ _ => False) e s' → False) :
    PySem.W.WalkO q loose XP YP l.row.toRowW d [] (fun f vs => PySem.call f vs) := by
  refine Att.attach_call hn hdf fun w s₀ s₁ mg mb fa o pm cd doc a vs ns G Y ho hd hcd hmg hobj hints hlen hg => ?_
  have KX := hY w _ Y
  obtain ⟨fd, hb, hF⟩ := F w mg fa _ KX G.T.g hmg
  exact law_call KX G.T.g G.T.b G.T.builtins G.T.nolimit hg hobj hints (Nat.le_trans hlen hn2) hr hF hb (fun H hO hS => hsp w H a ns hlen hO hS) fun H e s' => hCX w H s₁ e s'
end L2

/- THE LAST THEOREM (shape; LID, My.* are yours):
   My.Adr: a structure of the addresses that your layer names (classes, functions); My.Txt K t: a structure (Prop) of the equations over K;
   My.txt_mk : {K} {implicit addresses ..} (e1 : nsIn K mainGlobals "law" = some (some (.ref f))) (e2 : K.lookup f = some ⟨oc, od, .func (fnOf "law" "law" params body scope dV kV doc pm an cdv ct), sl⟩) (e3 : codeIn K cdv "law" = true) .. : ∃ t, My.Txt K t

set_option maxRecDepth 100000 in
set_option maxHeartbeats 0 in
theorem PySem.Challenge.cw_LID_holds : PySem.Challenge.rw_LID.Holds := by
  w_on; o_law; k_head; (case hw => w_witness2)
  k_fill
  refine L2.walk_of (l := PySem.Challenge.rw_LID) (n := 63) (k := 40) (x := "script") (CX := fun w => ..) (sp := fun _ => My.sp_law) rfl (by decide) rfl ⟨rfl, by decide, by decide⟩ (fun w h Y => PySem.W.kIn_of Y) ?F ?S ?C
  case F =>
    intro w mg fa h KX G hmg
    have T : ∃ t, My.Txt (L2.KOf KX) t := by
      dsimp only [L2.KOf]                          -- K must stand as «<heap const> w.params» for k_is
      refine' My.txt_mk ?e1 ?e2 ?e3 ..
      (case e1 => PySem.W.k_is)                    -- in the order: a name -> its address -> its object -> its parts
      (case e2 => PySem.W.k_is)
      ..
    obtain ⟨t, T⟩ := T
    have e0 := hmg.symm.trans (PySem.W.mg_of KX G T.law)
    cases e0                                       -- fa is the law's own address
    exact ⟨_, fun s u => .of_eq rfl, fun base kb nb => My.law_fn T kb nb⟩     -- if «.of_eq rfl» comes too early: refine' ⟨_, ?b, fun base kb nb => My.law_fn T kb nb⟩; exact fun s u => .of_eq rfl
  case S => exact fun w H a ns hl hO hS => ..
  case C => exact ..
(the tactic k_is has no namespace: write k_is) -/

/-! SHORT WORDS over the layer: a def of the text, its body, what a loop and a test want. -/
namespace L2
open PySem PySem.Spec PyProof.Rows

/-! ### the text by places -/
def defArgs (s : Stmt) : Arguments := match s with
  | .FunctionDef _ a _ _ _ _ _ _ _ _ => a
  | _ => { posonlyargs := [], args := [], vararg := none, kwonlyargs := [], kw_defaults := [], kwarg := none, defaults := [] }
def defBody (s : Stmt) : List Stmt := match s with
  | .FunctionDef _ _ b _ _ _ _ _ _ _ => b
  | _ => []
def defScope (s : Stmt) : Scope := match s with
  | .FunctionDef _ _ _ _ _ _ sc _ _ _ => sc
  | _ => { kind := .function, names := [], isGenerator := false, isCoroutine := false }

/-! ### no exception leaves a def -/
abbrev CX0 : CXT := fun _ _ _ _ _ _ => False
abbrev E0 : XK := fun _ _ _ => False
theorem pass0 {X : Cx} : Passes CX0 X E0 := fun _ _ _ _ _ _ _ h => h.elim

/-! ### a def (or method) of the text as it stands behind the top -/
structure Fun (K : PySem.W.Frag) (x qual : Str) (st : Stmt) (f : Addr) (fd : FuncData) : Prop where
  ex : ∃ (oc : Value) (od : Option Addr) (kV doc pm : Value) (an : Option Addr) (cdv ct : Value) (osl : Array (Option Value)),
    fd = PySem.W.fnOf x qual (defArgs st) (defBody st) (defScope st) .none kV doc pm an cdv ct ∧ K.lookup f = some ⟨oc, od, .func fd, osl⟩ ∧ PySem.W.codeIn K cdv qual = true
  kp : PySem.W.keepIn K (.ref f) = true
section
variable {P : Program} {w : World} {K : PySem.W.Frag} {mg : Str → Option Value} {base : Heap}
/-- THE RULE for a def: its body as a term of rules, and the reading of that term -/
theorem Fun.ok {x qual : Str} {st : Stmt} {f : Addr} {fd : FuncData} {N ps : List Str} {k : Nat} {sp : Sp} (F : Fun K x qual st f fd) (S : FnScope N ps (defScope st)) (len : ∀ vs H Q E, sp vs H Q E → vs.length = ps.length)
    (hbody : ∀ (cdv : Value) (A : Around) (outer : List Env) (s : Shared) (H : Hp) (vs : List V) (Q : VK) (E : XK), Room k (A.deeper (envOfC qual (defScope st) s.heap.objs.size f cdv)) → sp vs H Q E →
      ∃ t, PSs (cxOf CX0 P w K mg base N qual (defScope st) f cdv A outer s H E).nox (defBody st) t ∧ t { nx := fun _ H' => Q .non H', rt := Q } (start N vs) H) : FnOk P w K mg base CX0 (k + 1) f fd ps sp := by
  obtain ⟨oc, od, kV, doc, pm, an, cdv, ct, osl, rfl, lk, hcd⟩ := F.ex
  refine fn_of lk hcd S len fun A outer s H vs Q E hr hsp => ?_
  obtain ⟨t, h, q⟩ := hbody cdv A outer s H vs Q E hr hsp
  exact ⟨t, h.nox, q⟩
/-- how its arguments bind (no defaults): h is «fun _ _ _ _ _ _ us hl => match us, hl with | [_, _], _ => rfl», one _ a parameter -/
theorem Fun.binds {x qual : Str} {st : Stmt} {f : Addr} {fd : FuncData} {ps : List Str} (F : Fun K x qual st f fd)
    (h : ∀ (kV doc pm : Value) (an : Option Addr) (cdv ct : Value) (us : List Value), us.length = ps.length → bindArgs (PySem.W.fnOf x qual (defArgs st) (defBody st) (defScope st) .none kV doc pm an cdv ct) ⟨us, []⟩ = pure (ps.zip us)) : Binds K fd ps [] := by
  obtain ⟨oc, od, kV, doc, pm, an, cdv, ct, osl, rfl, lk, hcd⟩ := F.ex
  exact .all (h kV doc pm an cdv ct)
theorem fun_mk {x qual : Str} {st : Stmt} {f : Addr} {oc : Value} {od an : Option Addr} {osl : Array (Option Value)} {kV doc pm cdv ct : Value} (l : K.lookup f = some ⟨oc, od, .func (PySem.W.fnOf x qual (defArgs st) (defBody st) (defScope st) .none kV doc pm an cdv ct), osl⟩)
    (c : PySem.W.codeIn K cdv qual = true) (k : PySem.W.keepIn K (.ref f) = true) : Fun K x qual st f (PySem.W.fnOf x qual (defArgs st) (defBody st) (defScope st) .none kV doc pm an cdv ct) := ⟨⟨oc, od, kV, doc, pm, an, cdv, ct, osl, rfl, l, c⟩, k⟩
end

/-! ### expressions in short: the name that stands in the i-th slot -/
section
variable {X : Cx}
theorem pv (i : Nat) {x : Str} {pos : Pos} (hN : X.N[i]? = some x := by rfl) (hv : Vis X.env.scope x := by first | exact Or.inl rfl | exact Or.inr (Or.inl rfl) | exact Or.inr (Or.inr rfl)) (hd : (x == ("__debug__" : Str)) = false := by decide)
    (hcd : (x == ("__classdict__" : Str)) = false := by decide) : PE X (.Name x pos) (tVar i) := pe_var hN hv hd hcd
end

/-! ### tests -/
theorem iteF {A B : Prop} (h : B) : if false = true then A else B := by
  rw [if_neg Bool.false_ne_true]
  exact h
theorem iteT {A B : Prop} (h : A) : if true = true then A else B := by
  rw [if_pos rfl]
  exact h
theorem ite2 {c A B : Prop} [Decidable c] (h1 : c → A) (h2 : ¬ c → B) : if c then A else B := by
  by_cases h : c
  · rw [if_pos h]
    exact h1 h
  · rw [if_neg h]
    exact h2 h
theorem iteNS {c A B : Prop} [Decidable c] (hc : c) (h : B) : if (!decide c) = true then A else B := by
  rw [decide_eq_true hc]
  exact iteF h

/-! ### heaps -/
/-- all that was tracked is as it was -/
def Same (H H' : Hp) : Prop := ∀ b o, H b = some o → H' b = some o
theorem Same.refl (H : Hp) : Same H H := fun _ _ h => h
theorem Same.trans {H H1 H2 : Hp} (a : Same H H1) (b : Same H1 H2) : Same H H2 := fun c o h => b c o (a c o h)
theorem Same.free {H H' : Hp} (e : Same H H') {l : Addr} (h : H' l = Option.none) : H l = Option.none := by
  cases q : H l with
  | none => rfl
  | some o =>
    rw [e l o q] at h
    cases h
theorem Same.seq {K : PySem.W.Frag} {H H' : Hp} {a : Addr} {xs : List V} (e : Same H H') (h : SqL K H a xs) : SqL K H' a xs := by
  rcases h with (h | ⟨o, h⟩) | h
  · exact .inl (.inl (e _ _ h))
  · exact .inl (.inr ⟨o, e _ _ h⟩)
  · exact .inr h

end L2

set_option Elab.async false
set_option linter.all false
set_option maxRecDepth 100000
/-! A comprehension of lists, one clause, any target, at most one test: by the hand layer's judgements. -/
namespace L2
open PySem PySem.Spec PyProof.Rows

/-! ### the closure -/
def clOf (cells : List (Str × Addr)) : List (Str × NameKind) → List (Str × Addr) → List (Str × Addr)
  | [], acc => acc
  | (n, k) :: r, acc => clOf cells r (if k = .free then (n, (cells.lookup n).getD 0) :: acc else acc)
theorem clos_loop {env : Env} : ∀ (l : List (Str × NameKind)) (acc : List (Str × Addr)), (∀ p ∈ l, p.2 = NameKind.free → (env.cells.lookup p.1).isSome = true) →
    (forIn l acc fun (x : Str × NameKind) (r : List (Str × Addr)) => (if (x.2 == NameKind.free) = true then do let a ← cellOf env x.1; pure (ForInStep.yield ((x.1, a) :: r)) else pure (ForInStep.yield r) : Sem (ForInStep (List (Str × Addr))))) = pure (clOf env.cells l acc)
  | [], acc, _ => rfl
  | (n, k) :: r, acc, h => by
    rw [List.forIn_cons]
    have ih := fun a => clos_loop (env := env) r a fun p hp => h p (List.mem_cons_of_mem _ hp)
    by_cases hk : k = .free
    · subst hk
      have hs := h (n, .free) List.mem_cons_self rfl
      obtain ⟨c, hc⟩ := Option.isSome_iff_exists.mp hs
      have e1 : cellOf env n = pure c := by unfold cellOf; rw [show env.cells.lookup n = some c from hc]
      have e2 : clOf env.cells ((n, .free) :: r) acc = clOf env.cells r ((n, c) :: acc) := by
        show clOf env.cells r (if NameKind.free = NameKind.free then (n, (env.cells.lookup n).getD 0) :: acc else acc) = _
        rw [if_pos rfl, show env.cells.lookup n = some c from hc]
        rfl
      rw [e2]
      simp only [beq_self_eq_true, if_true, e1, pure_bind]
      exact ih _
    · have hb : (k == NameKind.free) = false := by simpa using hk
      have e2 : clOf env.cells ((n, k) :: r) acc = clOf env.cells r acc := by
        show clOf env.cells r (if k = NameKind.free then _ else acc) = _
        rw [if_neg hk]
      rw [e2]
      simp only [hb, Bool.false_eq_true, if_false, pure_bind]
      exact ih _
theorem clos_eq {scope : Scope} {env : Env} (h : ∀ p ∈ scope.names, p.2 = NameKind.free → (env.cells.lookup p.1).isSome = true) : closureFor scope env = pure (clOf env.cells scope.names []) := by
  have e := clos_loop (env := env) scope.names [] h
  unfold closureFor
  simp only [bind_pure]
  exact e
theorem clOf_sub {cells : List (Str × Addr)} {x : Str} {c : Addr} : ∀ (l : List (Str × NameKind)) (acc : List (Str × Addr)), (∀ p ∈ l, p.2 = NameKind.free → (cells.lookup p.1).isSome = true) → (clOf cells l acc).lookup x = some c →
    acc.lookup x = some c ∨ cells.lookup x = some c
  | [], _, _, h => .inl h
  | (n, k) :: r, acc, hf, h => by
    have h' : (clOf cells r (if k = .free then (n, (cells.lookup n).getD 0) :: acc else acc)).lookup x = some c := h
    rcases clOf_sub r _ (fun p hp => hf p (List.mem_cons_of_mem _ hp)) h' with e | e
    · by_cases hk : k = .free
      · rw [if_pos hk] at e
        obtain ⟨d, hd⟩ := Option.isSome_iff_exists.mp (hf (n, k) List.mem_cons_self hk)
        rw [show cells.lookup n = some d from hd] at e
        rw [List.lookup_cons] at e
        cases hx : x == n with
        | true =>
          rw [hx] at e
          have : x = n := by simpa using hx
          subst this
          exact .inr (hd.trans (by simpa using e))
        | false =>
          rw [hx] at e
          exact .inl e
      · rw [if_neg hk] at e
        exact .inl e
    · exact .inr e
theorem clOf_has {cells : List (Str × Addr)} {x : Str} : ∀ (l : List (Str × NameKind)) (acc : List (Str × Addr)), ((∃ k, (x, k) ∈ l ∧ k = NameKind.free) ∨ (∃ c, acc.lookup x = some c)) → ∃ c, (clOf cells l acc).lookup x = some c
  | [], _, h => by
    rcases h with ⟨k, hk, _⟩ | h
    · exact absurd hk (by simp)
    · exact h
  | (n, k) :: r, acc, h => by
    show ∃ c, (clOf cells r (if k = .free then (n, (cells.lookup n).getD 0) :: acc else acc)).lookup x = some c
    refine clOf_has r _ ?_
    rcases h with ⟨k', hk, e⟩ | ⟨c, hc⟩
    · rcases List.mem_cons.mp hk with z | z
      · cases z
        refine .inr ?_
        rw [if_pos e]
        exact ⟨_, by rw [List.lookup_cons, beq_self_eq_true]⟩
      · exact .inl ⟨k', z, e⟩
    · refine .inr ?_
      by_cases hk : k = .free
      · rw [if_pos hk, List.lookup_cons]
        cases hx : x == n with
        | true => exact ⟨_, rfl⟩
        | false => exact ⟨c, hc⟩
      · rw [if_neg hk]
        exact ⟨c, hc⟩
theorem relabel_mem {scope : Scope} {env : Env} {x : Str} {k : NameKind} (hc : ∀ p ∈ scope.names, p.2 ≠ NameKind.cell) (h : (relabel scope env).names.lookup x = some k) (hk : k = .cell ∨ k = .free) : ∃ k', (x, k') ∈ scope.names ∧ k' = NameKind.free := by
  have m := PySem.mem_of_lookup h
  obtain ⟨⟨n, k0⟩, hm, e⟩ := List.mem_map.mp m
  dsimp only at e
  split at e
  · rename_i c
    cases e
    have : (k0 == NameKind.free) = true := by
      cases q : (k0 == NameKind.free) with
      | true => rfl
      | false => rw [q] at c; simp at c
    exact ⟨k0, hm, by simpa using this⟩
  · cases e
    rcases hk with z | z
    · exact absurd z (hc _ hm)
    · exact ⟨_, hm, z⟩

/-! ### the block's context -/
def cxC (X : Cx) (scope : Scope) (Nc : List Str) (C : Addr) (fp : List Addr) (pins : List (Addr × Obj)) (s₂ : Shared) (H₂ : Hp) : Cx where
  prog := X.prog
  w := X.w
  K := X.K
  mg := X.mg
  base := X.base
  A := X.A
  N := Nc
  s₀ := s₂
  H₀ := H₂
  env := compEnvC scope (clOf X.env.cells scope.names []) C X.env
  outer := X.stack
  stack := X.stack
  ex := fp
  fn := fun _ => false
  calm := X.calm
  pn := X.pn ++ pins
  xe := fun _ _ => False
/-- which names of the block stand for which slots of the def -/
def Caps (X : Cx) (env' : Env) : List Str → List (Option Nat) → Prop
  | [], [] => True
  | _ :: N, none :: r => Caps X env' N r
  | x :: N, some i :: r => (X.N[i]? = some x ∧ (X.env.kindOf x = some .cell ∨ X.env.kindOf x = some .free) ∧ env'.cells.lookup x = X.env.cells.lookup x ∧ (env'.kindOf x = some .cell ∨ env'.kindOf x = some .free)) ∧ Caps X env' N r
  | _, _ => False
def capσ (σ : St) (src : List (Option Nat)) : St := src.map fun o => match o with | none => none | some i => (σ[i]?).join
theorem Caps.len {X : Cx} {env' : Env} : ∀ {N : List Str} {src : List (Option Nat)}, Caps X env' N src → src.length = N.length
  | [], [], _ => rfl
  | [], _ :: _, h => h.elim
  | _ :: _, [], h => h.elim
  | _ :: N, none :: r, h => by
    have h' : Caps X env' N r := h
    have := Caps.len (N := N) (src := r) h'
    simp [this]
  | _ :: N, some _ :: r, h => by
    have := Caps.len (N := N) (src := r) h.2
    simp [this]
theorem Caps.get {X : Cx} {env' : Env} {x : Str} : ∀ {N : List Str} {src : List (Option Nat)} {j i : Nat}, Caps X env' N src → N[j]? = some x → src[j]? = some (some i) →
    X.N[i]? = some x ∧ (X.env.kindOf x = some .cell ∨ X.env.kindOf x = some .free) ∧ env'.cells.lookup x = X.env.cells.lookup x ∧ (env'.kindOf x = some .cell ∨ env'.kindOf x = some .free)
  | [], [], _, _, _, e, _ => by simp at e
  | [], _ :: _, _, _, h, _, _ => h.elim
  | _ :: _, [], _, _, h, _, _ => h.elim
  | _ :: _, none :: _, 0, _, _, _, e => by simp at e
  | _ :: N, none :: r, j + 1, _, h, e1, e2 => by
    have h' : Caps X env' N r := h
    exact Caps.get (N := N) (src := r) (j := j) h' (by simpa using e1) (by simpa using e2)
  | _ :: _, some _ :: _, 0, _, h, e1, e2 => by
    simp at e1 e2
    subst e1 e2
    exact h.1
  | _ :: _, some _ :: _, j + 1, _, h, e1, e2 => Caps.get (j := j) h.2 (by simpa using e1) (by simpa using e2)

/-- what a block's scope must be (checked by computing) -/
structure CScope (X : Cx) (scope : Scope) : Prop where
  kind : scope.kind = .function
  cell : scope.names.all (fun p => p.2 != .cell) = true
  names : scope.names.all (fun p => p.2 != .local || scope.names.lookup p.1 == some .local) = true
  free : scope.names.all (fun p => p.2 != .free || (X.env.cells.lookup p.1).isSome) = true
section
variable {X : Cx} {scope : Scope}
theorem CScope.hcell (S : CScope X scope) : ∀ p ∈ scope.names, p.2 ≠ NameKind.cell := fun p hp => by
  have := List.all_eq_true.mp S.cell p hp
  simpa using this
theorem CScope.hnames (S : CScope X scope) : ∀ p ∈ scope.names, p.2 = .local → scope.names.lookup p.1 = some .local := fun p hp e => by
  have := List.all_eq_true.mp S.names p hp
  simpa [e] using this
theorem CScope.hfree (S : CScope X scope) : ∀ p ∈ scope.names, p.2 = NameKind.free → (X.env.cells.lookup p.1).isSome = true := fun p hp e => by
  have := List.all_eq_true.mp S.free p hp
  simpa [e] using this
end

/-- several tests (none or one) -/
def PTs (X : Cx) (ifs : List Expr) (t : TT) : Prop :=
  ∀ (pins : List (Addr × Obj)) (s : Shared) (σ : St) (H : Hp) (Q : Bool → Hp → Prop), Inv X pins σ H s → t σ H Q →
    wpAny (model X.prog X.w) X.A (forIn ifs true fun c r => if r = true then do let ok ← isTrue c X.env (eval c X.env); pure (ForInStep.yield ok) else pure (ForInStep.yield r)) (TP X pins σ Q) X.xe s
def tYes : TT := fun _ H Q => Q true H
theorem pts_nil {X : Cx} : PTs X [] tYes := fun _ _ _ H _ I h => wpAny_tests_nil ⟨H, I, h⟩

/-- the loop of a comprehension, with the step that lets an owned tuple go -/
theorem compLoop_any {prog : Program} {w : World} {A : Around} {R : Result → Shared → Prop} {s : Shared} {elt target iter : Expr} {ifs : List Expr} {scope : Scope} {pos : Pos} {it acc : Value} {env : Env} (I : Nat → Shared → Prop)
    (turn : ∀ n s, I n s → wpAny (model prog w) A (pyNext it) (fun r s₁ => match r with
      | none => R (.ok .next) s₁
      | some v => wpAny (model prog w) A (letOwnedTupleGo target it v) (fun _ s₁' => wpAny (model prog w) A (assign target env v) (fun _ s₂ =>
          wpAny (model prog w) A (forIn ifs true fun c r => if r = true then do let ok ← isTrue c env (eval c env); pure (ForInStep.yield ok) else pure (ForInStep.yield r)) (fun ok s₃ =>
            if ok = true then wpAny (model prog w) A (eval elt env) (fun x s₄ =>
              wpAny (model prog w) A (call (.builtin "list.append") [acc, x]) (fun _ s₅ => ∃ m, m < n ∧ I m s₅) (fun _ _ => False) s₄) (fun _ _ => False) s₃
            else ∃ m, m < n ∧ I m s₃) (fun _ _ => False) s₂) (fun _ _ => False) s₁') (fun _ _ => False) s₁) (fun _ _ => False) s)
    (n : Nat) (h : I n s) :
    codeAny (model prog w) A (.compLoop (.ListComp elt [⟨target, iter, ifs, 0⟩] scope pos) 0 it acc env) R s := by
  refine codeAny_loop rfl I (fun n s hI => ?_) n h
  show wpAny _ A ((compTurn (.ListComp elt [⟨target, iter, ifs, 0⟩] scope pos) 0 it acc env).onRaise (fun x => do noteFrame x env; theTreesLotGoes x)) _ _ s
  refine wpAny_noted ?_
  rw [compTurn_list]
  refine wpAny_bind (wpAny_standAt (wpAny_bind (wpAny_mono (turn n s hI) (fun r s₁ h₁ => ?_) fun _ _ h' => h'.elim)))
  cases r with
  | none => exact wpAny_pure h₁
  | some v =>
    refine wpAny_bind (wpAny_mono h₁ (fun _ s₁' h₁' => ?_) fun _ _ h' => h'.elim)
    refine wpAny_bind (wpAny_mono h₁' (fun _ s₂ h₂ => wpAny_bind (wpAny_mono h₂ (fun ok s₃ h₃ => ?_) fun _ _ h' => h'.elim)) fun _ _ h' => h'.elim)
    cases ok with
    | false => exact wpAny_pure ⟨rfl, h₃⟩
    | true =>
      exact wpAny_bind (wpAny_bind (wpAny_mono h₃ (fun x s₄ h₄ => wpAny_bind (wpAny_mono h₄ (fun _ s₅ h₅ => wpAny_pure (wpAny_pure ⟨rfl, h₅⟩)) fun _ _ h' => h'.elim)) fun _ _ h' => h'.elim))

/-! ### the loop -/
/-- W: the invariant by the turn, a measure, what is collected, the block's names, the heap -/
def CompW (J : It) (g : TG) (tt : TT) (te : TE) (Fin : List V → Hp → Prop) (σ0 : St) (H0 : Hp) : Prop :=
  ∃ W : Nat → Nat → List V → St → Hp → Prop, (∃ m, W 0 m [] σ0 H0) ∧ ∀ i m ys σ H, W i m ys σ H → ys.length < sizeLine ∧
    ((J.stop i H ∧ Fin ys H) ∨ (J.go i H ∧ ∀ x H', J.yld i H x H' → g x σ H' fun σ2 H2 => tt σ2 H2 fun b H3 =>
      if b = true then te σ2 H3 fun y H4 => ∃ m', m' < m ∧ W (i + 1) m' (ys ++ [y]) σ2 H4 else ∃ m', m' < m ∧ W (i + 1) m' ys σ2 H3))

theorem comp_core {X : Cx} {tg iter elt : Expr} {ifs : List Expr} {scope : Scope} {pos : Pos} {Nc : List Str} {src : List (Option Nat)} {g : TG} {tt : TT} {te : TE} (hc : X.calm = true) (S : CScope X scope)
    (hcaps : ∀ C, Caps X (compEnvC scope (clOf X.env.cells scope.names []) C X.env) Nc src)
    (hb : ∀ C fp pins s₂ H₂, PG (cxC X scope Nc C fp pins s₂ H₂) tg g ∧ PTs (cxC X scope Nc C fp pins s₂ H₂) ifs tt ∧ PE (cxC X scope Nc C fp pins s₂ H₂) elt te)
    {pins : List (Addr × Obj)} {s₂ : Shared} {σ : St} {H₂ : Hp} {it : Addr} {fp : List Addr} {tn : Nat → Heap → Prop} {J : It} (I₂ : Inv X pins σ H₂ s₂) (T : Turn X.prog X.w X.K tg J fp it tn) (st : tn 0 s₂.heap) (hf : ∀ b ∈ fp, FpOk X pins H₂ b)
    {Fin : List V → Hp → Prop} (hW : CompW J g tt te Fin (capσ σ src) H₂) {RR : Value → Addr → Result → Shared → Prop} {E : Value → Shared → Prop}
    (hRR : ∀ D C s' ys H' m, Fin ys H' → H' D = none → Inv X pins σ (upd H' D (.lst ys)) s' → s'.heap.Ns C m → FpOk X pins (upd H' D (.lst ys)) C → RR (.ref D) C (.ok .next) s') :
    wpAny (model X.prog X.w) X.A (newList []) (fun acc s₃ => wpAny (model X.prog X.w) X.A (newFunctionEnv scope X.env.globals (clOf X.env.cells scope.names []) [] X.env.qual none .none (some X.env)) (fun cenv s₄ =>
      codeAny (model X.prog X.w) X.A (.compStart (.ListComp elt [⟨tg, iter, ifs, 0⟩] scope pos) 0 (.ref it) acc { cenv with scope := relabel scope X.env }) (RR acc cenv.locals) s₄) E s₃) E s₂ := by
  refine wpAny_newObj_type (wpAny_newFunctionEnv S.hcell (by intro y hy; simp at hy) (fun h₁ hns₁ hsb₁ => ?_) S.kind)
  dsimp only at hns₁ hsb₁ ⊢
  generalize hH2 : s₂.heap.push { cls := .type "list", dict := none, data := .seq ([] : List Value).toArray } = HH at hns₁ hsb₁ ⊢
  generalize hDD : s₂.heap.objs.size = D at hns₁ hsb₁ ⊢
  have hC : HH.objs.size = D + 1 := by rw [← hH2, Heap.size_push, hDD]
  generalize hCC : HH.objs.size = C at hns₁ hsb₁ hC ⊢
  have hDC : D ≠ C := by omega
  have below : ∀ b, b < s₂.heap.objs.size → b ≠ C ∧ b ≠ D := fun b hb => by rw [hDD] at hb; exact ⟨by rw [hC]; exact Nat.ne_of_lt (Nat.lt_succ_of_lt hb), Nat.ne_of_lt hb⟩
  have belowO : ∀ {b o}, s₂.heap.get? b = some o → b ≠ C ∧ b ≠ D := fun {b o} e => below b (Heap.lt_size e)
  have old : ∀ b o, s₂.heap.get? b = some o → h₁.get? b = some o := fun b o e => hsb₁.extBut b o (belowO e).1 (Heap.get?_push_of_some _ (hH2 ▸ Heap.get?_push_of_some _ e))
  have hacc : h₁.get? D = some { cls := .type "list", data := .seq ([] : List Value).toArray } := hsb₁.extBut _ _ hDC (Heap.get?_push_of_some _ (hH2 ▸ hDD ▸ Heap.get?_push_size _ rfl))
  have fpO : ∀ b ∈ fp, ∃ o, s₂.heap.get? b = some o := fun b hb => let ⟨o, e, _⟩ := T.obj _ _ st b hb; ⟨o, e⟩
  have fpC : ∀ b ∈ fp, b ≠ C ∧ b ≠ D := fun b hb => let ⟨o, e⟩ := fpO b hb; belowO e
  have sub : ∀ {x c}, (clOf X.env.cells scope.names []).lookup x = some c → X.env.cells.lookup x = some c := fun {x c} e => by
    rcases clOf_sub scope.names [] S.hfree e with z | z
    · simp at z
    · exact z
  have ltD : ∀ {b o}, s₂.heap.get? b = some o → b < D := fun {b o} e => by rw [← hDD]; exact Heap.lt_size e
  have fresh : ∀ a, D ≤ a → H₂ a = none := fun a ha => I₂.hok.fresh (by rw [hDD]; exact ha)
  have cellO : ∀ {x c}, X.env.cells.lookup x = some c → ∃ o, s₂.heap.get? c = some o := fun {x c} e => let ⟨v, o, ho, _⟩ := I₂.cell x c e; ⟨o, ho⟩
  have stkC : ∀ b ∈ frs X.stack, ∃ o, s₂.heap.get? b = some o := fun b hb => by
    rcases List.mem_cons.mp (I₂.stkSub b hb) with e | hb
    · rw [e]
      obtain ⟨m, ⟨o, _, _, ho, _⟩, _⟩ := I₂.loc
      exact ⟨o, ho⟩
    · obtain ⟨_, o, ho, _⟩ := I₂.funs.mem hb
      exact ⟨o, ho⟩
  have nstk : ∀ a, D ≤ a → a ∉ frs X.stack := fun a ha hb => by
    obtain ⟨o, e⟩ := stkC a hb
    exact absurd (Nat.lt_of_lt_of_le (ltD e) ha) (Nat.lt_irrefl _)
  have fpS : ∀ b ∈ fp, b ∉ frs X.stack := fun b hb z => by
    obtain ⟨_, f1, f2, _⟩ := hf b hb
    rcases List.mem_cons.mp (I₂.stkSub b z) with e | e
    · exact f1 e
    · exact f2 e
  -- the block's context
  generalize hX' : cxC X scope Nc C fp pins s₂ H₂ = X'
  obtain ⟨hg, ht, he⟩ := hb C fp pins s₂ H₂
  rw [hX'] at hg ht he
  have ok' : X'.Ok := by
    subst hX'
    refine ⟨I₂.ok.mod, S.kind, I₂.ok.glob, I₂.ok.blt, ?_, ?_, ?_, ?_, I₂.ok.hd, I₂.ok.frames, .inl rfl, ?_, I₂.bs, Nat.le_trans I₂.ok.bsz I₂.sz, ?_, fpS, I₂.stack, I₂.stkFree⟩
    · show s₂.heap.objs.size ≤ C
      omega
    · exact fun x y c e1 e2 => I₂.ok.inj x y c (sub e1) (sub e2)
    · intro x hx
      have hx : (relabel scope X.env).names.lookup x = some .cell ∨ (relabel scope X.env).names.lookup x = some .free := hx
      have : ∃ k', (x, k') ∈ scope.names ∧ k' = NameKind.free := by
        rcases hx with z | z
        · exact relabel_mem S.hcell z (.inl rfl)
        · exact relabel_mem S.hcell z (.inr rfl)
      exact clOf_has scope.names [] (.inl this)
    · intro x c z
      exact absurd z (by show ¬ (false = true); simp)
    · intro b hb
      exact ⟨(fpC b hb).1, fun x c e => (hf b hb).2.2.2.2.1 x c (sub e)⟩
    · intro b o e hb
      obtain ⟨_, _, _, f3, _⟩ := hf b hb
      rcases f3 with z | z
      · exact I₂.ok.noex b o e z
      · exact absurd (Nat.lt_of_lt_of_le (Heap.lt_size (I₂.ok.bs b o e).1) z) (Nat.lt_irrefl _)
  have eP : X'.prog = X.prog := by subst hX'; rfl
  have ew : X'.w = X.w := by subst hX'; rfl
  have eK : X'.K = X.K := by subst hX'; rfl
  have eA : X'.A = X.A := by subst hX'; rfl
  have eE : X'.xe = fun _ _ => False := by subst hX'; rfl
  have eL : X'.env.locals = C := by subst hX'; rfl
  have eN : X'.env = compEnvC scope (clOf X.env.cells scope.names []) C X.env := by subst hX'; rfl
  have ec : X'.calm = true := by subst hX'; exact hc
  have eS : X'.s₀ = s₂ := by subst hX'; rfl
  have eH : X'.H₀ = H₂ := by subst hX'; rfl
  have ef : X'.fs = frs X.stack := by subst hX'; rfl
  have ex : X'.ex = fp := by subst hX'; rfl
  have ep : X'.pn = X.pn ++ pins := by subst hX'; rfl
  have I0 : Inv X' [] (capσ σ src) H₂ { s₂ with heap := h₁, toks := s₂.toks + ([] : List (Str × Value)).length } := by
    refine ⟨ok', by rw [eS], I₂.bare, by rw [eS, eH]; exact Un.kept old, ⟨_, by rw [eL]; exact hns₁, ?_⟩, ?_, by rw [eL]; exact fresh _ (by omega), ?_, ?_, by rw [eP, ew]; exact I₂.hok.kept old, ?_⟩
    · intro j x v e1 e2 e3
      have e1 : Nc[j]? = some x := by subst hX'; exact e1
      have e4 : ∃ i, src[j]? = some (some i) ∧ (σ[i]?).join = some v := by
        unfold capσ at e2
        rw [List.getElem?_map] at e2
        cases q : src[j]? with
        | none => rw [q] at e2; cases e2
        | some o =>
          rw [q] at e2
          cases o with
          | none => simp at e2
          | some i => exact ⟨i, rfl, by simpa using e2⟩
      obtain ⟨i, e5, e6⟩ := e4
      obtain ⟨c1, c2, c3, c4⟩ := (hcaps C).get e1 e5
      have e7 : σ[i]? = some (some v) := by
        cases q : σ[i]? with
        | none => rw [q] at e6; simp at e6
        | some o => rw [q] at e6; simp at e6; rw [e6]
      obtain ⟨m, _, hl⟩ := I₂.loc
      obtain ⟨u, r, l⟩ := hl i x v c1 e7 (.inr (by rcases c2 with z | z; exact .inl z; exact .inr z))
      refine ⟨u, r, ?_⟩
      rcases l with ⟨k, _⟩ | ⟨_, c, e, z⟩
      · rcases c2 with c2 | c2 <;> (rw [k] at c2; cases c2)
      · refine .inr ⟨by rw [eN]; exact c4, c, by rw [eN]; exact c3.trans e, ?_⟩
        obtain ⟨o, ho, hd⟩ := z
        exact ⟨o, old c o ho, hd⟩
    · intro x c e
      rw [eN] at e
      obtain ⟨v, o, ho, hd⟩ := I₂.cell x c (sub e)
      exact ⟨v, o, old c o ho, hd⟩
    · intro x c e
      rw [eN] at e
      exact I₂.freeC x c (sub e)
    · intro p hp
      rw [ep, List.append_nil] at hp
      obtain ⟨e, n, ne, nf, d⟩ := I₂.pin p hp
      refine ⟨old _ _ e, n, by rw [eL]; exact (belowO e).1, ?_, d⟩
      rw [ef]
      intro z
      rcases List.mem_cons.mp (I₂.stkSub _ z) with q | q
      · exact ne q
      · exact nf q
    · have := (hcaps C).len
      subst hX'
      show (capσ σ src).length = Nc.length
      unfold capσ
      rw [List.length_map, this]
  -- the iterator's objects, the collected list
  have pnD : ∀ p ∈ X'.pn, p.1 ≠ D := fun p hp => by
    rw [ep] at hp
    exact (belowO (I₂.pin p hp).1).2
  have cellD : ∀ x c, X'.env.cells.lookup x = some c → c ≠ D := fun x c e => by
    rw [eN] at e
    obtain ⟨o, ho⟩ := cellO (sub e)
    exact (belowO ho).2
  have fpk : ∀ {P : List (Addr × Obj)} {H : Hp}, (∀ p ∈ P, p.1 = D) → (∀ b ∈ fp, H b = none) → ∀ b ∈ fp, FpOk X' P H b := fun {P H} hP hn b hb => by
    refine ⟨hn b hb, by rw [eL]; exact (fpC b hb).1, by rw [ef]; exact fpS b hb, .inl (by rw [ex]; exact hb), fun x c e => ?_, fun p hp => ?_⟩
    · rw [eN] at e
      exact (hf b hb).2.2.2.2.1 x c (sub e)
    · rcases List.mem_append.mp hp with z | z
      · rw [ep] at z
        exact (hf b hb).2.2.2.2.2 p z
      · rw [hP p z]
        exact (fpC b hb).2.symm
  obtain ⟨W, ⟨m0, w0⟩, step⟩ := hW
  have loop : ∀ s₃ : Shared, s₃ = { s₂ with heap := h₁, toks := s₂.toks + ([] : List (Str × Value)).length } →
      codeAny (model X.prog X.w) X.A (.compLoop (.ListComp elt [⟨tg, iter, ifs, 0⟩] scope pos) 0 (.ref it) (.ref D) (compEnvC scope (clOf X.env.cells scope.names []) C X.env)) (RR (.ref D) C) s₃ := by
    rintro s₃ rfl
    refine compLoop_any (fun n s' => ∃ i ys us k σ' H', Inv X' [] σ' H' s' ∧ tn i s'.heap ∧ (∀ b ∈ fp, H' b = none) ∧ H' D = none ∧ s'.heap.get? D = some { cls := .type "list", data := .seq (List.toArray us) k } ∧ Vals ys us ∧ W i n ys σ' H') ?_ m0
      ⟨0, [], [], _, _, _, I0, T.keep _ _ _ st fun b _ o e => old b o e, fun b hb => (hf b hb).1, fresh _ (Nat.le_refl _), hacc, .nil, w0⟩
    rintro n s3 ⟨i, ys, us, k, σ3, H3, I3, st3, fr3, nD3, oD3, rv3, w3⟩
    obtain ⟨hsz, cases3⟩ := step i n ys σ3 H3 w3
    have I3' : Inv X' [(D, { cls := .type "list", data := .seq us.toArray k })] σ3 H3 s3 := I3.pins_of fun p hp => by
      rw [List.mem_singleton.mp hp]
      exact ⟨oD3, nD3, by rw [eL]; exact hDC, by rw [ef]; exact nstk _ (Nat.le_refl _), fun v z => by cases z⟩
    have oneD : ∀ p ∈ [(D, ({ cls := .type "list", data := .seq us.toArray k } : Obj))], p.1 = D := fun p hp => by rw [List.mem_singleton.mp hp]
    rcases cases3 with ⟨stop, fin⟩ | ⟨go, turn⟩
    · -- the end
      have hd := T.done X' eP ew eK ec i _ s3 σ3 H3 (fun _ _ => False) I3' (fpk oneD fr3) st3 stop
      rw [eA] at hd
      refine thn hd fun r s4 ⟨hr, I4⟩ => ?_
      subst hr
      have pD := I4.pin (D, { cls := .type "list", data := .seq us.toArray k }) (List.mem_append_right _ (List.mem_singleton.mpr rfl))
      obtain ⟨mC, hnC, _⟩ := I4.loc
      rw [eL] at hnC
      have un4 := I4.base
      rw [eS, eH, ef, ex] at un4
      have hlen : ys.length ≤ sizeLine := Nat.le_of_lt hsz
      have hok4 : HOk X.prog X.w (upd H3 D (.lst ys)) s4.heap := fun b u e => by
        by_cases hb : b = D
        · subst hb
          rw [upd_same] at e
          cases e
          exact ⟨hlen, us, k, rv3, pD.1⟩
        · rw [upd_ne hb] at e
          have z := I4.hok b u e
          rw [eP, ew] at z
          exact z.stay (fun c v _ q => q) (fun c q => by rw [upd_ne (ne_of_none q nD3)]; exact q) fun c xs q => by rw [upd_ne (ne_of_none q nD3)]; exact q
      have un : Un (frs X.stack) fp H₂ (upd H3 D (.lst ys)) s₂.heap s4.heap := ⟨un4.keep, un4.slot, fun b o e n hx => by rw [upd_ne (belowO e).2]; exact un4.free b o e n hx, un4.there,
        fun b xs e => by
          have z := un4.tups b xs e
          rw [upd_ne (ne_of_none z nD3)]; exact z,
        fun b o u e => by
          have z := un4.frzs b o u e
          rw [upd_ne (ne_of_none z nD3)]; exact z,
        fun b ps e => by
          obtain ⟨mo, z⟩ := un4.tbls b ps e
          exact ⟨mo, by rw [upd_ne (ne_of_none z nD3)]; exact z⟩⟩
      have J4 : Inv X pins σ (upd H3 D (.lst ys)) s4 := I₂.call' (ch := fp) (by have := I4.os; rw [eS] at this; exact this) un hok4 I4.bare fun b hb => by
        obtain ⟨_, f1, f2, f3, f4, f5⟩ := hf b hb
        exact ⟨f3, f1, f4, f5⟩
      refine hRR D C s4 ys H3 mC fin nD3 J4 hnC ⟨?_, ?_, ?_, .inr ?_, ?_, ?_⟩
      · rw [upd_ne hDC.symm]
        have := I4.free
        rw [eL] at this
        exact this
      · have := I₂.lt
        rw [hDD] at this
        exact Nat.ne_of_gt (Nat.lt_of_lt_of_le this (by rw [hC]; exact Nat.le_succ _))
      · intro z
        obtain ⟨_, o, ho, _⟩ := I₂.funs.mem z
        exact (belowO ho).1 rfl
      · have := I₂.sz
        rw [hDD] at this
        omega
      · intro x c e z
        obtain ⟨o, ho⟩ := cellO e
        exact (belowO ho).1 z
      · intro p hp z
        exact (belowO (I₂.pin p hp).1).1 z
    · -- a turn
      have hd := T.item X' eP ew eK ec i _ s3 σ3 H3 (fun _ _ => False) I3' (fpk oneD fr3) st3 go
      rw [eA] at hd
      refine thn hd fun r s4 ⟨u, hr, h4⟩ => ?_
      subst hr
      refine thn h4 fun _ s5 ⟨x, H5, I5, r5, y5, st5, fr5⟩ => ?_
      have I5' := I5.pinned (fpk oneD fr5) (T.obj _ _ st5)
      have hg' := hg _ s5 σ3 H5 x u _ I5' r5 (turn x H5 y5)
      rw [eP, ew, eA, eE, eN] at hg'
      refine thn hg' fun _ s6 ⟨σ6, H6, I6, q6⟩ => ?_
      have ht' := ht _ s6 σ6 H6 _ I6 q6
      rw [eP, ew, eA, eE, eN] at ht'
      refine thn ht' fun okb s7 ⟨H7, I7, q7⟩ => ?_
      have back : ∀ {H8 : Hp} {s8 : Shared}, Inv X' ([(D, ({ cls := .type "list", data := .seq us.toArray k } : Obj))] ++ pinsAt fp s5.heap) σ6 H8 s8 →
          Inv X' [] σ6 H8 s8 ∧ tn (i + 1) s8.heap ∧ (∀ b ∈ fp, H8 b = none) ∧ H8 D = none ∧ s8.heap.get? D = some { cls := .type "list", data := .seq us.toArray k } ∧ (∀ b ∈ fp, ∀ o, s5.heap.get? b = some o → s8.heap.get? b = some o) := fun {H8 s8} I8 => by
        have pD := I8.pin (D, { cls := .type "list", data := .seq us.toArray k }) (List.mem_append_right _ (List.mem_append_left _ (List.mem_singleton.mpr rfl)))
        have pf : ∀ b ∈ fp, ∀ o, s5.heap.get? b = some o → s8.heap.get? b = some o := fun b hb o e => (I8.pin (b, o) (List.mem_append_right _ (List.mem_append_right _ (mem_pinsAt hb e)))).1
        refine ⟨I8.pins_of fun p hp => absurd hp (by simp), T.keep _ _ _ st5 pf, fun b hb => ?_, pD.2.1, pD.1, pf⟩
        obtain ⟨o, e, d⟩ := T.obj _ _ st5 b hb
        exact (I8.pin (b, o) (List.mem_append_right _ (List.mem_append_right _ (mem_pinsAt hb e)))).2.1
      cases okb with
      | false =>
        obtain ⟨b1, b2, b3, b4, b5, _⟩ := back I7
        obtain ⟨m', hm, w7⟩ := q7
        exact ⟨m', hm, i + 1, ys, us, k, σ6, H7, b1, b2, b3, b4, b5, rv3, w7⟩
      | true =>
        have he' := he _ s7 σ6 H7 _ I7 q7
        rw [eP, ew, eA, eE, eN] at he'
        show wpAny _ _ (eval elt _) _ _ s7
        refine thn he' fun xv s8 ⟨y, H8, I8, r8, m', hm, w8⟩ => ?_
        obtain ⟨b1, b2, b3, b4, b5, b6⟩ := back I8
        refine append_at (hsz := by rw [List.size_toArray, ← rv3.length]; exact Nat.le_of_lt hsz) b5 fun h9 hs9 hD9 => ?_
        have I9 : Inv X' [] σ6 H8 { s8 with heap := h9 } := b1.turned (t' := s8.toks) (fun b o hb e => hs9.extBut b o hb e) b4 (by rw [eL]; exact hDC) (.inr (by rw [eS, hDD]; exact Nat.le_refl _)) cellD fun p hp => by
          rw [List.append_nil] at hp
          exact pnD p hp
        refine ⟨m', hm, i + 1, ys ++ [y], us ++ [xv], k + 1, σ6, H8, I9, T.keep _ _ _ b2 fun b hb o e => hs9.extBut b o (fpC b hb).2 e, b3, b4, ?_, rv3.append (.cons r8 .nil), w8⟩
        show h9.get? D = _
        rw [hD9, List.push_toArray]
  refine codeAny_compStart_list (loop _ rfl) ?_
  exact T.self _ 0 _ _ _ (T.keep _ _ _ st fun b _ o e => old b o e) (loop _ rfl)

/-! ### the two rules: a comprehension as a value, and straight into a name -/
def tComp (wi : TI) (src : List (Option Nat)) (g : TG) (tt : TT) (te : TE) : TE := fun σ H Q => wi σ H fun J H1 => CompW J g tt te (fun ys H' => ∀ D, H' D = none → Q (.ref D) (upd H' D (.lst ys))) (capσ σ src) H1
section
variable {X : Cx} {tg iter elt : Expr} {ifs : List Expr} {scope : Scope} {pos : Pos} {Nc : List Str} {wi : TI} {g : TG} {tt : TT} {te : TE}
theorem pe_comp (Nc : List Str) (src : List (Option Nat)) (hc : X.calm = true) (hi : PI X tg iter wi)
    (hb : ∀ C fp pins s₂ H₂, PG (cxC X scope Nc C fp pins s₂ H₂) tg g ∧ PTs (cxC X scope Nc C fp pins s₂ H₂) ifs tt ∧ PE (cxC X scope Nc C fp pins s₂ H₂) elt te)
    (hcaps : ∀ C, Caps X (compEnvC scope (clOf X.env.cells scope.names []) C X.env) Nc src) (S : CScope X scope)
    (hs : ∀ x, foldedSetIterable iter X.env x = pure x := by intro _; rfl) : PE X (.ListComp elt [⟨tg, iter, ifs, 0⟩] scope pos) (tComp wi src g tt te) := by
  intro pins s σ H Q I h
  rw [eval_ListComp]
  refine wpAny_comprehension_free (use := none) rfl hs (clos_eq S.hfree) S.kind S.hnames ?_
  refine thn (hi pins s σ H _ I h) fun v s1 h1 => thn h1 fun itv s2 h2 => ?_
  obtain ⟨it, fp, tn, J, H2, e, I2, T, st2, f2, hW⟩ := h2
  subst e
  refine comp_core (RR := fun acc C => compPost (model X.prog X.w) X.A X.xe none (EP X pins σ Q) acc C) hc S hcaps hb I2 T st2 f2 hW ?_
  intro D C s' ys H' m fin nD J' hn fC
  obtain ⟨f0, f1, _, f3, f4, f5⟩ := fC
  refine ⟨m, hn, fun h'' hs'' => ?_⟩
  exact ⟨.ref D, _, J'.turned (t' := s'.toks) (fun b o hb e => hs''.extBut b o hb e) f0 f1 f3 f4 f5, rfl, fin D nD⟩
def tCompS (wi : TI) (src : List (Option Nat)) (g : TG) (tt : TT) (te : TE) (i : Nat) : TS := fun D σ H => tComp wi src g tt te σ H fun v H' => D.nx (σ.set i (some v)) H'
theorem ps_comp {i : Nat} {x : Str} {pos' spos : Pos} (Nc : List Str) (src : List (Option Nat)) (hc : X.calm = true) (hN : X.N.Nodup) (hi' : X.N[i]? = some x) (hx : Loc X.env.scope x) (hi : PI X tg iter wi)
    (hb : ∀ C fp pins s₂ H₂, PG (cxC X scope Nc C fp pins s₂ H₂) tg g ∧ PTs (cxC X scope Nc C fp pins s₂ H₂) ifs tt ∧ PE (cxC X scope Nc C fp pins s₂ H₂) elt te)
    (hcaps : ∀ C, Caps X (compEnvC scope (clOf X.env.cells scope.names []) C X.env) Nc src) (S : CScope X scope)
    (hsw : swapsWith (.ListComp elt [⟨tg, iter, ifs, 0⟩] scope pos) (some (.Name x pos')) spos.line X.env = pure true := by rfl)
    (hf : X.fn x = true ∨ X.env.scope.names.lookup x = some .local := by first | exact .inl rfl | exact .inr rfl | assumption)
    (hs : ∀ x, foldedSetIterable iter X.env x = pure x := by intro _; rfl) : PS X (.Assign [.Name x pos'] (.ListComp elt [⟨tg, iter, ifs, 0⟩] scope pos) spos) (tCompS wi src g tt te i) := by
  intro pins s σ H D I h
  rw [exec_Assign_Name_used _ _ _ _ hsw]
  refine wpAny_bind (wpAny_standAt (wpAny_bind ?_))
  show wpAny _ _ (do let _ ← comprehension (.ListComp elt [⟨tg, iter, ifs, 0⟩] scope pos) scope X.env _ (newList []) false (eval iter X.env) (some (assign (.Name x pos') X.env))) _ _ s
  refine wpAny_bind (thn (wpAny_comprehension_free (use := some (assign (.Name x pos') X.env)) (Q := fun _ s' => ∃ σ' H', Inv X pins σ' H' s' ∧ D.nx σ' H') rfl hs (clos_eq S.hfree) S.kind S.hnames ?_) fun _ s' hq => wpAny_pure (wpAny_pure hq))
  refine thn (hi pins s σ H _ I h) fun v s1 h1 => thn h1 fun itv s2 h2 => ?_
  obtain ⟨it, fp, tn, J, H2, e, I2, T, st2, f2, hW⟩ := h2
  subst e
  refine comp_core (RR := fun acc C => compPost (model X.prog X.w) X.A X.xe (some (assign (.Name x pos') X.env)) (fun _ s' => ∃ σ' H', Inv X pins σ' H' s' ∧ D.nx σ' H') acc C) hc S hcaps hb I2 T st2 f2 hW ?_
  intro A C s' ys H' m fin nD J' hn fC
  obtain ⟨f0, f1, f2', f3, f4, f5⟩ := fC
  refine wpAny_assign_Name (store_ok2 J' hN hi' hx (v := .ref A) rfl (fun s'' J'' hsb => ?_) hf)
  have hn2 : ∃ m', s''.heap.Ns C m' := by
    obtain ⟨a, sb, ha⟩ := hsb
    have hne : C ≠ a := by
      rcases ha with z | z
      · rw [z]; exact f1
      · exact fun q => f4 x a z q.symm
    exact ⟨m, hn.sameBut sb hne⟩
  obtain ⟨m', hn2⟩ := hn2
  refine ⟨m', hn2, fun h'' hs'' => ?_⟩
  exact ⟨_, _, J''.turned (t' := s''.toks) (fun b o hb e => hs''.extBut b o hb e) f0 f1 f3 f4 f5, fin A nD⟩
end

/-! ### the forms one uses -/
end L2

set_option Elab.async false
set_option linter.all false
set_option maxRecDepth 100000
/-! More of the built-ins, by the hand layer's judgements. -/
namespace L2
open PySem PySem.Spec PyProof.Rows
section
variable {X : Cx}
/-! ### isinstance of one class -/
theorem call_isinst : CallR X (.builtin "isinstance") (fun xs H Q => ∃ x t n b, xs = [x, .ty n] ∧ TyOf X.K H x t ∧ PySem.W.kitOne X.K t (.type n) = some b ∧ Q (.bl b) H) := by
  intro pins s σ H xs us Q I r h
  obtain ⟨x, t, n, b, rfl, ty, e, q⟩ := h
  obtain ⟨u, c, rfl, ru, rc⟩ := vals2 r
  obtain rfl : c = Value.type n := rc
  exact isinst_ok I ru ty e fun tk => ⟨.bl b, H, I.tok _, rfl, q⟩
/-! ### all of a list of truths -/
theorem truth_bools {prog : Program} {w : World} {A : Around} (bs : List Bool) : TruthOf prog w A (fun i v => ∃ b, bs[i]? = some b ∧ v = Value.bool b) (fun i => (bs[i]?).getD false) := by
  intro i v s Q E hP hQ
  obtain ⟨b, hb, rfl⟩ := hP
  dsimp only at hQ
  rw [hb] at hQ
  exact wpAny_truthy_bool hQ
theorem all_range (bs : List Bool) : (List.range bs.length).all (fun i => (bs[i]?).getD false) = bs.all id := by
  apply Bool.eq_iff_iff.mpr
  rw [List.all_eq_true, List.all_eq_true]
  constructor
  · intro h b hb
    obtain ⟨i, hi, e⟩ := List.getElem_of_mem hb
    have := h i (List.mem_range.mpr hi)
    rw [List.getElem?_eq_getElem hi, e] at this
    exact this
  · intro h i hi
    have hi := List.mem_range.mp hi
    rw [List.getElem?_eq_getElem hi]
    exact h _ (List.getElem_mem hi)
theorem vals_bools : ∀ {bs : List Bool} {us : List Value}, Vals (bs.map V.bl) us → us = bs.map Value.bool
  | [], _, .nil => rfl
  | _ :: bs, _, .cons r t => by
    rw [vals_bools (bs := bs) t, show _ = Value.bool _ from r]
    rfl
theorem call_all (hc : X.calm = true) : CallR X (.builtin "all") (fun xs H Q => ∃ (p : Addr) (bs : List Bool), xs = [.ref p] ∧ SqL X.K H p (bs.map V.bl) ∧ Q (.bl (bs.all id)) H) := by
  intro pins s σ H xs us Q I r h
  obtain ⟨p, bs, rfl, hq, q⟩ := h
  obtain ⟨u, rfl, ru⟩ := vals1 r
  cases ru
  obtain ⟨its, rv, pl, hz⟩ := I.list hq
  have ei := vals_bools rv
  subst ei
  have hlt : p < s.heap.objs.size := by obtain ⟨_, e, _⟩ := pl.isList; exact Heap.lt_size e
  refine call_all_walk (wpAny_pyIter_list pl.isList ?_)
  have W := Walks.list (prog := X.prog) (w := X.w) (A := X.A.in1) (I.ok.hd hc) s.heap.objs.size p (Nat.ne_of_lt hlt) (bs.map Value.bool).toArray
  refine ⟨_, _, _, _, _, _, _, rfl, { sub := W.sub, frame := W.frame, item := fun i s Q E hi st hQ => W.item i s Q E hi st fun v h' tk hP => hQ v h' tk ?_, done := W.done, self := W.self }, ⟨⟨_, Heap.get?_push_size _ rfl, rfl, rfl⟩, pl.isList.push _⟩, truth_bools bs, fun h' tk k => ?_⟩
  · have hP' : (bs.map Value.bool).toArray[i]? = some v := hP
    rw [List.getElem?_toArray, List.getElem?_map] at hP'
    cases e : bs[i]? with
    | none => rw [e] at hP'; cases hP'
    | some b => rw [e] at hP'; exact ⟨b, rfl, (Option.some.inj hP').symm⟩
  · have hsz : (bs.map Value.bool).toArray.size = bs.length := by simp
    rw [hsz, all_range]
    refine ⟨.bl _, H, ?_, rfl, q⟩
    refine I.kept (h' := h') (t' := tk) fun b o e => k b o ?_ (Heap.get?_push_of_some _ e)
    intro z
    have : b = s.heap.objs.size := by simpa using z
    exact absurd (Heap.lt_size e) (by rw [this]; exact Nat.lt_irrefl _)
end
/-! ### classes of built-in things -/
theorem kit_NoneType_int {K : PySem.W.Frag} : PySem.W.kitOne K (.type "NoneType") (.type "int") = some false := by kernel_rfl
theorem kit_NoneType_bool {K : PySem.W.Frag} : PySem.W.kitOne K (.type "NoneType") (.type "bool") = some false := by kernel_rfl
theorem kit_NoneType_tuple {K : PySem.W.Frag} : PySem.W.kitOne K (.type "NoneType") (.type "tuple") = some false := by kernel_rfl
theorem kit_bool_int {K : PySem.W.Frag} : PySem.W.kitOne K (.type "bool") (.type "int") = some true := by kernel_rfl
theorem kit_bool_bool {K : PySem.W.Frag} : PySem.W.kitOne K (.type "bool") (.type "bool") = some true := by kernel_rfl
theorem kit_bool_tuple {K : PySem.W.Frag} : PySem.W.kitOne K (.type "bool") (.type "tuple") = some false := by kernel_rfl
theorem kit_int_int {K : PySem.W.Frag} : PySem.W.kitOne K (.type "int") (.type "int") = some true := by kernel_rfl
theorem kit_int_bool {K : PySem.W.Frag} : PySem.W.kitOne K (.type "int") (.type "bool") = some false := by kernel_rfl
theorem kit_int_tuple {K : PySem.W.Frag} : PySem.W.kitOne K (.type "int") (.type "tuple") = some false := by kernel_rfl
theorem kit_str_int {K : PySem.W.Frag} : PySem.W.kitOne K (.type "str") (.type "int") = some false := by kernel_rfl
theorem kit_str_bool {K : PySem.W.Frag} : PySem.W.kitOne K (.type "str") (.type "bool") = some false := by kernel_rfl
theorem kit_str_tuple {K : PySem.W.Frag} : PySem.W.kitOne K (.type "str") (.type "tuple") = some false := by kernel_rfl
theorem kit_list_int {K : PySem.W.Frag} : PySem.W.kitOne K (.type "list") (.type "int") = some false := by kernel_rfl
theorem kit_list_bool {K : PySem.W.Frag} : PySem.W.kitOne K (.type "list") (.type "bool") = some false := by kernel_rfl
theorem kit_list_tuple {K : PySem.W.Frag} : PySem.W.kitOne K (.type "list") (.type "tuple") = some false := by kernel_rfl
theorem kit_tuple_int {K : PySem.W.Frag} : PySem.W.kitOne K (.type "tuple") (.type "int") = some false := by kernel_rfl
theorem kit_tuple_bool {K : PySem.W.Frag} : PySem.W.kitOne K (.type "tuple") (.type "bool") = some false := by kernel_rfl
theorem kit_tuple_tuple {K : PySem.W.Frag} : PySem.W.kitOne K (.type "tuple") (.type "tuple") = some true := by kernel_rfl
theorem kit_dict_int {K : PySem.W.Frag} : PySem.W.kitOne K (.type "dict") (.type "int") = some false := by kernel_rfl
theorem kit_dict_bool {K : PySem.W.Frag} : PySem.W.kitOne K (.type "dict") (.type "bool") = some false := by kernel_rfl
theorem kit_dict_tuple {K : PySem.W.Frag} : PySem.W.kitOne K (.type "dict") (.type "tuple") = some false := by kernel_rfl
end L2

set_option Elab.async false
set_option linter.all false
set_option maxRecDepth 100000
namespace L2
open PySem PySem.Spec PyProof.Rows

/-! ### lists of pairs as tables -/
section
variable {κ : Type} [DecidableEq κ]



end


/-! ### a tracked dict, its keys ints and texts or tuples of these -/


section
variable {P : Program} {w : World} {H : Hp} {h : Heap} {a : Addr}
end



section
variable {X : Cx} {pins : List (Addr × Obj)} {σ : St} {H : Hp} {s : Shared} {a : Addr} {y v : V} {u r : Value} {o : Option V} {A : Around} {E : Value → Shared → Prop}


end

section
variable {X : Cx} {pins : List (Addr × Obj)} {σ : St} {H : Hp} {s : Shared} {a : Addr} {kvs : List (Key × V)} {k : Key} {u : Value} {A : Around} {E : Value → Shared → Prop}
end


/-! ### readings and rules -/



section
variable {X : Cx} {o i e value : Expr} {pos pos' tpos : Pos} {td ty tv : TE}
end


/-! ### displays -/
section
variable {X : Cx} {pos : Pos}
end




/-! ### methods -/


section
variable {X : Cx} {pins : List (Addr × Obj)} {σ : St} {H : Hp} {s : Shared} {a : Addr} {y d : V} {u r : Value} {o : Option V} {A : Around} {E : Value → Shared → Prop}
end

section
variable {X : Cx} {o e f : Expr} {apos cpos : Pos} {td ty tx : TE}
end

/-! ### dict(d): a copy -/
section
variable {X : Cx} {pins : List (Addr × Obj)} {σ : St} {H : Hp} {s : Shared} {a : Addr} {kvs : List (Key × V)} {A : Around} {E : Value → Shared → Prop}
end


section
variable {X : Cx} {pins : List (Addr × Obj)} {σ : St} {H : Hp} {s : Shared} {a : Addr} {y : V} {u : Value} {A : Around} {E : Value → Shared → Prop}
end
end L2


set_option Elab.async false
set_option linter.all false
set_option maxRecDepth 100000
/-! Things: trees of tuples, lists, small dicts, numbers, truths, texts, as they lie in the abstract heap; their repr. -/
namespace L2
open PySem PySem.Spec PyProof.Rows
mutual
/-- v is the thing d; its lists and dicts stand at addresses of S -/
inductive IsTh (S : Addr → Prop) (H : Hp) : V → PyData → Prop
  | non : IsTh S H .non .none
  | bl (b : Bool) : IsTh S H (.bl b) (.bool b)
  | int (i : Int) : IsTh S H (.int i) (.int i)
  | str (x : Str) : IsTh S H (.str x) (.str x)
  | lst {a : Addr} {xs : List V} {ds : List PyData} (hs : S a) (e : H a = some (.lst xs)) (r : IsThs S H xs ds) : IsTh S H (.ref a) (.list ds)
  | tup {a : Addr} {xs : List V} {ds : List PyData} (e : H a = some (.tup xs)) (r : IsThs S H xs ds) : IsTh S H (.ref a) (.tuple ds)
  | dct {a : Addr} {ks : List (Int × Int)} (hs : S a) (e : H a = some (.dK (ks.map fun p => (Sum.inl p.1, V.int p.2)))) : IsTh S H (.ref a) (.dict (ks.map fun p => (.int p.1, .int p.2)))
inductive IsThs (S : Addr → Prop) (H : Hp) : List V → List PyData → Prop
  | nil : IsThs S H [] []
  | cons {v : V} {d : PyData} {vs : List V} {ds : List PyData} (h : IsTh S H v d) (t : IsThs S H vs ds) : IsThs S H (v :: vs) (d :: ds)
end
section
variable {S S' : Addr → Prop} {H H' : Hp}
theorem IsThs.length : ∀ {vs : List V} {ds : List PyData}, IsThs S H vs ds → vs.length = ds.length
  | _, _, .nil => rfl
  | _, _, .cons _ t => by rw [List.length_cons, List.length_cons, IsThs.length t]
theorem IsThs.get : ∀ {vs : List V} {ds : List PyData} {i : Nat} {v : V}, IsThs S H vs ds → vs[i]? = some v → ∃ d, ds[i]? = some d ∧ IsTh S H v d
  | _, _, _, _, .nil, e => by simp at e
  | _, _, 0, _, .cons h _, e => by simp at e; subst e; exact ⟨_, rfl, h⟩
  | _, _, i + 1, v, .cons _ t, e => by
    obtain ⟨d, h1, h2⟩ := IsThs.get (i := i) (v := v) t (by simpa using e)
    exact ⟨d, by simpa using h1, h2⟩
theorem IsThs.append : ∀ {vs ws : List V} {ds es : List PyData}, IsThs S H vs ds → IsThs S H ws es → IsThs S H (vs ++ ws) (ds ++ es)
  | _, _, _, _, .nil, s => s
  | _, _, _, _, .cons h t, s => .cons h (IsThs.append t s)
theorem IsThs.ints : ∀ (ns : List Int), IsThs S H (ns.map V.int) (ns.map PyData.int)
  | [] => .nil
  | n :: ns => .cons (.int n) (IsThs.ints ns)
/-! what a thing leans on: its tuples, and its lists and dicts at addresses of S -/
mutual
theorem IsTh.keep (ht : ∀ b xs, H b = some (.tup xs) → H' b = some (.tup xs)) (hs : ∀ b o, S b → H b = some o → H' b = some o) (hS : ∀ b o, S b → H b = some o → S' b) : ∀ {v : V} {d : PyData}, IsTh S H v d → IsTh S' H' v d
  | _, _, .non => .non
  | _, _, .bl b => .bl b
  | _, _, .int i => .int i
  | _, _, .str x => .str x
  | _, _, .lst s e r => .lst (hS _ _ s e) (hs _ _ s e) (IsThs.keep ht hs hS r)
  | _, _, .tup e r => .tup (ht _ _ e) (IsThs.keep ht hs hS r)
  | _, _, .dct s e => .dct (hS _ _ s e) (hs _ _ s e)
theorem IsThs.keep (ht : ∀ b xs, H b = some (.tup xs) → H' b = some (.tup xs)) (hs : ∀ b o, S b → H b = some o → H' b = some o) (hS : ∀ b o, S b → H b = some o → S' b) : ∀ {vs : List V} {ds : List PyData}, IsThs S H vs ds → IsThs S' H' vs ds
  | _, _, .nil => .nil
  | _, _, .cons h t => .cons (IsTh.keep ht hs hS h) (IsThs.keep ht hs hS t)
end
/-- the type of a thing -/
def tyD : PyData → String
  | .none => "NoneType"
  | .bool _ => "bool"
  | .int _ => "int"
  | .str _ => "str"
  | .list _ => "list"
  | .tuple _ => "tuple"
  | .dict _ => "dict"
theorem IsTh.ty {K : PySem.W.Frag} {v : V} {d : PyData} (h : IsTh S H v d) : TyOf K H v (.type (tyD d)) := by
  cases h with
  | non => exact .non
  | bl b => exact .bl b
  | int i => exact .int i
  | str x => exact .str x
  | lst s e r => exact .lst e
  | tup e r => exact .tup e
  | dct s e => exact .dK e
def isIntD : PyData → Bool
  | .int _ => true
  | .bool _ => true
  | _ => false
def isBoolD : PyData → Bool
  | .bool _ => true
  | _ => false
def isTupD : PyData → Bool
  | .tuple _ => true
  | _ => false
theorem kit_int {K : PySem.W.Frag} (d : PyData) : PySem.W.kitOne K (.type (tyD d)) (.type "int") = some (isIntD d) := by
  cases d
  · exact kit_NoneType_int
  · exact kit_bool_int
  · exact kit_int_int
  · exact kit_str_int
  · exact kit_list_int
  · exact kit_tuple_int
  · exact kit_dict_int
theorem kit_bool {K : PySem.W.Frag} (d : PyData) : PySem.W.kitOne K (.type (tyD d)) (.type "bool") = some (isBoolD d) := by
  cases d
  · exact kit_NoneType_bool
  · exact kit_bool_bool
  · exact kit_int_bool
  · exact kit_str_bool
  · exact kit_list_bool
  · exact kit_tuple_bool
  · exact kit_dict_bool
theorem kit_tup {K : PySem.W.Frag} (d : PyData) : PySem.W.kitOne K (.type (tyD d)) (.type "tuple") = some (isTupD d) := by
  cases d
  · exact kit_NoneType_tuple
  · exact kit_bool_tuple
  · exact kit_int_tuple
  · exact kit_str_tuple
  · exact kit_list_tuple
  · exact kit_tuple_tuple
  · exact kit_dict_tuple
end
/-! ### how long a thing's text may be -/
mutual
def sz : PyData → Nat
  | .none => 1
  | .bool _ => 1
  | .int _ => 1
  | .str _ => 1
  | .list xs => 1 + szs xs
  | .tuple xs => 1 + szs xs
  | .dict kvs => 1 + 4 * kvs.length
def szs : List PyData → Nat
  | [] => 0
  | x :: xs => sz x + szs xs
end
mutual
def tame : PyData → Bool
  | .none => true
  | .bool _ => true
  | .int i => decide (i.natAbs < 2 ^ 128)
  | .str x => decide (x.length ≤ 10) && x.cps.toList.all fun c => decide (c < 16 ^ 8)
  | .list xs => tames xs
  | .tuple xs => tames xs
  | .dict kvs => tameKv kvs
def tames : List PyData → Bool
  | [] => true
  | x :: xs => tame x && tames xs
def tameKv : List (PyData × PyData) → Bool
  | [] => true
  | (.int i, .int j) :: r => decide (i.natAbs < 2 ^ 128) && decide (j.natAbs < 2 ^ 128) && tameKv r
  | _ :: _ => false
end
theorem int_len {i : Int} (h : i.natAbs < 2 ^ 128) : (Str.ofString (toString i)).length ≤ 130 := by
  have e := int_text_length_le (a := i) (k := 128) (by decide) (by
    by_cases h0 : i.natAbs = 0
    · rw [h0]; decide
    · exact (Nat.log2_lt h0).mpr h)
  rw [PySem.ofString_length]
  omega
theorem textFrom_le : ∀ (ts : List Str) (k : Nat) (acc : Str), (textFrom k acc ts).length ≤ acc.length + piled ts
  | [], k, acc => by show acc.length ≤ acc.length + 0; omega
  | t :: r, k, acc => by
    have h := textFrom_le r (k + 1) (acc ++ (if k > 0 then ", " else "" : String) ++ t)
    have e : (acc ++ (if k > 0 then ", " else "" : String) ++ t).length ≤ acc.length + 2 + t.length := by
      rw [strLen_append, strLen_append]
      split
      · show acc.length + 2 + t.length ≤ _
        omega
      · show acc.length + 0 + t.length ≤ _
        omega
    rw [piled_cons]
    show (textFrom (k + 1) _ r).length ≤ _
    omega
theorem listText_le (ts : List Str) : (listText ts).length ≤ piled ts + 2 := by
  have h := textFrom_le ts 0 "["
  unfold listText
  rw [strLen_append]
  have e1 : (("[" : Str)).length = 1 := rfl
  have e2 : (("]" : Str)).length = 1 := rfl
  omega
theorem join_le (ts : List Str) : (Str.join ", " ts).length ≤ piled ts := by
  by_cases h : ts = []
  · subst h
    show 0 ≤ _
    omega
  · have := join_length_add ts h
    omega
theorem tupleText_le (ts : List Str) : (tupleText ts).length ≤ piled ts + 3 := by
  have h := join_le ts
  unfold tupleText
  rw [strLen_append, strLen_append]
  have e1 : (("(" : Str)).length = 1 := rfl
  have e2 : ((if ts.length == 1 then ",)" else ")" : String) : Str).length ≤ 2 := by
    split
    · exact Nat.le_refl 2
    · exact Nat.le_succ 1
  omega
theorem dictText_le (ts : List Str) : (dictText ts).length ≤ piled ts + 2 := by
  have h := join_le ts
  unfold dictText
  rw [strLen_append, strLen_append]
  have e1 : (("{" : Str)).length = 1 := rfl
  have e2 : (("}" : Str)).length = 1 := rfl
  omega
theorem shownKv_le : ∀ (kvs : List (PyData × PyData)), tameKv kvs = true → piled (PyData.shownKv kvs) ≤ 300 * kvs.length
  | [], _ => by show 0 ≤ _; omega
  | (.int i, .int j) :: r, h => by
    have h' : (decide (i.natAbs < 2 ^ 128) && decide (j.natAbs < 2 ^ 128) && tameKv r) = true := h
    simp only [Bool.and_eq_true, decide_eq_true_eq] at h'
    have h1 := int_len h'.1.1
    have h2 := int_len h'.1.2
    have h3 := shownKv_le r h'.2
    show piled ((PyData.shown (.int i) ++ ": " ++ PyData.shown (.int j)) :: PyData.shownKv r) ≤ _
    rw [piled_cons, strLen_append, strLen_append]
    have e1 : ((": " : Str)).length = 2 := rfl
    have e2 : PyData.shown (.int i) = Str.ofString (toString i) := rfl
    have e3 : PyData.shown (.int j) = Str.ofString (toString j) := rfl
    rw [e1, e2, e3, List.length_cons]
    omega
  | (.none, _) :: _, h => by simp [tameKv] at h
  | (.bool _, _) :: _, h => by simp [tameKv] at h
  | (.str _, _) :: _, h => by simp [tameKv] at h
  | (.list _, _) :: _, h => by simp [tameKv] at h
  | (.tuple _, _) :: _, h => by simp [tameKv] at h
  | (.dict _, _) :: _, h => by simp [tameKv] at h
  | (.int _, .none) :: _, h => by simp [tameKv] at h
  | (.int _, .bool _) :: _, h => by simp [tameKv] at h
  | (.int _, .str _) :: _, h => by simp [tameKv] at h
  | (.int _, .list _) :: _, h => by simp [tameKv] at h
  | (.int _, .tuple _) :: _, h => by simp [tameKv] at h
  | (.int _, .dict _) :: _, h => by simp [tameKv] at h
mutual
theorem shown_len : ∀ (d : PyData), tame d = true → d.shown.length + 2 ≤ 200 * sz d
  | .none, _ => by decide +kernel
  | .bool true, _ => by decide +kernel
  | .bool false, _ => by decide +kernel
  | .int i, h => by
    have := int_len (i := i) (by simpa [tame] using h)
    show (Str.ofString (toString i)).length + 2 ≤ 200 * 1
    omega
  | .str x, h => by
    have h' : (decide (x.length ≤ 10) && x.cps.toList.all fun c => decide (c < 16 ^ 8)) = true := h
    rw [Bool.and_eq_true] at h'
    have h1 : x.length ≤ 10 := by simpa using h'.1
    have := StrLaws.reprText_len x fun c hc => by simpa using List.all_eq_true.mp h'.2 c hc
    show (reprText x).length + 2 ≤ 200 * 1
    omega
  | .list xs, h => by
    have h1 := shownAll_len xs (by simpa [tame] using h)
    have h2 := listText_le (PyData.shownAll xs)
    show (listText (PyData.shownAll xs)).length + 2 ≤ 200 * (1 + szs xs)
    omega
  | .tuple xs, h => by
    have h1 := shownAll_len xs (by simpa [tame] using h)
    have h2 := tupleText_le (PyData.shownAll xs)
    show (tupleText (PyData.shownAll xs)).length + 2 ≤ 200 * (1 + szs xs)
    omega
  | .dict kvs, h => by
    have h1 := shownKv_le kvs (by simpa [tame] using h)
    have h2 := dictText_le (PyData.shownKv kvs)
    show (dictText (PyData.shownKv kvs)).length + 2 ≤ 200 * (1 + 4 * kvs.length)
    omega
theorem shownAll_len : ∀ (xs : List PyData), tames xs = true → piled (PyData.shownAll xs) ≤ 200 * szs xs
  | [], _ => by show 0 ≤ _; omega
  | x :: xs, h => by
    have h' : (tame x && tames xs) = true := h
    rw [Bool.and_eq_true] at h'
    have h1 := shown_len x h'.1
    have h2 := shownAll_len xs h'.2
    show piled (PyData.shown x :: PyData.shownAll xs) ≤ 200 * (sz x + szs xs)
    rw [piled_cons]
    omega
end
theorem showableKv_ok : ∀ (kvs : List (PyData × PyData)), tameKv kvs = true → PyData.showableKv kvs = true
  | [], _ => rfl
  | (.int i, .int j) :: r, h => by
    have h' : (decide (i.natAbs < 2 ^ 128) && decide (j.natAbs < 2 ^ 128) && tameKv r) = true := h
    simp only [Bool.and_eq_true, decide_eq_true_eq] at h'
    have big : ∀ {n : Int}, n.natAbs < 2 ^ 128 → n.natAbs.log2 < 1920 := fun {n} hn => by
      by_cases h0 : n.natAbs = 0
      · rw [h0]; decide
      · exact Nat.lt_trans ((Nat.log2_lt h0).mpr hn) (by decide)
    simp only [PyData.showableKv, PyData.showable, Bool.and_eq_true, decide_eq_true_eq]
    exact ⟨⟨big h'.1.1, big h'.1.2⟩, showableKv_ok r h'.2⟩
  | (.none, _) :: _, h => by simp [tameKv] at h
  | (.bool _, _) :: _, h => by simp [tameKv] at h
  | (.str _, _) :: _, h => by simp [tameKv] at h
  | (.list _, _) :: _, h => by simp [tameKv] at h
  | (.tuple _, _) :: _, h => by simp [tameKv] at h
  | (.dict _, _) :: _, h => by simp [tameKv] at h
  | (.int _, .none) :: _, h => by simp [tameKv] at h
  | (.int _, .bool _) :: _, h => by simp [tameKv] at h
  | (.int _, .str _) :: _, h => by simp [tameKv] at h
  | (.int _, .list _) :: _, h => by simp [tameKv] at h
  | (.int _, .tuple _) :: _, h => by simp [tameKv] at h
  | (.int _, .dict _) :: _, h => by simp [tameKv] at h
mutual
theorem showable_ok : ∀ (d : PyData), tame d = true → d.showable = true
  | .none, _ => rfl
  | .bool _, _ => rfl
  | .int i, h => by
    have h' : i.natAbs < 2 ^ 128 := by simpa [tame] using h
    have : i.natAbs.log2 < 1920 := by
      by_cases h0 : i.natAbs = 0
      · rw [h0]; decide
      · exact Nat.lt_trans ((Nat.log2_lt h0).mpr h') (by decide)
    simp only [PyData.showable]
    exact decide_eq_true this
  | .str _, _ => rfl
  | .list xs, h => by
    simp only [PyData.showable]
    exact showables_ok xs (by simpa [tame] using h)
  | .tuple xs, h => by
    simp only [PyData.showable]
    exact showables_ok xs (by simpa [tame] using h)
  | .dict kvs, h => by
    simp only [PyData.showable]
    exact showableKv_ok kvs (by simpa [tame] using h)
theorem showables_ok : ∀ (xs : List PyData), tames xs = true → PyData.showableAll xs = true
  | [], _ => rfl
  | x :: xs, h => by
    have h' : (tame x && tames xs) = true := h
    rw [Bool.and_eq_true] at h'
    simp only [PyData.showableAll, Bool.and_eq_true]
    exact ⟨showable_ok x h'.1, showables_ok xs h'.2⟩
end
theorem depthKv_le : ∀ (kvs : List (PyData × PyData)), tameKv kvs = true → PyData.depthKv kvs = 0
  | [], _ => rfl
  | (.int i, .int j) :: r, h => by
    have h' : (decide (i.natAbs < 2 ^ 128) && decide (j.natAbs < 2 ^ 128) && tameKv r) = true := h
    simp only [Bool.and_eq_true, decide_eq_true_eq] at h'
    simp only [PyData.depthKv, PyData.depth, depthKv_le r h'.2]
    rfl
  | (.none, _) :: _, h => by simp [tameKv] at h
  | (.bool _, _) :: _, h => by simp [tameKv] at h
  | (.str _, _) :: _, h => by simp [tameKv] at h
  | (.list _, _) :: _, h => by simp [tameKv] at h
  | (.tuple _, _) :: _, h => by simp [tameKv] at h
  | (.dict _, _) :: _, h => by simp [tameKv] at h
  | (.int _, .none) :: _, h => by simp [tameKv] at h
  | (.int _, .bool _) :: _, h => by simp [tameKv] at h
  | (.int _, .str _) :: _, h => by simp [tameKv] at h
  | (.int _, .list _) :: _, h => by simp [tameKv] at h
  | (.int _, .tuple _) :: _, h => by simp [tameKv] at h
  | (.int _, .dict _) :: _, h => by simp [tameKv] at h
mutual
theorem depth_le : ∀ (d : PyData), tame d = true → d.depth ≤ sz d
  | .none, _ => Nat.zero_le _
  | .bool _, _ => Nat.zero_le _
  | .int i, _ => Nat.zero_le _
  | .str _, _ => Nat.zero_le _
  | .list xs, h => by
    have := depths_le xs (by simpa [tame] using h)
    simp only [PyData.depth, sz]
    omega
  | .tuple xs, h => by
    have := depths_le xs (by simpa [tame] using h)
    simp only [PyData.depth, sz]
    omega
  | .dict kvs, h => by
    have := depthKv_le kvs (by simpa [tame] using h)
    simp only [PyData.depth, sz]
    omega
theorem depths_le : ∀ (xs : List PyData), tames xs = true → PyData.depthAll xs ≤ szs xs
  | [], _ => Nat.zero_le _
  | x :: xs, h => by
    have h' : (tame x && tames xs) = true := h
    rw [Bool.and_eq_true] at h'
    have h1 := depth_le x h'.1
    have h2 := depths_le xs h'.2
    simp only [PyData.depthAll, szs]
    omega
end
end L2

set_option Elab.async false
set_option linter.all false
set_option maxRecDepth 100000
/-! repr of things; insert; t * n; t == (). -/
namespace L2
open PySem PySem.Spec PyProof.Rows
section
variable {X : Cx} {pins : List (Addr × Obj)} {σ : St} {H : Hp} {s : Shared} {S : Addr → Prop}
theorem pairs_ints {P : Program} {w : World} : ∀ {ks : List (Int × Int)} {vs : List (Key × Value)} {es : List DictEntry}, KV (ks.map fun p => ((Sum.inl p.1 : Key), V.int p.2)) vs → Pairs (mixKind P w) es vs →
    (∃ as, ReadsAll s.heap (es.map (·.key)) ((ks.map fun p => (PyData.int p.1, PyData.int p.2)).map (·.1)) as ∧ as = []) ∧ ∃ as, ReadsAll s.heap (es.map (·.val)) ((ks.map fun p => (PyData.int p.1, PyData.int p.2)).map (·.2)) as ∧ as = []
  | [], vs, es, r, p => by
    cases r
    cases p
    exact ⟨⟨_, .nil, rfl⟩, ⟨_, .nil, rfl⟩⟩
  | k :: ks, vs, es, r, p => by
    cases r with
    | @cons a b l1 l2 h t =>
      cases p with
      | @cons e kv es' kvs' h1 h2 h3 =>
        obtain ⟨⟨_, i1, rfl⟩, ⟨_, i2, rfl⟩⟩ := pairs_ints (ks := ks) t h3
        obtain ⟨q1, q2⟩ := h
        have h1' : keyIs b.1 e.key = true := h1
        rw [← q1] at h1'
        rcases keyIs_shape h1' with ⟨i, tk, ei, ev⟩ | ⟨x, tk, ei, ev⟩
        · cases ei
          obtain ⟨tv, ev2⟩ : ∃ t, b.2 = Value.int k.2 t := q2
          rw [ev2] at h2
          refine ⟨⟨_, ?_, rfl⟩, ⟨_, ?_, rfl⟩⟩
          · show ReadsAll s.heap (e.key :: es'.map (·.key)) (PyData.int k.1 :: _) ([] ++ [])
            rw [ev]
            exact .cons (.int _ _) i1
          · show ReadsAll s.heap (e.val :: es'.map (·.val)) (PyData.int k.2 :: _) ([] ++ [])
            rw [h2]
            exact .cons (.int _ _) i2
        · cases ei
mutual
theorem IsTh.reads (I : Inv X pins σ H s) : ∀ {v : V} {d : PyData} {u : Value}, IsTh S H v d → RelV v u → ∃ as, Reads s.heap u d as ∧ ∀ a ∈ as, S a
  | _, _, _, .non, r => by cases (show _ = Value.none from r); exact ⟨[], .none, fun _ h => nomatch h⟩
  | _, _, _, .bl b, r => by cases (show _ = Value.bool b from r); exact ⟨[], .bool b, fun _ h => nomatch h⟩
  | _, _, _, .int i, r => by obtain ⟨t, rfl⟩ := r; exact ⟨[], .int i t, fun _ h => nomatch h⟩
  | _, _, _, .str x, r => by obtain ⟨t, rfl⟩ := r; exact ⟨[], .str x t, fun _ h => nomatch h⟩
  | _, _, _, @IsTh.lst _ _ a xs ds hs e t, r => by
    cases (show _ = Value.ref a from r)
    obtain ⟨_, its, n, rv, ho⟩ := (show ObjOk X.prog X.w H s.heap a (.lst xs) from I.hok a _ e)
    obtain ⟨as, h1, h2⟩ := IsThs.reads I t rv
    refine ⟨a :: as, .list ho rfl rfl (by simpa using h1), fun b hb => ?_⟩
    rcases List.mem_cons.mp hb with z | z
    · rw [z]; exact hs
    · exact h2 b z
  | _, _, _, @IsTh.tup _ _ a xs ds e t, r => by
    cases (show _ = Value.ref a from r)
    obtain ⟨_, its, rv, o, ho, hc, n, hd⟩ := (show ObjOk X.prog X.w H s.heap a (.tup xs) from I.hok a _ e)
    obtain ⟨as, h1, h2⟩ := IsThs.reads I t rv
    exact ⟨as, .tuple ho hc hd (by simpa using h1), h2⟩
  | _, _, _, @IsTh.dct _ _ a ks hs e, r => by
    cases (show _ = Value.ref a from r)
    obtain ⟨_, _, vs, rel, o, es, ep, ho, hx, hd, _, hp, _⟩ := (show ObjOk X.prog X.w H s.heap a (.dK _) from I.hok a _ e)
    obtain ⟨⟨_, i1, rfl⟩, ⟨_, i2, rfl⟩⟩ := pairs_ints (s := s) rel hp
    refine ⟨a :: [] ++ [], .dict ho hx.1 hd i1 i2, fun b hb => ?_⟩
    rw [show b = a by simpa using hb]
    exact hs
theorem IsThs.reads (I : Inv X pins σ H s) : ∀ {vs : List V} {ds : List PyData} {us : List Value}, IsThs S H vs ds → Vals vs us → ∃ as, ReadsAll s.heap us ds as ∧ ∀ a ∈ as, S a
  | _, _, _, .nil, r => by cases r; exact ⟨[], .nil, fun _ h => nomatch h⟩
  | _, _, _, .cons h t, r => by
    cases r with
    | cons r1 r2 =>
      obtain ⟨as, h1, h2⟩ := IsTh.reads I h r1
      obtain ⟨bs, h3, h4⟩ := IsThs.reads I t r2
      exact ⟨as ++ bs, .cons h1 h3, fun b hb => (List.mem_append.mp hb).elim (h2 b) (h4 b)⟩
end
theorem call_repr (hg : X.A.guards = some []) (hS : ¬ S sysModules) : CallR X (.builtin "repr") (fun xs H Q => ∃ v d, xs = [v] ∧ IsTh S H v d ∧ tame d = true ∧ sz d ≤ 4000 ∧ X.A.units + (sz d + 1) < cLine ∧ Q (.str d.shown) H) := by
  intro pins s σ H xs us Q I r h
  obtain ⟨v, d, rfl, th, tm, hz, hu, q⟩ := h
  obtain ⟨u, rfl, ru⟩ := vals1 r
  have hl := shown_len d tm
  have hsz : d.shown.length ≤ sizeLine := by rw [sizeLine_eq]; omega
  have fin : ∀ t h' tk, (∀ b o, s.heap.get? b = some o → h'.get? b = some o) → EP X pins σ Q (.str d.shown t) { s with heap := h', toks := tk } := fun t h' tk k => ⟨.str d.shown, H, I.kept k, ⟨t, rfl⟩, q⟩
  have show1 := showable_ok d tm
  cases th with
  | non => cases (show u = Value.none from ru); exact PySem.P.repr_of_none (fin _ s.heap _ fun _ _ e => e)
  | bl b => cases (show u = Value.bool b from ru); exact PySem.P.repr_of_bool (fin _ s.heap _ fun _ _ e => e)
  | int i =>
    obtain ⟨t, rfl⟩ := ru
    have : i.natAbs.log2 < 1920 := by simpa [PyData.showable] using show1
    exact PySem.P.repr_of_int this (fin _ s.heap _ fun _ _ e => e)
  | str x => obtain ⟨t, rfl⟩ := ru; exact PySem.P.repr_of_str (fin _ s.heap _ fun _ _ e => e) hsz
  | @lst a xs ds hs e t =>
    obtain ⟨as, rd, ha⟩ := (IsTh.lst hs e t).reads I ru
    cases (show u = Value.ref a from ru)
    exact repr_of_reads' rd show1 (fun _ hm => hS (ha _ hm)) hg (by have := depth_le _ tm; omega) (fun b o e => e) (fun h' t tk k => fin t h' tk k) hsz
  | @tup a xs ds e t =>
    obtain ⟨as, rd, ha⟩ := (IsTh.tup (S := S) e t).reads I ru
    cases (show u = Value.ref a from ru)
    exact repr_of_reads' rd show1 (fun _ hm => hS (ha _ hm)) hg (by have := depth_le _ tm; omega) (fun b o e => e) (fun h' t tk k => fin t h' tk k) hsz
  | @dct a ks hs e =>
    obtain ⟨as, rd, ha⟩ := (IsTh.dct hs e).reads I ru
    cases (show u = Value.ref a from ru)
    exact repr_of_reads' rd show1 (fun _ hm => hS (ha _ hm)) hg (by have := depth_le _ tm; omega) (fun b o e => e) (fun h' t tk k => fin t h' tk k) hsz
end
section
variable {X : Cx}
/-! ### xs.insert(i, y), i not below 0 -/
/-! ### t == () -/
end
end L2

set_option Elab.async false
set_option linter.all false
set_option maxRecDepth 100000
/-! zip of a tuple and a list, walked. -/
namespace L2
open PySem PySem.Spec PyProof.Rows
section
variable {prog : Program} {w : World} {A : Around} {E : Value → Shared → Prop} {s : Shared}
theorem nx_tup {j t : Addr} {i : Nat} {its : Array Value} {x : Value} {Q : Value → Shared → Prop} (hj : s.heap.IsTupleIter j t i) (ht : s.heap.IsTuple t its) (hx : its[i]? = some x)
    (hQ : ∀ h', h'.IsTupleIter j t (i + 1) → Heap.SameBut j s.heap h' → Q x { s with heap := h' }) : wpAny (model prog w) A (Builtin.SmallTypes.nextOf (.ref j)) Q E s := by
  obtain ⟨o, ho, hc, hd⟩ := id hj
  obtain ⟨p, hp, _, m, hm⟩ := ht
  unfold Builtin.SmallTypes.nextOf
  refine wpAny_bind (wpAny_callSpecial?_slot (name := Str.ofString "__next__") hj.typeIs F.slot_tuple_iterator_next (wpAny_call_entry F.slot_tuple_iterator_next hj.typeIs F.entry_tuple_iterator_next ?_ (F.args_tuple_iterator_next_1 _)))
  show wpAny _ _ (field (.ref j) 0 >>= _) _ _ s
  refine wpAny_bind (wpAny_field ho hd (x := .ref t) rfl ?_)
  show wpAny _ _ (if (Value.ref t == Value.none) = true then _ else _) _ _ s
  rw [if_neg (show ¬ ((Value.ref t == Value.none) = true) by intro z; exact Bool.false_ne_true z)]
  show wpAny _ _ (field (.ref j) 1 >>= _) _ _ s
  refine wpAny_bind (wpAny_field ho hd (x := .int i 0) rfl (wpAny_bind (wpAny_seqItems hp hm ?_)))
  simp only [Int.toNat_natCast, hx]
  refine wpAny_bind (wpAny_setField ho hd (by simp) (wpAny_pure ⟨x, rfl, wpAny_pure (hQ _ ⟨_, Heap.get?_update_self _ ho (Obj.isFreed_of_fields (Obj.data_mapFields hd _)), (Obj.cls_mapFields ..).trans hc, by
    rw [Obj.data_mapFields hd]
    simp [rawInt]⟩ (Heap.SameBut.update ..))⟩))
theorem nx_tup_end {j t : Addr} {i : Nat} {its : Array Value} {Q : Value → Shared → Prop} (hh : A.handled = none) (hj : s.heap.IsTupleIter j t i) (ht : s.heap.IsTuple t its) (hx : its[i]? = none)
    (hE : ∀ h' e, Heap.ExtBut j s.heap h' → (∃ o, h'.get? e = some o ∧ o.cls = .type "StopIteration") → E (.ref e) { s with heap := h' }) : wpAny (model prog w) A (Builtin.SmallTypes.nextOf (.ref j)) Q E s := by
  obtain ⟨o, ho, hc, hd⟩ := id hj
  obtain ⟨p, hp, _, m, hm⟩ := ht
  unfold Builtin.SmallTypes.nextOf
  refine wpAny_bind (wpAny_callSpecial?_slot (name := Str.ofString "__next__") hj.typeIs F.slot_tuple_iterator_next (wpAny_call_entry F.slot_tuple_iterator_next hj.typeIs F.entry_tuple_iterator_next ?_ (F.args_tuple_iterator_next_1 _)))
  show wpAny _ _ (field (.ref j) 0 >>= _) _ _ s
  refine wpAny_bind (wpAny_field ho hd (x := .ref t) rfl ?_)
  show wpAny _ _ (if (Value.ref t == Value.none) = true then _ else _) _ _ s
  rw [if_neg (show ¬ ((Value.ref t == Value.none) = true) by intro z; exact Bool.false_ne_true z)]
  show wpAny _ _ (field (.ref j) 1 >>= _) _ _ s
  refine wpAny_bind (wpAny_field ho hd (x := .int i 0) rfl (wpAny_bind (wpAny_seqItems hp hm ?_)))
  simp only [Int.toNat_natCast, hx]
  refine wpAny_bind (wpAny_rule (wpAny_bind (wpAny_setField ho hd (by simp) ?_)))
  show wpAny _ _ (newExc (.type "StopIteration") [] >>= _) _ _ _
  refine wpAny_bind ?_
  simp only [newExc, newTuple]
  refine wpAny_bind (wpAny_newObj_type (wpAny_bind (m := firstArgMember _ _) (wpAny_of_eq (a := Value.none) (by first | rfl | (simp only [firstArgMember]; rfl)) (wpAny_newObj_type ?_ (by size_fits)))) (by size_fits))
  simp only [raiseNew]
  refine wpAny_bind (wpAny_handled ?_)
  first
    | rw [show A.in1.handled = none from hh]
    | rw [hh]
  exact wpAny_bind (wpAny_pure (wpAny_throw (hE _ _ (((Heap.SameBut.update ..).extBut.push _).push _) ⟨_, Heap.get?_push_size _ rfl, rfl⟩)))

theorem zip_tl_item {z TI TO i1 i2 l1 l2 : Addr} {k : Nat} {xs ys : Array Value} {x y a b : Value} {Q : Option Value → Shared → Prop} (D : ZipApart z TI TO i1 i2 l1 l2)
    (hz : IsZip s.heap z TI TO .none) (hTI : IsPair s.heap TI (.ref i1) (.ref i2)) (hTO : IsPair s.heap TO a b)
    (h1 : s.heap.IsTupleIter i1 l1 k) (h2 : s.heap.IsListIter i2 l2 k) (hl1 : s.heap.IsTuple l1 xs) (hl2 : s.heap.IsList l2 ys) (hx : xs[k]? = some x) (hy : ys[k]? = some y)
    (hQ : ∀ h', IsZip h' z TI TO (rawInt s.heap.objs.size) → IsPair h' TO x y → h'.IsTupleIter i1 l1 (k + 1) → h'.IsListIter i2 l2 (k + 1) → IsPair h' s.heap.objs.size x y → h'.objs.size = s.heap.objs.size + 1 →
      (∀ c o, c ≠ z → c ≠ TO → c ≠ i1 → c ≠ i2 → s.heap.get? c = some o → h'.get? c = some o) → Q (some (.ref s.heap.objs.size)) { s with heap := h' }) :
    wpAny (model prog w) A (pyNext (.ref z)) Q E s := by
  have hT : s.TypeIs (.ref z) "zip" := ⟨_, hz, rfl⟩
  unfold pyNext
  refine wpAny_bind (wpAny_attempt (wpAny_callSpecial?_slot (name := Str.ofString "__next__") hT F.slot_zip_next (wpAny_call_entry F.slot_zip_next hT F.entry_zip_next ?_ (F.args_zip_next_1 _))))
  show wpAny _ _ (field (.ref z) 2 >>= _) _ _ _
  refine wpAny_bind (wpAny_field hz rfl (x := .bool false) rfl ?_)
  show wpAny _ _ (field (.ref z) 3 >>= _) _ _ _
  refine wpAny_bind (wpAny_field hz rfl (x := .ref TI) rfl (wpAny_bind (wpAny_seqItems hTI rfl ?_)))
  show wpAny _ _ (Builtin.SmallTypes.ownedTupleIsFree (.ref z) >>= _) _ _ _
  refine wpAny_bind ?_
  unfold Builtin.SmallTypes.ownedTupleIsFree
  refine wpAny_bind (wpAny_field hz rfl (x := .none) rfl (wpAny_pure ?_))
  simp only [if_true]
  refine wpAny_bind (wpAny_rule (wpAny_bind (wpAny_field hz rfl (x := .ref TO) rfl (wpAny_bind (wpAny_setField_rec hz (by simp) fun g1 z1 s1 => ?_)))))
  replace z1 : IsZip g1 z TI TO .ellipsis := z1
  refine wpAny_bind ?_
  simp only [List.zipIdx_cons, List.zipIdx_nil, List.forIn_cons, List.forIn_nil]
  refine wpAny_bind (wpAny_bind (wpAny_onRaise ?_))
  show wpAny _ _ (Builtin.SmallTypes.nextOf (.ref i1) >>= _) _ _ _
  refine wpAny_bind (nx_tup (h1.extBut s1.extBut D.i1z) (hl1.extBut s1.extBut D.l1z) hx fun g2 q1 s2 => wpAny_pure ?_)
  have o2 : IsPair g2 TO a b := s2.extBut _ _ D.TOi1 (s1.extBut _ _ D.TOz hTO)
  refine wpAny_bind (wpAny_seqItems o2 rfl (wpAny_bind (wpAny_updateSeq_pair o2 fun g3 o3 s3 => ?_)))
  replace o3 : IsPair g3 TO x b := o3
  refine wpAny_bind (wpAny_letGo (wpAny_pure (wpAny_bind (wpAny_bind (wpAny_onRaise ?_)))))
  show wpAny _ _ (Builtin.SmallTypes.nextOf (.ref i2) >>= _) _ _ _
  refine wpAny_bind (wpAny_nextOf_list_item (((h2.extBut s1.extBut D.i2z).extBut s2.extBut D.i12.symm).extBut s3.extBut D.TOi2.symm) (((hl2.extBut s1.extBut D.l2z).extBut s2.extBut D.l2i1).extBut s3.extBut D.l2TO) hy fun g4 q2 s4 => wpAny_pure ?_)
  have o4 : IsPair g4 TO x b := s4.extBut _ _ D.TOi2 o3
  refine wpAny_bind (wpAny_seqItems o4 rfl (wpAny_bind (wpAny_updateSeq_pair o4 fun g5 o5 s5 => ?_)))
  replace o5 : IsPair g5 TO x y := o5
  refine wpAny_bind (wpAny_letGo (wpAny_pure (wpAny_pure (wpAny_bind (wpAny_seqItems o5 rfl (wpAny_bind (wpAny_newTuple ?_)))))))
  have hsz : g5.objs.size = s.heap.objs.size := by rw [s5.1, s4.1, s3.1, s2.1, s1.1]
  have z5 : IsZip g5 z TI TO .ellipsis := s5.extBut _ _ D.TOz.symm (s4.extBut _ _ D.i2z.symm (s3.extBut _ _ D.TOz.symm (s2.extBut _ _ D.i1z.symm z1)))
  have k5 : ∀ c o, c ≠ z → c ≠ TO → c ≠ i1 → c ≠ i2 → s.heap.get? c = some o → g5.get? c = some o := fun c o c1 c2 c3 c4 e => s5.extBut _ _ c2 (s4.extBut _ _ c4 (s3.extBut _ _ c2 (s2.extBut _ _ c3 (s1.extBut _ _ c1 e))))
  have p1 : g5.IsTupleIter i1 l1 (k + 1) := ((q1.extBut s3.extBut D.TOi1.symm).extBut s4.extBut D.i12).extBut s5.extBut D.TOi1.symm
  have p2 : g5.IsListIter i2 l2 (k + 1) := q2.extBut s5.extBut D.TOi2.symm
  have zlt : z < g5.objs.size := Heap.lt_size z5
  show wpAny _ _ (Builtin.SmallTypes.ownedTupleHandOut (.ref z) (.ref g5.objs.size) >>= _) _ _ _
  refine wpAny_bind ?_
  unfold Builtin.SmallTypes.ownedTupleHandOut
  have z6 : IsZip (g5.push { cls := .type "tuple", data := .seq #[x, y] }) z TI TO .ellipsis := Heap.get?_push_of_some _ z5
  refine wpAny_bind (wpAny_setField_rec z6 (by simp) fun g7 z7 s7 => ?_)
  replace z7 : IsZip g7 z TI TO (rawInt g5.objs.size) := z7
  refine wpAny_setField_rec z7 (by simp) fun g8 z8 s8 => ?_
  replace z8 : IsZip g8 z TI TO (rawInt g5.objs.size) := z8
  have up : ∀ c o, c ≠ z → g5.get? c = some o → g8.get? c = some o := fun c o c1 e => s8.extBut _ _ c1 (s7.extBut _ _ c1 (Heap.get?_push_of_some _ e))
  have t8 : IsPair g8 g5.objs.size x y := s8.extBut _ _ (Nat.ne_of_gt zlt) (s7.extBut _ _ (Nat.ne_of_gt zlt) (Heap.get?_push_size _ rfl))
  have n8 : g8.objs.size = g5.objs.size + 1 := by rw [s8.1, s7.1, Heap.size_push]
  rw [hsz] at z8 t8 n8
  refine wpAny_pure ⟨_, rfl, wpAny_pure ?_⟩
  show Q (some (.ref g5.objs.size)) _
  rw [hsz]
  exact hQ g8 z8 (up _ _ D.TOz o5) (p1.at fun o e => up _ o D.i1z e) (p2.at fun o e => up _ o D.i2z e) t8 n8 fun c o c1 c2 c3 c4 e => up c o c1 (k5 c o c1 c2 c3 c4 e)
theorem zip_tl_end {z TI TO i1 i2 l1 l2 : Addr} {k : Nat} {xs : Array Value} {a b : Value} {Q : Option Value → Shared → Prop} (hh : A.handled = none) (D : ZipApart z TI TO i1 i2 l1 l2)
    (hz : IsZip s.heap z TI TO .none) (hTI : IsPair s.heap TI (.ref i1) (.ref i2)) (hTO : IsPair s.heap TO a b) (h1 : s.heap.IsTupleIter i1 l1 k) (hl1 : s.heap.IsTuple l1 xs) (hx : xs[k]? = none)
    (hQ : ∀ h', (∀ c o, c ≠ z → c ≠ i1 → s.heap.get? c = some o → h'.get? c = some o) → Q none { s with heap := h' }) : wpAny (model prog w) A (pyNext (.ref z)) Q E s := by
  have hT : s.TypeIs (.ref z) "zip" := ⟨_, hz, rfl⟩
  unfold pyNext
  refine wpAny_bind (wpAny_attempt (wpAny_callSpecial?_slot (name := Str.ofString "__next__") hT F.slot_zip_next (wpAny_call_entry F.slot_zip_next hT F.entry_zip_next ?_ (F.args_zip_next_1 _))))
  show wpAny _ _ (field (.ref z) 2 >>= _) _ _ _
  refine wpAny_bind (wpAny_field hz rfl (x := .bool false) rfl ?_)
  show wpAny _ _ (field (.ref z) 3 >>= _) _ _ _
  refine wpAny_bind (wpAny_field hz rfl (x := .ref TI) rfl (wpAny_bind (wpAny_seqItems hTI rfl ?_)))
  show wpAny _ _ (Builtin.SmallTypes.ownedTupleIsFree (.ref z) >>= _) _ _ _
  refine wpAny_bind ?_
  unfold Builtin.SmallTypes.ownedTupleIsFree
  refine wpAny_bind (wpAny_field hz rfl (x := .none) rfl (wpAny_pure ?_))
  simp only [if_true]
  refine wpAny_bind (wpAny_rule (wpAny_bind (wpAny_field hz rfl (x := .ref TO) rfl (wpAny_bind (wpAny_setField_rec hz (by simp) fun g1 z1 s1 => ?_)))))
  replace z1 : IsZip g1 z TI TO .ellipsis := z1
  refine wpAny_bind ?_
  simp only [List.zipIdx_cons, List.zipIdx_nil, List.forIn_cons, List.forIn_nil]
  refine wpAny_bind (wpAny_bind (wpAny_onRaise ?_))
  show wpAny _ _ (Builtin.SmallTypes.nextOf (.ref i1) >>= _) _ _ _
  refine wpAny_bind (nx_tup_end hh (h1.extBut s1.extBut D.i1z) (hl1.extBut s1.extBut D.l1z) hx fun g2 e s2 he => ?_)
  obtain ⟨oe, hoe, hce⟩ := he
  have z2 : IsZip g2 z TI TO .ellipsis := s2 _ _ D.i1z.symm z1
  have hez : e ≠ z := fun q => by
    subst q
    rw [z2] at hoe
    cases hoe
    simp at hce
  refine wpAny_setField_rec z2 (by simp) fun g3 _ s3 => ?_
  refine wpAny_bind (wpAny_isInstance (T := "StopIteration") (b := true) ⟨oe, s3.extBut _ _ hez hoe, hce⟩ isSubtype_stop (wpAny_pure (hQ _ fun c o c1 c2 q => s3.extBut _ _ c1 (s2 _ _ c2 (s1.extBut _ _ c1 q)))))
end

/-! ### zip(t, l) -/
abbrev zA (h : Heap) (t : Addr) : Heap := h.push { cls := .type "tuple_iterator", data := .fields #[.ref t, .int 0 0] }
abbrev zB (h : Heap) (t l : Addr) : Heap := (zA h t).push { cls := .type "list_iterator", data := .fields #[.ref l, .int 0 0] }
abbrev zC (h : Heap) (t l : Addr) : Heap := (zB h t l).push { cls := .type "tuple", data := .seq #[.ref h.objs.size, .ref (zA h t).objs.size] }
abbrev zD (h : Heap) (t l : Addr) : Heap := (zC h t l).push { cls := .type "tuple", data := .seq #[.none, .none] }
abbrev zE (h : Heap) (t l : Addr) : Heap := (zD h t l).push { cls := .type "zip", data := .fields #[.none, .bool false, .bool false, .ref (zB h t l).objs.size, .ref (zC h t l).objs.size] }
theorem meets_zip_tl (t l : Addr) (xs ys : Array Value) :
    Meets (Builtin.«zip.__new__» ⟨[.type "zip", .ref t, .ref l], []⟩) (fun _ R s => s.heap.IsTuple t xs ∧ s.heap.IsList l ys ∧ R (.ok (.ret (.ref (zD s.heap t l).objs.size))) { s with heap := zE s.heap t l }) :=
  .of_wp fun prog w A R s h => by
    obtain ⟨hp, g, d, tk, os⟩ := s
    obtain ⟨ht, hl, h⟩ := h
    have hsub := sub_zip
    have hT : Heap.IsTuple (Shared.heap ⟨hp, g, d, tk, os⟩) t xs := ht
    have hL : Heap.IsList (Shared.heap ⟨hp.push { cls := .type "tuple_iterator", data := .fields #[.ref t, .int 0 0] }, g, d, tk, os⟩) l ys := Heap.IsList.push hl _
    wp_walk using wpAny_pyIter_tuple hT, wpAny_pyIter_list hL
    exact ⟨_, rfl, h⟩
theorem call_zip_tl {prog : Program} {w : World} {A : Around} {E : Value → Shared → Prop} {s : Shared} {t l : Addr} {xs ys : Array Value} {Q : Value → Shared → Prop} (ht : s.heap.IsTuple t xs) (hl : s.heap.IsList l ys)
    (h : ∀ h', IsZip h' (s.heap.objs.size + 4) (s.heap.objs.size + 2) (s.heap.objs.size + 3) .none → IsPair h' (s.heap.objs.size + 2) (.ref s.heap.objs.size) (.ref (s.heap.objs.size + 1)) → IsPair h' (s.heap.objs.size + 3) .none .none →
      h'.IsTupleIter s.heap.objs.size t 0 → h'.IsListIter (s.heap.objs.size + 1) l 0 → (∀ c o, s.heap.get? c = some o → h'.get? c = some o) → Q (.ref (s.heap.objs.size + 4)) { s with heap := h' }) :
    wpAny (model prog w) A (call (.type "zip") [.ref t, .ref l]) Q E s := by
  refine callType_new F.called_zip (by decide) (F.typeCall_zip_2 _ _) (F.newCall_zip_2 _ _) (fun obj => F.args_object_init_3 obj _ _) F.entry_zip_new (meets_zip_tl t l xs ys) ⟨ht, hl, ?_⟩
  have e1 : (zA s.heap t).objs.size = s.heap.objs.size + 1 := Heap.size_push ..
  have e2 : (zB s.heap t l).objs.size = s.heap.objs.size + 2 := by rw [Heap.size_push, e1]
  have e3 : (zC s.heap t l).objs.size = s.heap.objs.size + 3 := by rw [Heap.size_push, e2]
  have e4 : (zD s.heap t l).objs.size = s.heap.objs.size + 4 := by rw [Heap.size_push, e3]
  have up4 : ∀ {c o}, (zD s.heap t l).get? c = some o → (zE s.heap t l).get? c = some o := fun e => Heap.get?_push_of_some _ e
  have up3 : ∀ {c o}, (zC s.heap t l).get? c = some o → (zE s.heap t l).get? c = some o := fun e => up4 (Heap.get?_push_of_some _ e)
  have up2 : ∀ {c o}, (zB s.heap t l).get? c = some o → (zE s.heap t l).get? c = some o := fun e => up3 (Heap.get?_push_of_some _ e)
  have up1 : ∀ {c o}, (zA s.heap t).get? c = some o → (zE s.heap t l).get? c = some o := fun e => up2 (Heap.get?_push_of_some _ e)
  have g5 : (zE s.heap t l).get? (zD s.heap t l).objs.size = some _ := Heap.get?_push_size _ rfl
  have g4 : (zE s.heap t l).get? (zC s.heap t l).objs.size = some _ := up4 (Heap.get?_push_size _ rfl)
  have g3 : (zE s.heap t l).get? (zB s.heap t l).objs.size = some _ := up3 (Heap.get?_push_size _ rfl)
  have g2 : (zE s.heap t l).get? (zA s.heap t).objs.size = some _ := up2 (Heap.get?_push_size _ rfl)
  have g1 : (zE s.heap t l).get? s.heap.objs.size = some _ := up1 (Heap.get?_push_size _ rfl)
  show _ ∧ _
  rw [e4, e2, e3] at g5
  rw [e2, e1] at g3
  rw [e3] at g4
  rw [e1] at g2
  rw [e4]
  exact ⟨⟨_, g5, rfl⟩, h _ g5 g3 g4 ⟨_, g1, rfl, rfl⟩ ⟨_, g2, rfl, rfl⟩ fun c o x => up1 (Heap.get?_push_of_some _ x)⟩
/-- the pairs of the tuple at a and the list at b -/
def Itz (K : PySem.W.Frag) (a b : Addr) : It :=
  ⟨fun i H => ∃ xs ys x y, SqT K H a xs ∧ SqL K H b ys ∧ xs[i]? = some x ∧ ys[i]? = some y,
   fun i H v H' => ∃ T, H T = none ∧ v = .ref T ∧ ∀ xs ys, SqT K H a xs → SqL K H b ys → ∃ x y, xs[i]? = some x ∧ ys[i]? = some y ∧ H' = upd H T (.tup [x, y]),
   fun i H => ∃ xs, SqT K H a xs ∧ xs.length ≤ i⟩
def tnz (z TI TO i1 i2 a b : Addr) (i : Nat) (h : Heap) : Prop := IsZip h z TI TO .none ∧ IsPair h TI (.ref i1) (.ref i2) ∧ (∃ u v, IsPair h TO u v) ∧ h.IsTupleIter i1 a i ∧ h.IsListIter i2 b i
theorem turn_zip {P : Program} {w : World} {K : PySem.W.Frag} {es : List Expr} {k : Nat} {pos : Pos} {z TI TO i1 i2 a b : Addr} (D : ZipApart z TI TO i1 i2 a b) :
    Turn P w K (.Tuple es k pos) (Itz K a b) [z, TI, TO, i1, i2] z (tnz z TI TO i1 i2 a b) where
  mem := by simp
  obj := fun i h st c hc => by
    obtain ⟨s1, s2, ⟨u, v, s3⟩, ⟨o4, s4, c4, d4⟩, ⟨o5, s5, c5, d5⟩⟩ := st
    simp only [List.mem_cons, List.not_mem_nil, or_false] at hc
    rcases hc with e | e | e | e | e <;> subst e
    · exact ⟨_, s1, fun v q => by cases q⟩
    · exact ⟨_, s2, fun v q => by cases q⟩
    · exact ⟨_, s3, fun v q => by cases q⟩
    · exact ⟨_, s4, fun v q => by rw [d4] at q; cases q⟩
    · exact ⟨_, s5, fun v q => by rw [d5] at q; cases q⟩
  keep := fun i h h' st kp => by
    obtain ⟨s1, s2, ⟨u, v, s3⟩, s4, s5⟩ := st
    exact ⟨kp z (by simp) _ s1, kp TI (by simp) _ s2, ⟨u, v, kp TO (by simp) _ s3⟩, s4.at fun o e => kp i1 (by simp) o e, s5.at fun o e => kp i2 (by simp) o e⟩
  item := by
    intro X hP hw hK hc i pins s σ H E I hf st hg
    subst hP hw hK
    obtain ⟨s1, s2, ⟨u, v, s3⟩, s4, s5⟩ := st
    obtain ⟨xs, ys, x, y, hxs, hys, hx, hy⟩ := hg
    obtain ⟨its, rv, p, _⟩ := I.tuple hxs
    obtain ⟨jts, rw', q, _⟩ := I.list hys
    obtain ⟨ux, hux, rx⟩ := rv.get hx
    obtain ⟨uy, huy, ry⟩ := rw'.get hy
    refine zip_tl_item D s1 s2 s3 s4 s5 (show s.heap.IsTuple a its.toArray from p) q.isList (x := ux) (y := uy) (by simpa using hux) (by simpa using huy) fun h1 g1 g2 g3 g4 g5 g6 kp => ?_
    refine ⟨_, rfl, ?_⟩
    refine wpAny_letOwnedTupleGo_zip g1 fun h2 e1 sb => ?_
    have ne : ∀ c, c ∈ [z, TI, TO, i1, i2] → c ≠ s.heap.objs.size := fun c hc' e => by
      obtain ⟨f0, f1, f2, f3, f4, f5⟩ := hf c hc'
      have : ∃ o, s.heap.get? c = some o := by
        simp only [List.mem_cons, List.not_mem_nil, or_false] at hc'
        rcases hc' with q | q | q | q | q <;> subst q
        · exact ⟨_, s1⟩
        · exact ⟨_, s2⟩
        · exact ⟨_, s3⟩
        · exact let ⟨o, h, _⟩ := s4; ⟨o, h⟩
        · exact let ⟨o, h, _⟩ := s5; ⟨o, h⟩
      obtain ⟨o, ho⟩ := this
      exact absurd (Heap.lt_size ho) (by rw [e]; exact Nat.lt_irrefl _)
    have hT : H s.heap.objs.size = none := I.hok.fresh (Nat.le_refl _)
    have kept : ∀ c o, c ∉ [z, TO, i1, i2] → s.heap.get? c = some o → h2.get? c = some o := fun c o hc' e =>
      sb.extBut _ _ (fun q => hc' (by simp [q])) (kp c o (fun q => hc' (by simp [q])) (fun q => hc' (by simp [q])) (fun q => hc' (by simp [q])) (fun q => hc' (by simp [q])) e)
    have inF : ∀ c, c ∈ [z, TO, i1, i2] → c ∈ [z, TI, TO, i1, i2] := fun c hc' => by
      simp only [List.mem_cons, List.not_mem_nil, or_false] at hc' ⊢
      rcases hc' with q | q | q | q <;> simp [q]
    have trk : ∀ c o, H c = some o → c ∉ [z, TO, i1, i2] := fun c o e hc' => by
      have := (hf c (inF c hc')).1
      rw [e] at this; cases this
    have newT : h2.get? s.heap.objs.size = some { cls := .type "tuple", data := .seq #[ux, uy] } := sb.extBut _ _ (Ne.symm (ne z (by simp))) g5
    have hok2 : HOk X.prog X.w (upd H s.heap.objs.size (.tup [x, y])) h2 := fun c o e => by
      by_cases hb : c = s.heap.objs.size
      · subst hb
        rw [upd_same] at e
        cases e
        exact ⟨by show 2 ≤ sizeLine; decide, [ux, uy], .cons rx (.cons ry .nil), _, newT, rfl, _, rfl⟩
      · rw [upd_ne hb] at e
        refine (I.hok c o e).stay (fun d v hd q => kept d v ?_ q) (fun d q => by rw [upd_ne (ne_of_none q hT)]; exact q) fun d l q => by rw [upd_ne (ne_of_none q hT)]; exact q
        rcases hd with e' | e'
        · rw [e']; exact trk c o e
        · exact trk d _ e'
    have I2 : Inv X pins σ (upd H s.heap.objs.size (.tup [x, y])) { s with heap := h2 } := by
      refine I.step (g' := s.gens) (d' := s.drawn) (t' := s.toks) (ch := [z, TO, i1, i2]) (fun c hc' => ?_) (fun c o _ _ hn e _ => kept c o hn e) (fun c o _ _ hn e _ => ⟨o.slots, kept c o hn e⟩)
        (fun c o _ e n => by rw [upd_ne (Nat.ne_of_lt (Heap.lt_size e))]; exact n) (fun c o hn e => ⟨o, kept c o hn e⟩) (fun c l e => by rw [upd_ne (ne_of_none e hT)]; exact e) (fun c o l e => by rw [upd_ne (ne_of_none e hT)]; exact e)
        (fun c l e => ⟨#[], by rw [upd_ne (ne_of_none e hT), e]; simp⟩) (fun m hm => ?_) hok2 I.bare
      · obtain ⟨f0, f1, f2, f3, f4, f5⟩ := hf c (inF c hc')
        exact ⟨f3, f1, f4, f5⟩
      · obtain ⟨o, es', ep, ho, r⟩ := hm
        refine ⟨o, es', ep, kept _ o (fun hc' => ?_) ho, r⟩
        exact (hf _ (inF _ hc')).2.1 rfl
    refine ⟨.ref s.heap.objs.size, _, I2, rfl, ⟨s.heap.objs.size, hT, rfl, fun xs' ys' e1' e2' => ⟨x, y, ?_, ?_, rfl⟩⟩, ⟨e1, ?_, ?_, ?_, ?_⟩, fun c hc' => ?_⟩
    · rw [I.tuple_inj e1' hxs]; exact hx
    · rw [I.list_inj e2' hys]; exact hy
    · exact sb.extBut _ _ D.TIz (kp _ _ D.TIz D.TITO D.TIi1 D.TIi2 s2)
    · exact ⟨_, _, sb.extBut _ _ D.TOz g2⟩
    · exact g3.extBut sb.extBut D.i1z
    · exact g4.extBut sb.extBut D.i2z
    · rw [upd_ne (ne c hc')]
      exact (hf c hc').1
  done := by
    intro X hP hw hK hc i pins s σ H E I hf st hg
    subst hP hw hK
    obtain ⟨s1, s2, ⟨u, v, s3⟩, s4, s5⟩ := st
    obtain ⟨xs, hxs, hlen⟩ := hg
    obtain ⟨its, rv, p, _⟩ := I.tuple hxs
    have hl := rv.length
    refine zip_tl_end (I.ok.hd hc) D s1 s2 s3 s4 (show s.heap.IsTuple a its.toArray from p) (by simp; omega) fun h' kp => ⟨rfl, ?_⟩
    refine I.step (h' := h') (H' := H) (g' := s.gens) (d' := s.drawn) (t' := s.toks) (ch := [z, i1]) (fun c hc' => ?_) (fun c o _ _ hn e _ => kp c o (fun q => hn (by simp [q])) (fun q => hn (by simp [q])) e)
      (fun c o _ _ hn e _ => ⟨o.slots, kp c o (fun q => hn (by simp [q])) (fun q => hn (by simp [q])) e⟩) (fun c o _ e n => n) (fun c o hn e => ⟨o, kp c o (fun q => hn (by simp [q])) (fun q => hn (by simp [q])) e⟩)
      (fun _ _ e => e) (fun _ _ _ e => e) (fun c l e => ⟨#[], by rw [e]; simp⟩) (fun m hm => ?_) (fun c o e => ?_) I.bare
    · have : c ∈ [z, TI, TO, i1, i2] := by
        simp only [List.mem_cons, List.not_mem_nil, or_false] at hc' ⊢
        rcases hc' with q | q <;> simp [q]
      obtain ⟨f0, f1, f2, f3, f4, f5⟩ := hf c this
      exact ⟨f3, f1, f4, f5⟩
    · obtain ⟨o, es', ep, ho, r⟩ := hm
      exact ⟨o, es', ep, kp _ o (Ne.symm (hf z (by simp)).2.1) (Ne.symm (hf i1 (by simp)).2.1) ho, r⟩
    · have nn : ∀ d v c', c' ∈ [z, TI, TO, i1, i2] → H d = some v → d ≠ c' := fun d v c' hc' q e' => by
        have := (hf c' hc').1
        rw [← e', q] at this
        cases this
      have nz : ∀ d v, H d = some v → d ≠ z ∧ d ≠ i1 := fun d v q => ⟨nn d v z (by simp) q, nn d v i1 (by simp) q⟩
      refine (I.hok c o e).stay (fun d v hd q => ?_) (fun _ q => q) fun _ _ q => q
      rcases hd with e' | e'
      · rw [e'] at q ⊢; exact kp c v (nz c o e).1 (nz c o e).2 q
      · exact kp d v (nz d _ e').1 (nz d _ e').2 q
  self := fun _ _ _ _ _ st h => wpAny_pyIter_zip st.1 h
section
variable {X : Cx}
def iZip (K : PySem.W.Frag) (t : TA) : TI := fun σ H R => t σ H fun vs H1 => ∃ a b xs ys, vs = [.ref a, .ref b] ∧ SqT K H1 a xs ∧ SqL K H1 b ys ∧ R (Itz K a b) H1
theorem pi_zip {es : List Expr} {k : Nat} {tp : Pos} {a b : Expr} {ta : TA} {p pos : Pos} (hg : Gl X "zip") (hm : X.mg "zip" = none) (ha : PA X [a, b] ta) (hs : starEach [a, b] X.env = [(false, eval a X.env), (false, eval b X.env)] := by rfl) (hs2 : starEach [b] X.env = [(false, eval b X.env)] := by rfl) :
    PI X (.Tuple es k tp) (.Call (.Name "zip" p) [a, b] [] pos) (iZip X.K ta) := by
  intro pins s σ H R I h
  refine Call_ (ld_blt I hg hm boot_zip (PyProof.Rows.callWith_type1 (thn (ha pos pins s σ H _ I h) fun us s1 ⟨vs, H1, I1, r1, q1⟩ => ?_) (by rw [hs, hs2]) (by rw [hs2]; rfl)))
  obtain ⟨x, y, xs, ys, e, hx, hy, q⟩ := q1
  subst e
  obtain ⟨u, v, rfl, ru, rv⟩ := vals2 r1
  cases ru
  cases rv
  obtain ⟨its, _, p1, _⟩ := I1.tuple hx
  obtain ⟨jts, _, p2, _⟩ := I1.list hy
  refine call_zip_tl (show s1.heap.IsTuple x its.toArray from p1) p2.isList fun h' z1 z2 z3 z4 z5 kp => ?_
  refine wpAny_pyIter_zip z1 ?_
  have lx : x < s1.heap.objs.size := by obtain ⟨_, e, _⟩ := (show s1.heap.IsTuple x its.toArray from p1); exact Heap.lt_size e
  have ly : y < s1.heap.objs.size := by obtain ⟨_, e, _⟩ := p2.isList; exact Heap.lt_size e
  refine ⟨_, _, _, _, H1, rfl, I1.kept (t' := s1.toks) kp, turn_zip (zipApart_new lx ly), ⟨z1, z2, ⟨_, _, z3⟩, z4, z5⟩, fun c hc => ?_, q⟩
  have hle : s1.heap.objs.size ≤ c := by
    simp only [List.mem_cons, List.not_mem_nil, or_false] at hc
    rcases hc with q | q | q | q | q <;> subst q
    · exact Nat.le_add_right _ 4
    · exact Nat.le_add_right _ 2
    · exact Nat.le_add_right _ 3
    · exact Nat.le_refl _
    · exact Nat.le_add_right _ 1
  exact I1.fpOk hle (I1.hok.fresh hle)
end
end L2

set_option Elab.async false
set_option linter.all false
set_option maxRecDepth 100000
/-! Comprehensions of truths over things; lists and dicts that become things; t * n. -/
namespace L2
open PySem PySem.Spec PyProof.Rows
theorem IsTh.same {S : Addr → Prop} {H H' : Hp} {v : V} {d : PyData} (h : IsTh S H v d) (s : Same H H') : IsTh S H' v d := h.keep (fun b xs e => s b _ e) (fun b o _ e => s b o e) fun _ _ z _ => z
theorem IsThs.same {S : Addr → Prop} {H H' : Hp} {v : List V} {d : List PyData} (h : IsThs S H v d) (s : Same H H') : IsThs S H' v d := h.keep (fun b xs e => s b _ e) (fun b o _ e => s b o e) fun _ _ z _ => z
theorem Same.upd {H : Hp} {D : Addr} {o : HO} (h : H D = none) : Same H (upd H D o) := fun b u e => by rw [upd_ne (ne_of_none e h)]; exact e
theorem Same.updR {H H' : Hp} {D : Addr} {o : HO} (s : Same H H') (h : H' D = none) : Same H (L2.upd H' D o) := s.trans (Same.upd h)
/-- [f(x) for x in t]: truths -/
theorem comp_truths {K : PySem.W.Frag} {S : Addr → Prop} {te : TE} {a : Addr} {xs : List V} {ds : List PyData} (f : PyData → Bool) {σ0 : St} {j : Nat} {H0 : Hp} {Fin : List V → Hp → Prop} (hT : H0 a = some (.tup xs)) (th : IsThs S H0 xs ds) (hl : xs.length < sizeLine)
    (hte : ∀ v d H Q, d ∈ ds → Same H0 H → IsTh S H v d → (∀ H', Same H H' → Q (.bl (f d)) H') → te (σ0.set j (some v)) H Q)
    (fin : ∀ H', Same H0 H' → Fin (ds.map fun d => V.bl (f d)) H') : CompW (Itt K a) (gName j) tYes te Fin σ0 H0 := by
  have hlen := th.length
  refine ⟨fun i m ys σ H => m = xs.length - i ∧ i ≤ xs.length ∧ ys = (ds.take i).map (fun d => V.bl (f d)) ∧ (∀ o, σ.set j o = σ0.set j o) ∧ Same H0 H, ⟨_, rfl, Nat.zero_le _, rfl, fun _ => rfl, Same.refl _⟩, ?_⟩
  rintro i m ys σ H ⟨rfl, hi, rfl, hσ, hs⟩
  have sq : SqT K H a xs := SqT.of (hs _ _ hT)
  refine ⟨by rw [List.length_map, List.length_take]; omega, ?_⟩
  by_cases hlt : i < xs.length
  · refine .inr ⟨⟨xs, xs[i], sq, by simp [hlt]⟩, fun x H' y => ?_⟩
    obtain ⟨e, y⟩ := y
    subst e
    have hx := y xs sq
    obtain ⟨d, hd, ht⟩ := (th.same hs).get hx
    show te (σ.set j (some x)) H' _
    rw [hσ]
    refine hte x d H' _ (List.mem_of_getElem? hd) hs ht fun H2 s2 => ⟨xs.length - (i + 1), by omega, rfl, hlt, ?_, fun o => by rw [List.set_set], hs.trans s2⟩
    rw [List.take_add_one, hd]
    simp
  · have e : i = xs.length := by omega
    subst e
    refine .inl ⟨⟨xs, sq, Nat.le_refl _⟩, ?_⟩
    rw [hlen, List.take_length]
    exact fin H hs
theorem bools_of {ds : List PyData} {f : PyData → Bool} : ds.map (fun d => V.bl (f d)) = (ds.map f).map V.bl := by rw [List.map_map]; rfl
theorem all_of {ds : List PyData} {f : PyData → Bool} : (ds.map f).all id = ds.all f := by rw [List.all_map]; rfl
section
variable {X : Cx} {es : List Expr} {t : TA} {pos : Pos}
/-! ### new lists and dicts that may become things: none is the table of modules -/
end

/-! ### a op1 b op2 c op3 d -/
section
variable {X : Cx} {a b c d : Expr} {ta tb tc td : TE} {pos : Pos}
end

/-! ### readings that only reckon -/
def Ev (σ : St) (H : Hp) (t : TE) (v : V) : Prop := ∀ Q : VK, Q v H → t σ H Q
section
variable {σ : St} {H : Hp} {ta tb tc td : TE}
theorem ev_v {i : Nat} {v : V} (h : σ[i]? = some (some v)) : Ev σ H (tVar i) v := fun _ q => ⟨v, h, q⟩
theorem ev_chain {p q : Int → Int → Bool} {i j k : Int} (a : Ev σ H ta (.int i)) (b : Ev σ H tb (.int j)) (c : Ev σ H tc (.int k)) :
    Ev σ H (tChain (rI0 fun i j => .bl (p i j)) (rI0 fun i j => .bl (q i j)) ta tb tc) (.bl (p i j && q j k)) := fun Q h => a _ (b _ ⟨i, j, rfl, rfl, _, rfl, by
  cases e : p i j with
  | false =>
    rw [e] at h
    exact iteF h
  | true =>
    rw [e] at h
    exact iteT (c _ ⟨j, k, rfl, rfl, h⟩)⟩)
theorem ev_and {b c : Bool} (x : Ev σ H ta (.bl b)) (y : b = true → Ev σ H tb (.bl c)) : Ev σ H (tAndV ta tb) (.bl (b && c)) := fun Q h => x _ ⟨b, rfl, by
  cases e : b with
  | false =>
    rw [e] at h
    exact iteF h
  | true =>
    rw [e] at h
    exact iteT (y e _ h)⟩
end
end L2

set_option Elab.async false
set_option linter.all false
set_option maxRecDepth 100000
/-! Argument lists: that an item bears no star, once for each kind of item. -/
namespace L2
open PySem PySem.Spec PyProof.Rows
structure Plain (e : Expr) : Prop where
  eq : ∀ (es : List Expr) (env : Env), starEach (e :: es) env = (false, eval e env) :: starEach es env
theorem plain_const {c j p} : Plain (.Constant c j p) := ⟨fun _ _ => rfl⟩
theorem plain_name {x p} : Plain (.Name x p) := ⟨fun _ _ => rfl⟩
theorem plain_tuple {es k p} : Plain (.Tuple es k p) := ⟨fun _ _ => rfl⟩
theorem plain_list {es p} : Plain (.List es p) := ⟨fun _ _ => rfl⟩
theorem plain_call {f as ks p} : Plain (.Call f as ks p) := ⟨fun _ _ => rfl⟩
theorem plain_bin {a o b p} : Plain (.BinOp a o b p) := ⟨fun _ _ => rfl⟩
theorem plain_un {o a p} : Plain (.UnaryOp o a p) := ⟨fun _ _ => rfl⟩
theorem plain_sub {a b p} : Plain (.Subscript a b p) := ⟨fun _ _ => rfl⟩
theorem plain_comp {a b c p} : Plain (.ListComp a b c p) := ⟨fun _ _ => rfl⟩
section
variable {X : Cx} {e : Expr} {es : List Expr} {te : TE} {t : TA}
theorem pa_c (ha : PE X e te) (hr : PA X es t) (hp : Plain e := by first | exact plain_name | exact plain_const | exact plain_call | exact plain_tuple | exact plain_list | exact plain_bin | exact plain_sub | exact plain_un | exact plain_dict | exact plain_comp | exact plain_cmp) : PA X (e :: es) (tCons te t) :=
  pa_cons ha hr (hp.eq _ _)
end

/-! ### argument lists that don't unfold while a term is built; written ints -/
structure AA (X : Cx) (es : List Expr) (t : TA) : Prop where
  run : PA X es t
section
variable {X : Cx} {e : Expr} {es : List Expr} {te : TE} {t : TA} {pos : Pos}
theorem aa_nil : AA X [] tNil := ⟨pa_nil⟩
theorem aa_c (ha : PE X e te) (hr : AA X es t) (hp : Plain e := by first | exact plain_name | exact plain_const | exact plain_call | exact plain_tuple | exact plain_list | exact plain_bin | exact plain_sub | exact plain_un | exact plain_dict | exact plain_comp | exact plain_cmp) : AA X (e :: es) (tCons te t) :=
  ⟨pa_cons ha hr.run (hp.eq _ _)⟩
end
inductive IsInts : List Expr → List Int → Prop
  | nil : IsInts [] []
  | cons {i : Int} {j : Nat} {p : Pos} {es : List Expr} {is : List Int} : IsInts es is → IsInts (.Constant (.int i) j p :: es) (i :: is)
def tInts (is : List Int) : TA := fun _ H Q => Q (is.map V.int) H
theorem pa_ints {X : Cx} : ∀ {es : List Expr} {is : List Int}, IsInts es is → PA X es (tInts is)
  | _, _, .nil => fun _ _ _ _ H Q I h => Calls.spliced_nil ⟨[], H, I, .nil, h⟩
  | _, _, @IsInts.cons i j p es is r => by
    have h := pa_c (X := X) (pe_int (i := i) (j := j) (pos := p)) (pa_ints r)
    exact h

theorem pg_tupK {X : Cx} {es : List Expr} {k : Nat} {pos : Pos} {t : TGs} {K : PySem.W.Frag} {n : Nat} (hK : X.K = K) (hc : X.calm = true) (h : PGs X es t) (hn : (assignEach es X.env).length = n := by rfl) (hst : (assignEach es X.env).findIdx? (·.1) = none := by rfl) :
    PG X (.Tuple es k pos) (gTup K n t) := by
  subst hK
  exact pg_tup hc h hn hst
/-! ### values that don't unfold while a term is built -/
structure BE (X : Cx) (e : Expr) (t : TE) : Prop where
  run : PE X e t
section
variable {X : Cx} {e : Expr} {es : List Expr} {te : TE} {t : TA} {pos : Pos}
theorem ab_c (ha : BE X e te) (hr : AA X es t) (hp : Plain e := by first | exact plain_name | exact plain_const | exact plain_call | exact plain_tuple | exact plain_list | exact plain_bin | exact plain_sub | exact plain_un | exact plain_dict | exact plain_comp | exact plain_cmp) : AA X (e :: es) (tCons te t) := aa_c ha.run hr hp
theorem be_lst (h : AA X es t) : BE X (.List es pos) (tLst t) := ⟨pe_lst h.run⟩
end
structure BS (X : Cx) (st : Stmt) (t : TS) : Prop where
  run : PS X st t
structure BSs (X : Cx) (sts : List Stmt) (t : TS) : Prop where
  run : PSs X sts t
section
variable {X : Cx} {st : Stmt} {rest : List Stmt} {t u : TS} {pos : Pos}
theorem pss_b (h : BSs X rest t) : PSs X rest t := h.run
theorem bss_cons (h1 : BS X st t) (h2 : BSs X rest u) : BSs X (st :: rest) (tSeq t u) := ⟨pss_cons h1.run h2.run⟩
theorem bss_one (h1 : BS X st t) : BSs X [st] t := ⟨pss_one h1.run⟩
theorem bs_set {i : Nat} {x : Str} {e : Expr} {te : TE} {pos' : Pos} (hN : X.N.Nodup) (hi : X.N[i]? = some x) (hx : Loc X.env.scope x) (he : BE X e te) (hs : swapsWith e (some (.Name x pos')) pos.line X.env = pure false := by rfl) (hf : X.fn x = true ∨ X.env.scope.names.lookup x = some .local := by first | exact .inl rfl | exact .inr rfl | assumption) :
    BS X (.Assign [.Name x pos'] e pos) (tAsg te (gName i)) := ⟨ps_set hN hi hx he.run hs hf⟩
theorem be_ix {r : R2} {a b : Expr} {ta tb : TE} (hr : IxR X r) (ha : BE X a ta) (hb : BE X b tb) (hs : PlainIx b) : BE X (.Subscript a b pos) (tOp r ta tb) := ⟨pe_ix hr ha.run hb.run hs⟩
end
end L2

set_option Elab.async false
set_option linter.all false
set_option maxRecDepth 100000
/-! Readings that make things. -/
namespace L2
open PySem PySem.Spec PyProof.Rows
section
variable {X : Cx} {es : List Expr} {t : TA} {pos : Pos}
end
section
variable {S : Addr → Prop} {σ : St} {H : Hp}
end
/-! ### one step of a reading at a time -/
section
variable {D : Ends} {σ : St} {H : Hp} {t u : TS} {te : TE} {ta : TA} {g : TG} {Q : VK}
theorem rd_next (h : D.nx σ H) : tNext D σ H := h
theorem rd_seq (h : t { D with nx := u D } σ H) : tSeq t u D σ H := h
theorem rd_asg (h : te σ H fun x H1 => g x σ H1 D.nx) : tAsg te g D σ H := h
theorem rd_ret (h : te σ H D.rt) : tRet te D σ H := h
theorem rd_name {i : Nat} {v : V} {R : St → Hp → Prop} (h : R (σ.set i (some v)) H) : gName i v σ H R := h
end
end L2

set_option Elab.async false
set_option linter.all false
set_option maxRecDepth 100000
/-! Three names at once; t * n. -/
namespace L2
open PySem PySem.Spec PyProof.Rows
section
variable {X : Cx} {pos : Pos}
end
/-! ### t * n -/
end L2

set_option Elab.async false
set_option linter.all false
set_option maxRecDepth 100000
/-! enumerate of a tuple, walked. -/
namespace L2
open PySem PySem.Spec PyProof.Rows
section
variable {X : Cx}
end
end L2

set_option Elab.async false
set_option linter.all false
set_option maxRecDepth 100000
/-! min of a list of ints; () + t; t[a:b] where it is the whole; t[::-1]. -/
namespace L2
open PySem PySem.Spec PyProof.Rows
section
variable {X : Cx}
end
section
variable {prog : Program} {w : World} {A : Around} {E : Value → Shared → Prop} {s : Shared}
end
section
variable {X : Cx}
end
section
variable {prog : Program} {w : World} {A : Around} {E : Value → Shared → Prop} {s : Shared}
end
section
variable {X : Cx} {e : Expr} {te : TE} {pos p2 p3 p4 : Pos} {j : Nat}
end
end L2

set_option Elab.async false
set_option linter.all false
set_option maxRecDepth 100000
/-! zip of two tuples, walked. -/
namespace L2.ZT
open PySem PySem.Spec PyProof.Rows L2
section
variable {prog : Program} {w : World} {A : Around} {E : Value → Shared → Prop} {s : Shared}
theorem zip_tt_item {z TI TO i1 i2 l1 l2 : Addr} {k : Nat} {xs ys : Array Value} {x y a b : Value} {Q : Option Value → Shared → Prop} (D : ZipApart z TI TO i1 i2 l1 l2)
    (hz : IsZip s.heap z TI TO .none) (hTI : IsPair s.heap TI (.ref i1) (.ref i2)) (hTO : IsPair s.heap TO a b)
    (h1 : s.heap.IsTupleIter i1 l1 k) (h2 : s.heap.IsTupleIter i2 l2 k) (hl1 : s.heap.IsTuple l1 xs) (hl2 : s.heap.IsTuple l2 ys) (hx : xs[k]? = some x) (hy : ys[k]? = some y)
    (hQ : ∀ h', IsZip h' z TI TO (rawInt s.heap.objs.size) → IsPair h' TO x y → h'.IsTupleIter i1 l1 (k + 1) → h'.IsTupleIter i2 l2 (k + 1) → IsPair h' s.heap.objs.size x y → h'.objs.size = s.heap.objs.size + 1 →
      (∀ c o, c ≠ z → c ≠ TO → c ≠ i1 → c ≠ i2 → s.heap.get? c = some o → h'.get? c = some o) → Q (some (.ref s.heap.objs.size)) { s with heap := h' }) :
    wpAny (model prog w) A (pyNext (.ref z)) Q E s := by
  have hT : s.TypeIs (.ref z) "zip" := ⟨_, hz, rfl⟩
  unfold pyNext
  refine wpAny_bind (wpAny_attempt (wpAny_callSpecial?_slot (name := Str.ofString "__next__") hT F.slot_zip_next (wpAny_call_entry F.slot_zip_next hT F.entry_zip_next ?_ (F.args_zip_next_1 _))))
  show wpAny _ _ (field (.ref z) 2 >>= _) _ _ _
  refine wpAny_bind (wpAny_field hz rfl (x := .bool false) rfl ?_)
  show wpAny _ _ (field (.ref z) 3 >>= _) _ _ _
  refine wpAny_bind (wpAny_field hz rfl (x := .ref TI) rfl (wpAny_bind (wpAny_seqItems hTI rfl ?_)))
  show wpAny _ _ (Builtin.SmallTypes.ownedTupleIsFree (.ref z) >>= _) _ _ _
  refine wpAny_bind ?_
  unfold Builtin.SmallTypes.ownedTupleIsFree
  refine wpAny_bind (wpAny_field hz rfl (x := .none) rfl (wpAny_pure ?_))
  simp only [if_true]
  refine wpAny_bind (wpAny_rule (wpAny_bind (wpAny_field hz rfl (x := .ref TO) rfl (wpAny_bind (wpAny_setField_rec hz (by simp) fun g1 z1 s1 => ?_)))))
  replace z1 : IsZip g1 z TI TO .ellipsis := z1
  refine wpAny_bind ?_
  simp only [List.zipIdx_cons, List.zipIdx_nil, List.forIn_cons, List.forIn_nil]
  refine wpAny_bind (wpAny_bind (wpAny_onRaise ?_))
  show wpAny _ _ (Builtin.SmallTypes.nextOf (.ref i1) >>= _) _ _ _
  refine wpAny_bind (nx_tup (h1.extBut s1.extBut D.i1z) (hl1.extBut s1.extBut D.l1z) hx fun g2 q1 s2 => wpAny_pure ?_)
  have o2 : IsPair g2 TO a b := s2.extBut _ _ D.TOi1 (s1.extBut _ _ D.TOz hTO)
  refine wpAny_bind (wpAny_seqItems o2 rfl (wpAny_bind (wpAny_updateSeq_pair o2 fun g3 o3 s3 => ?_)))
  replace o3 : IsPair g3 TO x b := o3
  refine wpAny_bind (wpAny_letGo (wpAny_pure (wpAny_bind (wpAny_bind (wpAny_onRaise ?_)))))
  show wpAny _ _ (Builtin.SmallTypes.nextOf (.ref i2) >>= _) _ _ _
  refine wpAny_bind (nx_tup (((h2.extBut s1.extBut D.i2z).extBut s2.extBut D.i12.symm).extBut s3.extBut D.TOi2.symm) (((hl2.extBut s1.extBut D.l2z).extBut s2.extBut D.l2i1).extBut s3.extBut D.l2TO) hy fun g4 q2 s4 => wpAny_pure ?_)
  have o4 : IsPair g4 TO x b := s4.extBut _ _ D.TOi2 o3
  refine wpAny_bind (wpAny_seqItems o4 rfl (wpAny_bind (wpAny_updateSeq_pair o4 fun g5 o5 s5 => ?_)))
  replace o5 : IsPair g5 TO x y := o5
  refine wpAny_bind (wpAny_letGo (wpAny_pure (wpAny_pure (wpAny_bind (wpAny_seqItems o5 rfl (wpAny_bind (wpAny_newTuple ?_)))))))
  have hsz : g5.objs.size = s.heap.objs.size := by rw [s5.1, s4.1, s3.1, s2.1, s1.1]
  have z5 : IsZip g5 z TI TO .ellipsis := s5.extBut _ _ D.TOz.symm (s4.extBut _ _ D.i2z.symm (s3.extBut _ _ D.TOz.symm (s2.extBut _ _ D.i1z.symm z1)))
  have k5 : ∀ c o, c ≠ z → c ≠ TO → c ≠ i1 → c ≠ i2 → s.heap.get? c = some o → g5.get? c = some o := fun c o c1 c2 c3 c4 e => s5.extBut _ _ c2 (s4.extBut _ _ c4 (s3.extBut _ _ c2 (s2.extBut _ _ c3 (s1.extBut _ _ c1 e))))
  have p1 : g5.IsTupleIter i1 l1 (k + 1) := ((q1.extBut s3.extBut D.TOi1.symm).extBut s4.extBut D.i12).extBut s5.extBut D.TOi1.symm
  have p2 : g5.IsTupleIter i2 l2 (k + 1) := q2.extBut s5.extBut D.TOi2.symm
  have zlt : z < g5.objs.size := Heap.lt_size z5
  show wpAny _ _ (Builtin.SmallTypes.ownedTupleHandOut (.ref z) (.ref g5.objs.size) >>= _) _ _ _
  refine wpAny_bind ?_
  unfold Builtin.SmallTypes.ownedTupleHandOut
  have z6 : IsZip (g5.push { cls := .type "tuple", data := .seq #[x, y] }) z TI TO .ellipsis := Heap.get?_push_of_some _ z5
  refine wpAny_bind (wpAny_setField_rec z6 (by simp) fun g7 z7 s7 => ?_)
  replace z7 : IsZip g7 z TI TO (rawInt g5.objs.size) := z7
  refine wpAny_setField_rec z7 (by simp) fun g8 z8 s8 => ?_
  replace z8 : IsZip g8 z TI TO (rawInt g5.objs.size) := z8
  have up : ∀ c o, c ≠ z → g5.get? c = some o → g8.get? c = some o := fun c o c1 e => s8.extBut _ _ c1 (s7.extBut _ _ c1 (Heap.get?_push_of_some _ e))
  have t8 : IsPair g8 g5.objs.size x y := s8.extBut _ _ (Nat.ne_of_gt zlt) (s7.extBut _ _ (Nat.ne_of_gt zlt) (Heap.get?_push_size _ rfl))
  have n8 : g8.objs.size = g5.objs.size + 1 := by rw [s8.1, s7.1, Heap.size_push]
  rw [hsz] at z8 t8 n8
  refine wpAny_pure ⟨_, rfl, wpAny_pure ?_⟩
  show Q (some (.ref g5.objs.size)) _
  rw [hsz]
  exact hQ g8 z8 (up _ _ D.TOz o5) (p1.at fun o e => up _ o D.i1z e) (p2.at fun o e => up _ o D.i2z e) t8 n8 fun c o c1 c2 c3 c4 e => up c o c1 (k5 c o c1 c2 c3 c4 e)
end
abbrev zB (h : Heap) (t l : Addr) : Heap := (zA h t).push { cls := .type "tuple_iterator", data := .fields #[.ref l, .int 0 0] }
abbrev zC (h : Heap) (t l : Addr) : Heap := (zB h t l).push { cls := .type "tuple", data := .seq #[.ref h.objs.size, .ref (zA h t).objs.size] }
abbrev zD (h : Heap) (t l : Addr) : Heap := (zC h t l).push { cls := .type "tuple", data := .seq #[.none, .none] }
abbrev zE (h : Heap) (t l : Addr) : Heap := (zD h t l).push { cls := .type "zip", data := .fields #[.none, .bool false, .bool false, .ref (zB h t l).objs.size, .ref (zC h t l).objs.size] }
theorem meets_zip_tt (t l : Addr) (xs ys : Array Value) :
    Meets (Builtin.«zip.__new__» ⟨[.type "zip", .ref t, .ref l], []⟩) (fun _ R s => s.heap.IsTuple t xs ∧ s.heap.IsTuple l ys ∧ R (.ok (.ret (.ref (zD s.heap t l).objs.size))) { s with heap := zE s.heap t l }) :=
  .of_wp fun prog w A R s h => by
    obtain ⟨hp, g, d, tk, os⟩ := s
    obtain ⟨ht, hl, h⟩ := h
    have hsub := sub_zip
    have hT : Heap.IsTuple (Shared.heap ⟨hp, g, d, tk, os⟩) t xs := ht
    have hL : Heap.IsTuple (Shared.heap ⟨hp.push { cls := .type "tuple_iterator", data := .fields #[.ref t, .int 0 0] }, g, d, tk, os⟩) l ys := hl.at fun o e => Heap.get?_push_of_some _ e
    wp_walk using wpAny_pyIter_tuple hT, wpAny_pyIter_tuple hL
    exact ⟨_, rfl, h⟩
theorem call_zip_tt {prog : Program} {w : World} {A : Around} {E : Value → Shared → Prop} {s : Shared} {t l : Addr} {xs ys : Array Value} {Q : Value → Shared → Prop} (ht : s.heap.IsTuple t xs) (hl : s.heap.IsTuple l ys)
    (h : ∀ h', IsZip h' (s.heap.objs.size + 4) (s.heap.objs.size + 2) (s.heap.objs.size + 3) .none → IsPair h' (s.heap.objs.size + 2) (.ref s.heap.objs.size) (.ref (s.heap.objs.size + 1)) → IsPair h' (s.heap.objs.size + 3) .none .none →
      h'.IsTupleIter s.heap.objs.size t 0 → h'.IsTupleIter (s.heap.objs.size + 1) l 0 → (∀ c o, s.heap.get? c = some o → h'.get? c = some o) → Q (.ref (s.heap.objs.size + 4)) { s with heap := h' }) :
    wpAny (model prog w) A (call (.type "zip") [.ref t, .ref l]) Q E s := by
  refine callType_new F.called_zip (by decide) (F.typeCall_zip_2 _ _) (F.newCall_zip_2 _ _) (fun obj => F.args_object_init_3 obj _ _) F.entry_zip_new (meets_zip_tt t l xs ys) ⟨ht, hl, ?_⟩
  have e1 : (zA s.heap t).objs.size = s.heap.objs.size + 1 := Heap.size_push ..
  have e2 : (zB s.heap t l).objs.size = s.heap.objs.size + 2 := by rw [Heap.size_push, e1]
  have e3 : (zC s.heap t l).objs.size = s.heap.objs.size + 3 := by rw [Heap.size_push, e2]
  have e4 : (zD s.heap t l).objs.size = s.heap.objs.size + 4 := by rw [Heap.size_push, e3]
  have up4 : ∀ {c o}, (zD s.heap t l).get? c = some o → (zE s.heap t l).get? c = some o := fun e => Heap.get?_push_of_some _ e
  have up3 : ∀ {c o}, (zC s.heap t l).get? c = some o → (zE s.heap t l).get? c = some o := fun e => up4 (Heap.get?_push_of_some _ e)
  have up2 : ∀ {c o}, (zB s.heap t l).get? c = some o → (zE s.heap t l).get? c = some o := fun e => up3 (Heap.get?_push_of_some _ e)
  have up1 : ∀ {c o}, (zA s.heap t).get? c = some o → (zE s.heap t l).get? c = some o := fun e => up2 (Heap.get?_push_of_some _ e)
  have g5 : (zE s.heap t l).get? (zD s.heap t l).objs.size = some _ := Heap.get?_push_size _ rfl
  have g4 : (zE s.heap t l).get? (zC s.heap t l).objs.size = some _ := up4 (Heap.get?_push_size _ rfl)
  have g3 : (zE s.heap t l).get? (zB s.heap t l).objs.size = some _ := up3 (Heap.get?_push_size _ rfl)
  have g2 : (zE s.heap t l).get? (zA s.heap t).objs.size = some _ := up2 (Heap.get?_push_size _ rfl)
  have g1 : (zE s.heap t l).get? s.heap.objs.size = some _ := up1 (Heap.get?_push_size _ rfl)
  show _ ∧ _
  rw [e4, e2, e3] at g5
  rw [e2, e1] at g3
  rw [e3] at g4
  rw [e1] at g2
  rw [e4]
  exact ⟨⟨_, g5, rfl⟩, h _ g5 g3 g4 ⟨_, g1, rfl, rfl⟩ ⟨_, g2, rfl, rfl⟩ fun c o x => up1 (Heap.get?_push_of_some _ x)⟩
/-- the pairs of the tuple at a and the list at b -/
def Itz (K : PySem.W.Frag) (a b : Addr) : It :=
  ⟨fun i H => ∃ xs ys x y, SqT K H a xs ∧ SqT K H b ys ∧ xs[i]? = some x ∧ ys[i]? = some y,
   fun i H v H' => ∃ T, H T = none ∧ v = .ref T ∧ ∀ xs ys, SqT K H a xs → SqT K H b ys → ∃ x y, xs[i]? = some x ∧ ys[i]? = some y ∧ H' = upd H T (.tup [x, y]),
   fun i H => ∃ xs, SqT K H a xs ∧ xs.length ≤ i⟩
def tnz (z TI TO i1 i2 a b : Addr) (i : Nat) (h : Heap) : Prop := IsZip h z TI TO .none ∧ IsPair h TI (.ref i1) (.ref i2) ∧ (∃ u v, IsPair h TO u v) ∧ h.IsTupleIter i1 a i ∧ h.IsTupleIter i2 b i
theorem turn_zip {P : Program} {w : World} {K : PySem.W.Frag} {es : List Expr} {k : Nat} {pos : Pos} {z TI TO i1 i2 a b : Addr} (D : ZipApart z TI TO i1 i2 a b) :
    Turn P w K (.Tuple es k pos) (Itz K a b) [z, TI, TO, i1, i2] z (tnz z TI TO i1 i2 a b) where
  mem := by simp
  obj := fun i h st c hc => by
    obtain ⟨s1, s2, ⟨u, v, s3⟩, ⟨o4, s4, c4, d4⟩, ⟨o5, s5, c5, d5⟩⟩ := st
    simp only [List.mem_cons, List.not_mem_nil, or_false] at hc
    rcases hc with e | e | e | e | e <;> subst e
    · exact ⟨_, s1, fun v q => by cases q⟩
    · exact ⟨_, s2, fun v q => by cases q⟩
    · exact ⟨_, s3, fun v q => by cases q⟩
    · exact ⟨_, s4, fun v q => by rw [d4] at q; cases q⟩
    · exact ⟨_, s5, fun v q => by rw [d5] at q; cases q⟩
  keep := fun i h h' st kp => by
    obtain ⟨s1, s2, ⟨u, v, s3⟩, s4, s5⟩ := st
    exact ⟨kp z (by simp) _ s1, kp TI (by simp) _ s2, ⟨u, v, kp TO (by simp) _ s3⟩, s4.at fun o e => kp i1 (by simp) o e, s5.at fun o e => kp i2 (by simp) o e⟩
  item := by
    intro X hP hw hK hc i pins s σ H E I hf st hg
    subst hP hw hK
    obtain ⟨s1, s2, ⟨u, v, s3⟩, s4, s5⟩ := st
    obtain ⟨xs, ys, x, y, hxs, hys, hx, hy⟩ := hg
    obtain ⟨its, rv, p, _⟩ := I.tuple hxs
    obtain ⟨jts, rw', q, _⟩ := I.tuple hys
    obtain ⟨ux, hux, rx⟩ := rv.get hx
    obtain ⟨uy, huy, ry⟩ := rw'.get hy
    refine zip_tt_item D s1 s2 s3 s4 s5 (show s.heap.IsTuple a its.toArray from p) (show s.heap.IsTuple b jts.toArray from q) (x := ux) (y := uy) (by simpa using hux) (by simpa using huy) fun h1 g1 g2 g3 g4 g5 g6 kp => ?_
    refine ⟨_, rfl, ?_⟩
    refine wpAny_letOwnedTupleGo_zip g1 fun h2 e1 sb => ?_
    have ne : ∀ c, c ∈ [z, TI, TO, i1, i2] → c ≠ s.heap.objs.size := fun c hc' e => by
      obtain ⟨f0, f1, f2, f3, f4, f5⟩ := hf c hc'
      have : ∃ o, s.heap.get? c = some o := by
        simp only [List.mem_cons, List.not_mem_nil, or_false] at hc'
        rcases hc' with q | q | q | q | q <;> subst q
        · exact ⟨_, s1⟩
        · exact ⟨_, s2⟩
        · exact ⟨_, s3⟩
        · exact let ⟨o, h, _⟩ := s4; ⟨o, h⟩
        · exact let ⟨o, h, _⟩ := s5; ⟨o, h⟩
      obtain ⟨o, ho⟩ := this
      exact absurd (Heap.lt_size ho) (by rw [e]; exact Nat.lt_irrefl _)
    have hT : H s.heap.objs.size = none := I.hok.fresh (Nat.le_refl _)
    have kept : ∀ c o, c ∉ [z, TO, i1, i2] → s.heap.get? c = some o → h2.get? c = some o := fun c o hc' e =>
      sb.extBut _ _ (fun q => hc' (by simp [q])) (kp c o (fun q => hc' (by simp [q])) (fun q => hc' (by simp [q])) (fun q => hc' (by simp [q])) (fun q => hc' (by simp [q])) e)
    have inF : ∀ c, c ∈ [z, TO, i1, i2] → c ∈ [z, TI, TO, i1, i2] := fun c hc' => by
      simp only [List.mem_cons, List.not_mem_nil, or_false] at hc' ⊢
      rcases hc' with q | q | q | q <;> simp [q]
    have trk : ∀ c o, H c = some o → c ∉ [z, TO, i1, i2] := fun c o e hc' => by
      have := (hf c (inF c hc')).1
      rw [e] at this; cases this
    have newT : h2.get? s.heap.objs.size = some { cls := .type "tuple", data := .seq #[ux, uy] } := sb.extBut _ _ (Ne.symm (ne z (by simp))) g5
    have hok2 : HOk X.prog X.w (upd H s.heap.objs.size (.tup [x, y])) h2 := fun c o e => by
      by_cases hb : c = s.heap.objs.size
      · subst hb
        rw [upd_same] at e
        cases e
        exact ⟨by show 2 ≤ sizeLine; decide, [ux, uy], .cons rx (.cons ry .nil), _, newT, rfl, _, rfl⟩
      · rw [upd_ne hb] at e
        refine (I.hok c o e).stay (fun d v hd q => kept d v ?_ q) (fun d q => by rw [upd_ne (ne_of_none q hT)]; exact q) fun d l q => by rw [upd_ne (ne_of_none q hT)]; exact q
        rcases hd with e' | e'
        · rw [e']; exact trk c o e
        · exact trk d _ e'
    have I2 : Inv X pins σ (upd H s.heap.objs.size (.tup [x, y])) { s with heap := h2 } := by
      refine I.step (g' := s.gens) (d' := s.drawn) (t' := s.toks) (ch := [z, TO, i1, i2]) (fun c hc' => ?_) (fun c o _ _ hn e _ => kept c o hn e) (fun c o _ _ hn e _ => ⟨o.slots, kept c o hn e⟩)
        (fun c o _ e n => by rw [upd_ne (Nat.ne_of_lt (Heap.lt_size e))]; exact n) (fun c o hn e => ⟨o, kept c o hn e⟩) (fun c l e => by rw [upd_ne (ne_of_none e hT)]; exact e) (fun c o l e => by rw [upd_ne (ne_of_none e hT)]; exact e)
        (fun c l e => ⟨#[], by rw [upd_ne (ne_of_none e hT), e]; simp⟩) (fun m hm => ?_) hok2 I.bare
      · obtain ⟨f0, f1, f2, f3, f4, f5⟩ := hf c (inF c hc')
        exact ⟨f3, f1, f4, f5⟩
      · obtain ⟨o, es', ep, ho, r⟩ := hm
        refine ⟨o, es', ep, kept _ o (fun hc' => ?_) ho, r⟩
        exact (hf _ (inF _ hc')).2.1 rfl
    refine ⟨.ref s.heap.objs.size, _, I2, rfl, ⟨s.heap.objs.size, hT, rfl, fun xs' ys' e1' e2' => ⟨x, y, ?_, ?_, rfl⟩⟩, ⟨e1, ?_, ?_, ?_, ?_⟩, fun c hc' => ?_⟩
    · rw [I.tuple_inj e1' hxs]; exact hx
    · rw [I.tuple_inj e2' hys]; exact hy
    · exact sb.extBut _ _ D.TIz (kp _ _ D.TIz D.TITO D.TIi1 D.TIi2 s2)
    · exact ⟨_, _, sb.extBut _ _ D.TOz g2⟩
    · exact g3.extBut sb.extBut D.i1z
    · exact g4.extBut sb.extBut D.i2z
    · rw [upd_ne (ne c hc')]
      exact (hf c hc').1
  done := by
    intro X hP hw hK hc i pins s σ H E I hf st hg
    subst hP hw hK
    obtain ⟨s1, s2, ⟨u, v, s3⟩, s4, s5⟩ := st
    obtain ⟨xs, hxs, hlen⟩ := hg
    obtain ⟨its, rv, p, _⟩ := I.tuple hxs
    have hl := rv.length
    refine L2.zip_tl_end (I.ok.hd hc) D s1 s2 s3 s4 (show s.heap.IsTuple a its.toArray from p) (by simp; omega) fun h' kp => ⟨rfl, ?_⟩
    refine I.step (h' := h') (H' := H) (g' := s.gens) (d' := s.drawn) (t' := s.toks) (ch := [z, i1]) (fun c hc' => ?_) (fun c o _ _ hn e _ => kp c o (fun q => hn (by simp [q])) (fun q => hn (by simp [q])) e)
      (fun c o _ _ hn e _ => ⟨o.slots, kp c o (fun q => hn (by simp [q])) (fun q => hn (by simp [q])) e⟩) (fun c o _ e n => n) (fun c o hn e => ⟨o, kp c o (fun q => hn (by simp [q])) (fun q => hn (by simp [q])) e⟩)
      (fun _ _ e => e) (fun _ _ _ e => e) (fun c l e => ⟨#[], by rw [e]; simp⟩) (fun m hm => ?_) (fun c o e => ?_) I.bare
    · have : c ∈ [z, TI, TO, i1, i2] := by
        simp only [List.mem_cons, List.not_mem_nil, or_false] at hc' ⊢
        rcases hc' with q | q <;> simp [q]
      obtain ⟨f0, f1, f2, f3, f4, f5⟩ := hf c this
      exact ⟨f3, f1, f4, f5⟩
    · obtain ⟨o, es', ep, ho, r⟩ := hm
      exact ⟨o, es', ep, kp _ o (Ne.symm (hf z (by simp)).2.1) (Ne.symm (hf i1 (by simp)).2.1) ho, r⟩
    · have nn : ∀ d v c', c' ∈ [z, TI, TO, i1, i2] → H d = some v → d ≠ c' := fun d v c' hc' q e' => by
        have := (hf c' hc').1
        rw [← e', q] at this
        cases this
      have nz : ∀ d v, H d = some v → d ≠ z ∧ d ≠ i1 := fun d v q => ⟨nn d v z (by simp) q, nn d v i1 (by simp) q⟩
      refine (I.hok c o e).stay (fun d v hd q => ?_) (fun _ q => q) fun _ _ q => q
      rcases hd with e' | e'
      · rw [e'] at q ⊢; exact kp c v (nz c o e).1 (nz c o e).2 q
      · exact kp d v (nz d _ e').1 (nz d _ e').2 q
  self := fun _ _ _ _ _ st h => wpAny_pyIter_zip st.1 h
section
variable {X : Cx}
def iZip (K : PySem.W.Frag) (t : TA) : TI := fun σ H R => t σ H fun vs H1 => ∃ a b xs ys, vs = [.ref a, .ref b] ∧ SqT K H1 a xs ∧ SqT K H1 b ys ∧ R (Itz K a b) H1
theorem pi_zip {es : List Expr} {k : Nat} {tp : Pos} {a b : Expr} {ta : TA} {p pos : Pos} (hg : Gl X "zip") (hm : X.mg "zip" = none) (ha : PA X [a, b] ta) (hs : starEach [a, b] X.env = [(false, eval a X.env), (false, eval b X.env)] := by rfl) (hs2 : starEach [b] X.env = [(false, eval b X.env)] := by rfl) :
    PI X (.Tuple es k tp) (.Call (.Name "zip" p) [a, b] [] pos) (iZip X.K ta) := by
  intro pins s σ H R I h
  refine Call_ (ld_blt I hg hm boot_zip (PyProof.Rows.callWith_type1 (thn (ha pos pins s σ H _ I h) fun us s1 ⟨vs, H1, I1, r1, q1⟩ => ?_) (by rw [hs, hs2]) (by rw [hs2]; rfl)))
  obtain ⟨x, y, xs, ys, e, hx, hy, q⟩ := q1
  subst e
  obtain ⟨u, v, rfl, ru, rv⟩ := vals2 r1
  cases ru
  cases rv
  obtain ⟨its, _, p1, _⟩ := I1.tuple hx
  obtain ⟨jts, _, p2, _⟩ := I1.tuple hy
  refine call_zip_tt (show s1.heap.IsTuple x its.toArray from p1) (show s1.heap.IsTuple y jts.toArray from p2) fun h' z1 z2 z3 z4 z5 kp => ?_
  refine wpAny_pyIter_zip z1 ?_
  have lx : x < s1.heap.objs.size := by obtain ⟨_, e, _⟩ := (show s1.heap.IsTuple x its.toArray from p1); exact Heap.lt_size e
  have ly : y < s1.heap.objs.size := by obtain ⟨_, e, _⟩ := (show s1.heap.IsTuple y jts.toArray from p2); exact Heap.lt_size e
  refine ⟨_, _, _, _, H1, rfl, I1.kept (t' := s1.toks) kp, turn_zip (zipApart_new lx ly), ⟨z1, z2, ⟨_, _, z3⟩, z4, z5⟩, fun c hc => ?_, q⟩
  have hle : s1.heap.objs.size ≤ c := by
    simp only [List.mem_cons, List.not_mem_nil, or_false] at hc
    rcases hc with q | q | q | q | q <;> subst q
    · exact Nat.le_add_right _ 4
    · exact Nat.le_add_right _ 2
    · exact Nat.le_add_right _ 3
    · exact Nat.le_refl _
    · exact Nat.le_add_right _ 1
  exact I1.fpOk hle (I1.hok.fresh hle)
end
end L2.ZT

set_option Elab.async false
set_option linter.all false
set_option maxRecDepth 100000
/-! enumerate of a list, walked. -/
namespace L2.EL
open PySem PySem.Spec PyProof.Rows L2
abbrev zL (h : Heap) (l : Addr) : Heap := h.push { cls := .type "list_iterator", data := .fields #[.ref l, .int 0 0] }
theorem meets_enum_lst (t : Addr) (its : Array Value) :
    Meets (Builtin.«enumerate.__new__» ⟨[.type "enumerate", .ref t], []⟩) (fun _ R s => s.heap.IsList t its ∧
      R (.ok (.ret (.ref (zL s.heap t).objs.size))) { s with heap := (zL s.heap t).push { cls := .type "enumerate", data := .fields #[.none, .bool false, .ref s.heap.objs.size, rawInt 0, .none, .none] } }) :=
  .of_wp fun prog w A R s h => by
    obtain ⟨hp, g, d, tk, os⟩ := s
    obtain ⟨ht, h⟩ := h
    have hsub := sub_enumerate
    have hT : Heap.IsList (Shared.heap ⟨hp, g, d, tk, os⟩) t its := ht
    wp_walk
    refine wpAny_stack_any fun st => wpAny_pure ?_
    split
    · rename_i c _ _ _ _ _
      cases (c == Value.type "enumerate")
      · wp_walk using wpAny_pyIter_list hT
        exact ⟨_, rfl, h⟩
      · wp_walk using wpAny_pyIter_list hT
        exact ⟨_, rfl, h⟩
    · wp_walk using wpAny_pyIter_list hT
      exact ⟨_, rfl, h⟩
theorem call_enum_lst {prog : Program} {w : World} {A : Around} {E : Value → Shared → Prop} {s : Shared} {t : Addr} {its : Array Value} {Q : Value → Shared → Prop} (ht : s.heap.IsList t its)
    (h : ∀ h', IsEnum h' (s.heap.objs.size + 1) s.heap.objs.size 0 .none → h'.IsListIter s.heap.objs.size t 0 → (∀ c o, s.heap.get? c = some o → h'.get? c = some o) → Q (.ref (s.heap.objs.size + 1)) { s with heap := h' }) :
    wpAny (model prog w) A (call (.type "enumerate") [.ref t]) Q E s := by
  refine callType_new F.called_enumerate (by decide) (F.typeCall_enumerate_1 _) (F.newCall_enumerate_1 _) (fun obj => F.args_object_init_2 obj _) F.entry_enumerate_new (meets_enum_lst t its) ⟨ht, ?_⟩
  have e1 : (zL s.heap t).objs.size = s.heap.objs.size + 1 := Heap.size_push ..
  have g2 := Heap.get?_push_size (zL s.heap t) (o := { cls := .type "enumerate", data := .fields #[.none, .bool false, .ref s.heap.objs.size, rawInt 0, .none, .none] }) rfl
  have g1 := Heap.get?_push_of_some { cls := .type "enumerate", data := .fields #[.none, .bool false, .ref s.heap.objs.size, rawInt 0, .none, .none] } (Heap.get?_push_size s.heap (o := { cls := .type "list_iterator", data := .fields #[.ref t, .int 0 0] }) rfl)
  show _ ∧ _
  rw [e1] at g2 ⊢
  exact ⟨⟨_, g2, rfl⟩, h _ g2 ⟨_, g1, rfl, rfl⟩ fun c o x => Heap.get?_push_of_some _ (Heap.get?_push_of_some _ x)⟩
/-- the numbers and items of the tuple at a -/
def Ite (K : PySem.W.Frag) (a : Addr) : It :=
  ⟨fun i H => ∃ xs x, SqL K H a xs ∧ xs[i]? = some x,
   fun i H v H' => ∃ T, H T = none ∧ v = .ref T ∧ ∀ xs, SqL K H a xs → ∃ x, xs[i]? = some x ∧ H' = upd H T (.tup [.int i, x]),
   fun i H => ∃ xs, SqL K H a xs ∧ xs.length ≤ i⟩
def tne (e it a : Addr) (i : Nat) (h : Heap) : Prop := (∃ old, IsEnum h e it i old) ∧ h.IsListIter it a i
theorem turn_enum {P : Program} {w : World} {K : PySem.W.Frag} {es : List Expr} {k : Nat} {pos : Pos} {e it a : Addr} (nei : e ≠ it) (nea : e ≠ a) (nai : a ≠ it) :
    Turn P w K (.Tuple es k pos) (Ite K a) [e, it] e (tne e it a) where
  mem := by simp
  obj := fun i h st c hc => by
    obtain ⟨⟨old, s1⟩, ⟨o4, s4, c4, d4⟩⟩ := st
    simp only [List.mem_cons, List.not_mem_nil, or_false] at hc
    rcases hc with z | z <;> subst z
    · exact ⟨_, s1, fun v q => by cases q⟩
    · exact ⟨_, s4, fun v q => by rw [d4] at q; cases q⟩
  keep := fun i h h' st kp => by
    obtain ⟨⟨old, s1⟩, s4⟩ := st
    exact ⟨⟨old, kp e (by simp) _ s1⟩, s4.at fun o z => kp it (by simp) o z⟩
  item := by
    intro X hP hw hK hc i pins s σ H E I hf st hg
    subst hP hw hK
    obtain ⟨⟨old, s1⟩, s4⟩ := st
    obtain ⟨xs, x, hxs, hx⟩ := hg
    obtain ⟨its, rv, p, _⟩ := I.list hxs
    obtain ⟨ux, hux, rx⟩ := rv.get hx
    have hlt : i < its.toArray.size := by
      have := (List.getElem?_eq_some_iff.mp hux).1
      simpa using this
    have D := Draws.list (prog := X.prog) (w := X.w) (A := X.A.in1) (I.ok.hd hc) it a nai its.toArray
    refine wpAny_pyNext_enum_itemD D s1 ⟨s4, p.isList⟩ hlt nei (by simp [nei, nea]) fun u h1 tk hu g1 g3 g5 g6 kp => ?_
    have eu : u = ux := by
      have hu : its.toArray[i]? = some u := hu
      rw [List.getElem?_toArray, hux] at hu
      exact (Option.some.inj hu).symm
    subst eu
    refine ⟨_, rfl, ?_⟩
    refine wpAny_letOwnedTupleGo_enum g1 fun h2 e1 sb => ?_
    have live : ∀ c, c ∈ [e, it] → ∃ o, s.heap.get? c = some o := fun c hc' => by
      simp only [List.mem_cons, List.not_mem_nil, or_false] at hc'
      rcases hc' with q | q <;> subst q
      · exact ⟨_, s1⟩
      · exact let ⟨o, h, _⟩ := s4; ⟨o, h⟩
    have ne : ∀ c, c ∈ [e, it] → c ≠ s.heap.objs.size := fun c hc' z => by
      obtain ⟨o, ho⟩ := live c hc'
      exact absurd (Heap.lt_size ho) (by rw [z]; exact Nat.lt_irrefl _)
    have hT : H s.heap.objs.size = none := I.hok.fresh (Nat.le_refl _)
    have kept : ∀ c o, c ∉ [e, it] → s.heap.get? c = some o → h2.get? c = some o := fun c o hc' z =>
      sb.extBut _ _ (fun q => hc' (by simp [q])) (kp c o (fun q => hc' (by simp [q])) (fun q => hc' (by simp [q])) z)
    have trk : ∀ c o, H c = some o → c ∉ [e, it] := fun c o z hc' => by
      have := (hf c hc').1
      rw [z] at this; cases this
    have newT : h2.get? s.heap.objs.size = some { cls := .type "tuple", data := .seq #[.int i tk, u] } := sb.extBut _ _ (Ne.symm (ne e (by simp))) g5
    have hok2 : HOk X.prog X.w (upd H s.heap.objs.size (.tup [.int i, x])) h2 := fun c o z => by
      by_cases hb : c = s.heap.objs.size
      · subst hb
        rw [upd_same] at z
        cases z
        exact ⟨by show 2 ≤ sizeLine; decide, [.int i tk, u], .cons ⟨tk, rfl⟩ (.cons rx .nil), _, newT, rfl, _, rfl⟩
      · rw [upd_ne hb] at z
        refine (I.hok c o z).stay (fun d v hd q => kept d v ?_ q) (fun d q => by rw [upd_ne (ne_of_none q hT)]; exact q) fun d l q => by rw [upd_ne (ne_of_none q hT)]; exact q
        rcases hd with e' | e'
        · rw [e']; exact trk c o z
        · exact trk d _ e'
    have I2 : Inv X pins σ (upd H s.heap.objs.size (.tup [.int i, x])) { s with heap := h2, toks := tk + 1 } := by
      refine I.step (g' := s.gens) (d' := s.drawn) (t' := tk + 1) (ch := [e, it]) (fun c hc' => ?_) (fun c o _ _ hn z _ => kept c o hn z) (fun c o _ _ hn z _ => ⟨o.slots, kept c o hn z⟩)
        (fun c o _ z n => by rw [upd_ne (Nat.ne_of_lt (Heap.lt_size z))]; exact n) (fun c o hn z => ⟨o, kept c o hn z⟩) (fun c l z => by rw [upd_ne (ne_of_none z hT)]; exact z) (fun c o l z => by rw [upd_ne (ne_of_none z hT)]; exact z)
        (fun c l z => ⟨#[], by rw [upd_ne (ne_of_none z hT), z]; simp⟩) (fun m hm => ?_) hok2 I.bare
      · obtain ⟨f0, f1, f2, f3, f4, f5⟩ := hf c hc'
        exact ⟨f3, f1, f4, f5⟩
      · obtain ⟨o, es', ep, ho, r⟩ := hm
        refine ⟨o, es', ep, kept _ o (fun hc' => ?_) ho, r⟩
        exact (hf _ hc').2.1 rfl
    refine ⟨.ref s.heap.objs.size, _, I2, rfl, ⟨s.heap.objs.size, hT, rfl, fun xs' e1' => ⟨x, ?_, rfl⟩⟩, ⟨⟨u, ?_⟩, ?_⟩, fun c hc' => ?_⟩
    · rw [I.list_inj e1' hxs]; exact hx
    · have := e1
      rw [show (((i + 1 : Nat) : Int)) = (i : Int) + 1 by omega]
      exact this
    · exact g3.1.extBut sb.extBut nei.symm
    · rw [upd_ne (ne c hc')]
      exact (hf c hc').1
  done := by
    intro X hP hw hK hc i pins s σ H E I hf st hg
    subst hP hw hK
    obtain ⟨⟨old, s1⟩, s4⟩ := st
    obtain ⟨xs, hxs, hlen⟩ := hg
    obtain ⟨its, rv, p, _⟩ := I.list hxs
    have hl := rv.length
    have hT : s.TypeIs (.ref e) "enumerate" := ⟨_, s1, rfl⟩
    have fin : ∀ h', Heap.ExtBut it s.heap h' → Inv X pins σ H { s with heap := h' } := fun h' kp => by
      obtain ⟨f0, f1, f2, f3, f4, f5⟩ := hf it (by simp)
      exact I.turned (t' := s.toks) (fun b o hb z => kp b o hb z) f0 f1 f3 f4 f5
    unfold pyNext
    refine wpAny_bind (wpAny_attempt (wpAny_callSpecial?_slot (name := Str.ofString "__next__") hT F.slot_enumerate_next (wpAny_call_entry F.slot_enumerate_next hT F.entry_enumerate_next ?_ (F.args_enumerate_next_1 _))))
    show wpAny _ _ (field (.ref e) 2 >>= _) _ _ _
    refine wpAny_bind (wpAny_field s1 rfl (x := .ref it) rfl ?_)
    refine wpAny_bind (wpAny_nextOf_list_end (I.ok.hd hc) s4 p.isList (by simp; omega) fun h' x he' hx' => ?_)
    obtain ⟨o, ho, hcx⟩ := hx'
    refine wpAny_bind (wpAny_isInstance (T := "StopIteration") (b := true) ⟨o, ho, hcx⟩ isSubtype_stop (wpAny_pure ⟨rfl, fin h' he'⟩))
  self := fun _ _ _ _ _ st h => wpAny_pyIter_enum st.1.choose_spec h
section
variable {X : Cx}
def iEnum (K : PySem.W.Frag) (t : TA) : TI := fun σ H R => t σ H fun vs H1 => ∃ a xs, vs = [.ref a] ∧ SqL K H1 a xs ∧ R (Ite K a) H1
theorem pi_enum {es : List Expr} {k : Nat} {tp : Pos} {a : Expr} {ta : TA} {p pos : Pos} (hg : Gl X "enumerate") (hm : X.mg "enumerate" = none) (ha : PA X [a] ta) (hs : starEach [a] X.env = [(false, eval a X.env)] := by rfl) :
    PI X (.Tuple es k tp) (.Call (.Name "enumerate" p) [a] [] pos) (iEnum X.K ta) := by
  intro pins s σ H R I h
  refine Call_ (ld_blt I hg hm boot_enumerate (PyProof.Rows.callWith_type1 (thn (ha pos pins s σ H _ I h) fun us s1 ⟨vs, H1, I1, r1, q1⟩ => ?_) hs rfl))
  obtain ⟨x, xs, e, hx, q⟩ := q1
  subst e
  obtain ⟨u, rfl, ru⟩ := vals1 r1
  cases ru
  obtain ⟨its, _, p1, _⟩ := I1.list hx
  refine call_enum_lst p1.isList fun h' z1 z4 kp => ?_
  refine wpAny_pyIter_enum z1 ?_
  have lx : x < s1.heap.objs.size := by obtain ⟨_, e, _⟩ := p1.isList; exact Heap.lt_size e
  refine ⟨_, _, _, _, H1, rfl, I1.kept (t' := s1.toks) kp, turn_enum (e := s1.heap.objs.size + 1) (it := s1.heap.objs.size) (a := x) (Nat.succ_ne_self _) (Nat.ne_of_gt (Nat.lt_succ_of_lt lx)) (Nat.ne_of_lt lx), ⟨⟨_, z1⟩, z4⟩, fun c hc => ?_, q⟩
  have hle : s1.heap.objs.size ≤ c := by
    simp only [List.mem_cons, List.not_mem_nil, or_false] at hc
    rcases hc with q | q <;> subst q
    · exact Nat.le_add_right _ 1
    · exact Nat.le_refl _
  exact I1.fpOk hle (I1.hok.fresh hle)
end
end L2.EL

set_option Elab.async false
set_option linter.all false
set_option maxRecDepth 100000
/-! sum of ints; sorted of two pairs of ints. -/
namespace L2
open PySem PySem.Spec PyProof.Rows PySem.Calls
section
variable {X : Cx}
theorem call_sumL (hc : X.calm = true) : CallR X (.builtin "sum") (fun xs H Q => ∃ (p : Addr) (ns : List Int), xs = [.ref p] ∧ (SqL X.K H p (ns.map V.int) ∨ SqT X.K H p (ns.map V.int)) ∧ Q (.int ns.sum) H) := by
  intro pins s σ H xs us Q I r h
  obtain ⟨p, ns, rfl, hq, q⟩ := h
  obtain ⟨u, rfl, ru⟩ := vals1 r
  cases ru
  have go : ∀ its : List Value, Vals (ns.map V.int) its → ∃ zs : Array (Int × Tok), its.toArray = intItems zs ∧ preSum (numAt zs) zs.size = ns.sum := fun its rv => by
    have hi : IntsAre its ns := intsAre_of rv
    obtain ⟨zs, ez⟩ := (hi.allInts : AllInts its.toArray).items
    refine ⟨zs, ez, ?_⟩
    have en : numsOf its.toArray.toList = ns := hi.numsOf
    rw [ez, nums_intItems] at en
    rw [preSum_eq, List.take_of_length_le (by simp), en]
  rcases hq with hq | hq
  · obtain ⟨its, rv, pl, hz⟩ := I.list hq
    obtain ⟨zs, ez, es⟩ := go its rv
    refine sum_intListG (I.ok.hd hc) (ez ▸ pl.isList) fun h' tk t' hk => ?_
    rw [es]
    exact ⟨.int _, H, I.kept (t' := tk) hk, ⟨t', rfl⟩, q⟩
  · obtain ⟨its, rv, pl, hz⟩ := I.tuple hq
    obtain ⟨zs, ez, es⟩ := go its rv
    have ht : s.heap.IsTuple p its.toArray := pl
    refine PySem.W.ktm_sumG (I.ok.hd hc) (ez ▸ ht) fun h' tk t' hk => ?_
    rw [es]
    exact ⟨.int _, H, I.kept (t' := tk) hk, ⟨t', rfl⟩, q⟩
end
open PySem.W in
theorem sort2_eq : kas_sort 2 = .ask 1 0 fun c => .ret (if c = true then #[1, 0] else #[0, 1]) := by
  have h : ∀ c : Bool, ((if c = true then KasT.ret 1 else KasT.ret 2).bind fun n => (if (n == 2) = true then KasT.ret (n, #[0, 1]) else if n > 1 then .ask 0 (#[0, 1].getD (n - 1) 0) fun c => if c = true then .ret (n, #[0, 1]) else kas_descPart n 2 (kas_rev #[0, 1] 0 n) else kas_descPart n 2 #[0, 1])).bind (fun r => if r.1 < 2 then kas_bin (2 - max r.1 1) r.2 (max r.1 1) else .ret r.2) = .ret (if c = true then #[1, 0] else #[0, 1]) := by
    intro c
    cases c
    · rfl
    · rfl
  show KasT.ask 1 0 _ = _
  congr 1
  funext c
  exact h c
section
open PySem.W
variable {prog : Program} {w : World} {A : Around} {E : Value → Shared → Prop} {s : Shared}
/-- sorted(l), 2 to 63 items: the comparisons asked at one state, the new list told -/
theorem srt_raw {l : Addr} {vs : List Value} {Q : Value → Shared → Prop} (lst : s.heap.IsList l vs.toArray) (two : 2 ≤ vs.length) (few : vs.length < 64)
    (h : ∀ g, (∀ b o, s.heap.get? b = some o → g.get? b = some o) → wpAny (model prog w) A.in1.in1 (keyKind' vs.toArray) (fun κ s1 => s1 = { s with heap := g } ∧
      (kas_sort vs.length).kasWp (kas_ask prog w A.in1.in1 κ vs) (fun p s2 => s2 = { s with heap := g } ∧ ∀ h2 c, (∀ b o, s.heap.get? b = some o → h2.get? b = some o) →
        h2.get? (s.heap.objs.size + 1) = some (seqObj "list" (List.toArray (p.toList.map fun i => vs.getD i Value.none)) c) → Q (.ref (s.heap.objs.size + 1)) { s with heap := h2 }) s1) (fun _ _ => False) { s with heap := g }) :
    wpAny (model prog w) A (call (.builtin "sorted") [.ref l]) Q E s := by
  have fits : vs.length ≤ sizeLine := by rw [sizeLine_eq]; omega
  refine call_function_entry kind_sorted plain_sorted entry_sorted (args_sorted1 _) ?_
  unfold Builtin.«sorted»
  refine wpAny_bind (m := checkCount "sorted" 1 1 _) (wpAny_pure (wpAny_bind (collect_list lst ?_ fits)))
  refine wpAny_bind (wpAny_newList ?_ fits)
  have size1 : ((s.heap.push (seqObj "list" #[] 0)).update s.heap.objs.size (Obj.mapSeq (· ++ vs.toArray))).objs.size = s.heap.objs.size + 1 := by rw [Heap.size_update, Heap.size_push]
  obtain ⟨g1, eg1⟩ : ∃ g1, g1 = ((s.heap.push (seqObj "list" #[] 0)).update s.heap.objs.size (Obj.mapSeq (· ++ vs.toArray))).push (seqObj "list" vs.toArray 0) := ⟨_, rfl⟩
  have at1 : g1.get? (s.heap.objs.size + 1) = some (seqObj "list" vs.toArray 0) := by rw [eg1, ← size1]; exact Heap.get?_push_size _ rfl
  have kp1 : ∀ b o, s.heap.get? b = some o → g1.get? b = some o := fun b o q => by
    have lt : b < s.heap.objs.size := Heap.lt_size q
    rw [eg1, Heap.get?_push_ne _ _ _ (by rw [size1]; exact Nat.ne_of_lt (Nat.lt_succ_of_lt lt)), Heap.get?_update_ne _ _ _ _ (Nat.ne_of_lt lt), Heap.get?_push_ne _ _ _ (Nat.ne_of_lt lt)]
    exact q
  show wpAny _ _ _ _ _ { s with heap := _ }
  rw [size1, show ((s.heap.push (seqObj "list" #[] 0)).update s.heap.objs.size (Obj.mapSeq (· ++ vs.toArray))).push (seqObj "list" vs.toArray 0) = g1 from eg1.symm]
  refine wpAny_bind (wpAny_holding (wpAny_call_entry slot_list_sort ⟨_, at1, rfl⟩ entry_list_sort ?body (args_list_sort _)))
  obtain ⟨D, eD⟩ : ∃ D, D = s.heap.objs.size + 1 := ⟨_, rfl⟩
  rw [← eD] at at1 h ⊢
  have apart : ∀ b o, s.heap.get? b = some o → b ≠ D := fun b o q e => by
    have lt : b < s.heap.objs.size := Heap.lt_size q
    rw [e, eD] at lt
    exact absurd lt (Nat.not_lt_of_le (Nat.le_succ _))
  obtain ⟨g2, eg2⟩ : ∃ g2, g2 = g1.update D (Obj.mapSeq fun _ => (#[] : Array Value)) := ⟨_, rfl⟩
  have sb2 : Heap.SameBut D g1 g2 := eg2 ▸ Heap.SameBut.update g1 D _
  obtain ⟨e1, at2⟩ : ∃ e1, g2.get? D = some (seqObj "list" #[] e1) := ⟨_, eg2 ▸ get?_update_seq at1 fun _ => #[]⟩
  obtain ⟨g3, eg3⟩ : ∃ g3, g3 = (g2.push (seqObj "tuple" vs.toArray 0)).push (seqObj "list" #[] 0) := ⟨_, rfl⟩
  have at3 : g3.get? D = some (seqObj "list" #[] e1) := eg3 ▸ Heap.get?_push_of_some _ (Heap.get?_push_of_some _ at2)
  have kp3 : ∀ b o, s.heap.get? b = some o → g3.get? b = some o := fun b o q => eg3 ▸ Heap.get?_push_of_some _ (Heap.get?_push_of_some _ ((sb2.2 b (apart b o q)).trans (kp1 b o q)))
  rw [list_sort_plain]
  refine wpAny_bind (listItems_at at1 rfl (wpAny_bind (listUpdate_at at1 rfl ?_ (by rw [List.size_toArray]; exact fits) (Nat.zero_le _))))
  rw [← eg2]
  refine wpAny_bind (seqEpoch_at at2 rfl (wpAny_bind (wpAny_newTuple (wpAny_bind (wpAny_newList (wpAny_holding ?_) (Nat.zero_le _))) fits)))
  show wpAny (model prog w) A.in1.in1 _ _ _ { s with heap := (g2.push (seqObj "tuple" vs.toArray 0)).push (seqObj "list" #[] 0) }
  rw [← eg3]
  dsimp only
  have not2 : ¬ vs.toArray.size < 2 := by rw [List.size_toArray]; omega
  rw [if_neg not2, if_neg not2]
  refine wpAny_bind (wpAny_mono (h g3 kp3) (fun κ s1 ⟨es1, run⟩ => ?_) fun _ _ x => x.elim)
  subst es1
  refine wpAny_bind (wpAny_mono (kat_run (Q := fun st s2 => ∃ p : Array Nat, p.size = vs.length ∧ arrOf st = p.map (kas_item (vs.toArray.zip vs.toArray)) ∧ failedOf st = none ∧ s2 = { s with heap := g3 } ∧ ∀ h2 c, (∀ b o, s.heap.get? b = some o → h2.get? b = some o) →
        h2.get? D = some (seqObj "list" (List.toArray (p.toList.map fun i => vs.getD i Value.none)) c) → Q (.ref D) { s with heap := h2 }) rfl two few (fun p st s2 a1 a2 a3 a4 => ⟨p, a1, a2, a3, a4⟩) run) ?_ fun _ _ x => x)
  rintro ⟨⟨⟩, st⟩ s2 ⟨p, ep, ear, efl, es2, q⟩
  subst es2
  dsimp only
  rw [kat_snds rfl ear]
  have len : (List.toArray (p.toList.map fun i => vs.getD i Value.none)).size = vs.length := by rw [List.size_toArray, List.length_map, Array.length_toList, ep]
  refine wpAny_bind (seqEpoch_at at3 rfl (wpAny_bind (listUpdate_at at3 rfl ?_ (Nat.zero_le _) (by rw [len]; omega))))
  rw [efl]
  simp only [bne_self_eq_false, Bool.false_eq_true, if_false]
  have sb4 := Heap.SameBut.update g3 D (Obj.mapSeq fun _ => List.toArray (p.toList.map fun i => vs.getD i Value.none))
  exact wpAny_pure ⟨_, rfl, wpAny_pure ⟨_, rfl, q _ _ (fun b o z => (sb4.2 b (apart b o z)).trans (kp3 b o z)) (get?_update_seq at3 _)⟩⟩
/-- x < y of two pairs of ints, as the sort asks it -/
theorem lt_pair {x y : Addr} {ox oy : Obj} {nx ny : Nat} {i j k m : Int} {ti tj tk tm : Tok} {Q : Bool → Shared → Prop} (hx : s.heap.get? x = some ox) (dx : ox.data = .seq #[.int i ti, .int j tj] nx) (hy : s.heap.get? y = some oy) (dy : oy.data = .seq #[.int k tk, .int m tm] ny)
    (h : Q (HT.lexLt [i, j] [k, m]) s) : wpAny (model prog w) A (keyLt' (tuples' true) (.ref x) (.ref y)) Q E s := by
  refine kat_lt hx dx hy dy ?_
  show KatLex prog w A true _ Q [(.int i ti, .int k tk), (.int j tj, .int m tm)] 0 s
  refine kat_cons (wpAny_eqBool_int ?_)
  by_cases e : i = k
  · subst e
    rw [show (i == i) = true from beq_self_eq_true i]
    refine kat_yes (kat_cons (wpAny_eqBool_int ?_))
    by_cases e2 : j = m
    · subst e2
      rw [show (j == j) = true from beq_self_eq_true j]
      refine kat_yes (kat_nil ?_)
      have z : HT.lexLt [i, j] [i, j] = false := by simp [HT.lexLt]
      rw [z] at h
      exact h
    · rw [show (j == m) = false from beq_false_of_ne e2]
      refine kat_no (kat_one _ _ (lt_int ?_))
      have z : HT.lexLt [i, j] [i, m] = decide (j < m) := by simp [HT.lexLt, e2]
      rw [z] at h
      exact h
  · rw [show (i == k) = false from beq_false_of_ne e]
    refine kat_no ?_
    show wpAny _ _ (oneLt' true _ _) _ _ _
    refine oneLt_int ?_
    have z : HT.lexLt [i, j] [k, m] = decide (i < k) := by simp [HT.lexLt, e]
    rw [z] at h
    exact h
end
section
variable {X : Cx}
theorem call_sorted2 : CallR X (.builtin "sorted") (fun xs H Q => ∃ (p a b : Addr) (i j k m : Int), xs = [.ref p] ∧ SqL X.K H p [.ref a, .ref b] ∧ SqT X.K H a [.int i, .int j] ∧ SqT X.K H b [.int k, .int m] ∧
    ∀ q, H q = none → Q (.ref q) (upd H q (.lst (if HT.lexLt [k, m] [i, j] = true then [.ref b, .ref a] else [.ref a, .ref b])))) := by
  intro pins s σ H xs us Q I r h
  obtain ⟨p, a, b, i, j, k, m, rfl, hp, ha, hb, q⟩ := h
  obtain ⟨u, rfl, ru⟩ := vals1 r
  cases ru
  obtain ⟨its, rv, pl, hz⟩ := I.list hp
  obtain ⟨u1, u2, rfl, r1, r2⟩ := vals2 rv
  cases r1
  cases r2
  obtain ⟨as, ra, pa, _⟩ := I.tuple ha
  obtain ⟨_, _, rfl, ⟨t1, rfl⟩, ⟨t2, rfl⟩⟩ := vals2 ra
  obtain ⟨bs, rb, pb, _⟩ := I.tuple hb
  obtain ⟨_, _, rfl, ⟨t3, rfl⟩, ⟨t4, rfl⟩⟩ := vals2 rb
  obtain ⟨oa, ga, ca, na, da⟩ := pa
  obtain ⟨ob, gb, cb, nb, db⟩ := pb
  refine srt_raw pl.isList (Nat.le_refl 2) (show 2 < 64 by decide) fun g kp => ?_
  refine PySem.W.kat_kind (T := .type "int") (fs := [.int i t1, .int k t3]) (.cons (kp _ _ ga) ca da rfl (.cons (kp _ _ gb) cb db rfl .nil)) (Nat.zero_lt_succ 1) (fun v hv => ?_) (by decide) ⟨rfl, ?_⟩
  · simp only [List.mem_cons, List.not_mem_nil, or_false] at hv
    rcases hv with rfl | rfl
    · exact .now
    · exact .now
  show (PySem.W.kas_sort 2).kasWp _ _ _
  rw [sort2_eq]
  show wpAny _ _ (keyLt' (tuples' true) (.ref b) (.ref a)) _ _ _
  refine lt_pair (s := { s with heap := g }) (kp _ _ gb) db (kp _ _ ga) da ⟨rfl, fun h2 c kp2 at2 => ?_⟩
  refine ⟨.ref (s.heap.objs.size + 1), _, I.laid (t' := s.toks) kp2 (Nat.le_succ _) (show ObjOk X.prog X.w _ h2 _ (.lst (if HT.lexLt [k, m] [i, j] = true then [.ref b, .ref a] else [.ref a, .ref b])) from ?_), rfl, q _ (I.hok.fresh (Nat.le_succ _))⟩
  cases e : HT.lexLt [k, m] [i, j]
  · rw [e] at at2
    exact ⟨by show 2 ≤ sizeLine; decide, [.ref a, .ref b], c, .cons rfl (.cons rfl .nil), at2⟩
  · rw [e] at at2
    exact ⟨by show 2 ≤ sizeLine; decide, [.ref b, .ref a], c, .cons rfl (.cons rfl .nil), at2⟩
end
end L2

set_option Elab.async false
set_option linter.all false
set_option maxRecDepth 100000
/-! a comprehension whose own name is a cell (a block inside captures it). -/
namespace L2
open PySem PySem.Spec PyProof.Rows
structure CScopeD (X : Cx) (scope : Scope) (x₀ : Str) : Prop where
  kind : scope.kind = .function
  only : scope.names.all (fun p => p.2 != .cell || p.1 == x₀) = true
  names : scope.names.all (fun p => p.2 != .local || scope.names.lookup p.1 == some .local) = true
  free : scope.names.all (fun p => p.2 != .free || (X.env.cells.lookup p.1).isSome) = true
  cf : ∀ n acc, cellsFrom n scope.names acc = (x₀, n) :: acc
  pc : ∀ h, pushCells h scope.names = h.push { cls := .type "cell", data := .cell none }
theorem CScopeD.hnames {X : Cx} {scope : Scope} {x₀ : Str} (S : CScopeD X scope x₀) : ∀ p ∈ scope.names, p.2 = .local → scope.names.lookup p.1 = some .local := fun p hp e => by
  have := List.all_eq_true.mp S.names p hp
  simpa [e] using this
theorem CScopeD.hfree {X : Cx} {scope : Scope} {x₀ : Str} (S : CScopeD X scope x₀) : ∀ p ∈ scope.names, p.2 = NameKind.free → (X.env.cells.lookup p.1).isSome = true := fun p hp e => by
  have := List.all_eq_true.mp S.free p hp
  simpa [e] using this
theorem relabel_memD {scope : Scope} {env : Env} {x x₀ : Str} {k : NameKind} (hc : scope.names.all (fun p => p.2 != .cell || p.1 == x₀) = true) (hx : x ≠ x₀) (h : (relabel scope env).names.lookup x = some k) (hk : k = .cell ∨ k = .free) : ∃ k', (x, k') ∈ scope.names ∧ k' = NameKind.free := by
  obtain ⟨⟨n, k0⟩, hm, e⟩ := List.mem_map.mp (mem_of_lookup h)
  dsimp only at e
  split at e
  · rename_i c
    cases e
    have : (k0 == NameKind.free) = true := by
      cases q : (k0 == NameKind.free) with
      | true => rfl
      | false => rw [q] at c; simp at c
    exact ⟨k0, hm, by simpa using this⟩
  · cases e
    rcases hk with z | z
    · have := List.all_eq_true.mp hc _ hm
      rw [z] at this
      exact absurd (by simpa using this) hx
    · exact ⟨_, hm, z⟩
theorem nfe_cell {M : Model} {A : Around} {E : Value → Shared → Prop} {s : Shared} {scope : Scope} {globals : Addr} {closure : List (Str × Addr)} {qual x₀ : Str} {outer : Env} {Q : Env → Shared → Prop} (cf : ∀ n acc, cellsFrom n scope.names acc = (x₀, n) :: acc)
    (pc : ∀ h, pushCells h scope.names = h.push { cls := .type "cell", data := .cell none })
    (hQ : ∀ h', h'.Ns s.heap.objs.size (fun _ => none) → (∀ b o, s.heap.get? b = some o → h'.get? b = some o) → h'.IsCell (s.heap.objs.size + 1) none →
      Q { scope, locals := s.heap.objs.size, globals, cells := (x₀, s.heap.objs.size + 1) :: closure, qual, func := none, code := outer.code, frame := outer.frame, builtins := outer.builtins } { s with heap := h' }) :
    wpAny M A (newFunctionEnv scope globals closure [] qual none .none (some outer)) Q E s := by
  simp only [newFunctionEnv, Option.isSome_some, if_true]
  refine wpAny_bind (wpAny_alloc (wpAny_bind (wpAny_layCells _ (fun name kind cells => by cases q : kind == NameKind.cell <;> simp [q]) _ _ _ _ ?_)))
  rw [cf]
  dsimp only
  rw [pc, Heap.size_push]
  refine wpAny_bind ?_
  rw [List.forIn_nil]
  refine wpAny_pure (wpAny_pure (hQ _ ((Heap.Ns.new s.heap (.type "dict")).keeps fun b o e => Heap.get?_push_of_some _ e) (fun b o e => Heap.get?_push_of_some _ (Heap.get?_push_of_some _ e)) ?_))
  have := Heap.get?_push_size (s.heap.push { cls := .type "dict", data := .dict #[] }) (o := { cls := .type "cell", data := .cell none }) rfl
  rw [Heap.size_push] at this
  exact ⟨_, this, rfl⟩
def cxD (X : Cx) (scope : Scope) (x₀ : Str) (Nc : List Str) (C : Addr) (fp : List Addr) (pins : List (Addr × Obj)) (s₂ : Shared) (H₂ : Hp) : Cx :=
  { cxC X scope Nc C fp pins s₂ H₂ with env := compEnvC scope ((x₀, C + 1) :: clOf X.env.cells scope.names []) C X.env, fn := fun y => y == x₀ }
theorem comp_coreD {X : Cx} {x₀ : Str} {tg iter elt : Expr} {ifs : List Expr} {scope : Scope} {pos : Pos} {Nc : List Str} {src : List (Option Nat)} {g : TG} {tt : TT} {te : TE} (hc : X.calm = true) (S : CScopeD X scope x₀)
    (hcaps : ∀ C, Caps X (compEnvC scope ((x₀, C + 1) :: clOf X.env.cells scope.names []) C X.env) Nc src)
    (hb : ∀ C fp pins s₂ H₂, PG (cxD X scope x₀ Nc C fp pins s₂ H₂) tg g ∧ PTs (cxD X scope x₀ Nc C fp pins s₂ H₂) ifs tt ∧ PE (cxD X scope x₀ Nc C fp pins s₂ H₂) elt te)
    {pins : List (Addr × Obj)} {s₂ : Shared} {σ : St} {H₂ : Hp} {it : Addr} {fp : List Addr} {tn : Nat → Heap → Prop} {J : It} (I₂ : Inv X pins σ H₂ s₂) (T : Turn X.prog X.w X.K tg J fp it tn) (st : tn 0 s₂.heap) (hf : ∀ b ∈ fp, FpOk X pins H₂ b)
    {Fin : List V → Hp → Prop} (hW : CompW J g tt te Fin (capσ σ src) H₂) {RR : Value → Addr → Result → Shared → Prop} {E : Value → Shared → Prop}
    (hRR : ∀ D C s' ys H' m, Fin ys H' → H' D = none → Inv X pins σ (upd H' D (.lst ys)) s' → s'.heap.Ns C m → FpOk X pins (upd H' D (.lst ys)) C → RR (.ref D) C (.ok .next) s') :
    wpAny (model X.prog X.w) X.A (newList []) (fun acc s₃ => wpAny (model X.prog X.w) X.A (newFunctionEnv scope X.env.globals (clOf X.env.cells scope.names []) [] X.env.qual none .none (some X.env)) (fun cenv s₄ =>
      codeAny (model X.prog X.w) X.A (.compStart (.ListComp elt [⟨tg, iter, ifs, 0⟩] scope pos) 0 (.ref it) acc { cenv with scope := relabel scope X.env }) (RR acc cenv.locals) s₄) E s₃) E s₂ := by
  refine wpAny_newObj_type (nfe_cell S.cf S.pc (fun h₁ hns₁ hk₁ hc₁ => ?_))
  dsimp only at hns₁ hk₁ hc₁ ⊢
  generalize hH2 : s₂.heap.push { cls := .type "list", dict := none, data := .seq ([] : List Value).toArray } = HH at hns₁ hk₁ hc₁ ⊢
  generalize hDD : s₂.heap.objs.size = D at hns₁ hk₁ hc₁ ⊢
  have hC : HH.objs.size = D + 1 := by rw [← hH2, Heap.size_push, hDD]
  generalize hCC : HH.objs.size = C at hns₁ hk₁ hc₁ hC ⊢
  have hDC : D ≠ C := by omega
  have below : ∀ b, b < s₂.heap.objs.size → b ≠ C ∧ b ≠ D := fun b hb => by rw [hDD] at hb; exact ⟨by rw [hC]; exact Nat.ne_of_lt (Nat.lt_succ_of_lt hb), Nat.ne_of_lt hb⟩
  have belowO : ∀ {b o}, s₂.heap.get? b = some o → b ≠ C ∧ b ≠ D := fun {b o} e => below b (Heap.lt_size e)
  have old : ∀ b o, s₂.heap.get? b = some o → h₁.get? b = some o := fun b o e => hk₁ b o (hH2 ▸ Heap.get?_push_of_some _ e)
  have hacc : h₁.get? D = some { cls := .type "list", data := .seq ([] : List Value).toArray } := hk₁ _ _ (hH2 ▸ hDD ▸ Heap.get?_push_size _ rfl)
  have fpO : ∀ b ∈ fp, ∃ o, s₂.heap.get? b = some o := fun b hb => let ⟨o, e, _⟩ := T.obj _ _ st b hb; ⟨o, e⟩
  have fpC : ∀ b ∈ fp, b ≠ C ∧ b ≠ D := fun b hb => let ⟨o, e⟩ := fpO b hb; belowO e
  have sub : ∀ {x c}, ((x₀, C + 1) :: clOf X.env.cells scope.names []).lookup x = some c → X.env.cells.lookup x = some c ∨ (x = x₀ ∧ c = C + 1) := fun {x c} e => by
    rw [List.lookup_cons] at e
    cases q : x == x₀ with
    | true =>
      rw [q] at e
      injection e with e
      exact .inr ⟨eq_of_beq q, e.symm⟩
    | false =>
      rw [q] at e
      rcases clOf_sub scope.names [] S.hfree e with z | z
      · simp at z
      · exact .inl z
  have ltD : ∀ {b o}, s₂.heap.get? b = some o → b < D := fun {b o} e => by rw [← hDD]; exact Heap.lt_size e
  have fresh : ∀ a, D ≤ a → H₂ a = none := fun a ha => I₂.hok.fresh (by rw [hDD]; exact ha)
  have cellO : ∀ {x c}, X.env.cells.lookup x = some c → ∃ o, s₂.heap.get? c = some o := fun {x c} e => let ⟨v, o, ho, _⟩ := I₂.cell x c e; ⟨o, ho⟩
  have stkC : ∀ b ∈ frs X.stack, ∃ o, s₂.heap.get? b = some o := fun b hb => by
    rcases List.mem_cons.mp (I₂.stkSub b hb) with e | hb
    · rw [e]
      obtain ⟨m, ⟨o, _, _, ho, _⟩, _⟩ := I₂.loc
      exact ⟨o, ho⟩
    · obtain ⟨_, o, ho, _⟩ := I₂.funs.mem hb
      exact ⟨o, ho⟩
  have nstk : ∀ a, D ≤ a → a ∉ frs X.stack := fun a ha hb => by
    obtain ⟨o, e⟩ := stkC a hb
    exact absurd (Nat.lt_of_lt_of_le (ltD e) ha) (Nat.lt_irrefl _)
  have fpS : ∀ b ∈ fp, b ∉ frs X.stack := fun b hb z => by
    obtain ⟨_, f1, f2, _⟩ := hf b hb
    rcases List.mem_cons.mp (I₂.stkSub b z) with e | e
    · exact f1 e
    · exact f2 e
  have newC : ∀ {x c}, X.env.cells.lookup x = some c → c ≠ C + 1 := fun {x c} e z => by
    obtain ⟨o, ho⟩ := cellO e
    have := ltD ho
    rw [z, hC] at this
    exact absurd this (Nat.not_lt_of_le (Nat.le_trans (Nat.le_succ _) (Nat.le_succ _)))
  have fpX : ∀ b ∈ fp, ∀ x c, ((x₀, C + 1) :: clOf X.env.cells scope.names []).lookup x = some c → c ≠ b := fun b hb x c e => by
    rcases sub e with z | ⟨_, z⟩
    · exact (hf b hb).2.2.2.2.1 x c z
    · obtain ⟨o, ho⟩ := fpO b hb
      have := ltD ho
      intro q
      rw [← q, z, hC] at this
      exact absurd this (Nat.not_lt_of_le (Nat.le_trans (Nat.le_succ _) (Nat.le_succ _)))
  -- the block's context
  generalize hX' : cxD X scope x₀ Nc C fp pins s₂ H₂ = X'
  obtain ⟨hg, ht, he⟩ := hb C fp pins s₂ H₂
  rw [hX'] at hg ht he
  have ok' : X'.Ok := by
    subst hX'
    refine ⟨I₂.ok.mod, S.kind, I₂.ok.glob, I₂.ok.blt, ?_, ?_, ?_, ?_, I₂.ok.hd, I₂.ok.frames, .inl rfl, ?_, I₂.bs, Nat.le_trans I₂.ok.bsz I₂.sz, ?_, fpS, I₂.stack, I₂.stkFree⟩
    · show s₂.heap.objs.size ≤ C
      omega
    · intro x y c e1 e2
      rcases sub e1 with z1 | ⟨z1, w1⟩
      · rcases sub e2 with z2 | ⟨z2, w2⟩
        · exact I₂.ok.inj x y c z1 z2
        · exact absurd w2 (newC z1)
      · rcases sub e2 with z2 | ⟨z2, w2⟩
        · exact absurd w1 (newC z2)
        · rw [z1, z2]
    · intro x hx
      have hx : (relabel scope X.env).names.lookup x = some .cell ∨ (relabel scope X.env).names.lookup x = some .free := hx
      show ∃ c, ((x₀, C + 1) :: clOf X.env.cells scope.names []).lookup x = some c
      rw [List.lookup_cons]
      cases q : x == x₀ with
      | true => exact ⟨_, rfl⟩
      | false =>
        have : ∃ k', (x, k') ∈ scope.names ∧ k' = NameKind.free := by
          rcases hx with z | z
          · exact relabel_memD S.only (fun w => by rw [w, beq_self_eq_true] at q; cases q) z (.inl rfl)
          · exact relabel_memD S.only (fun w => by rw [w, beq_self_eq_true] at q; cases q) z (.inr rfl)
        exact clOf_has scope.names [] (.inl this)
    · intro x c z e
      have z : x = x₀ := eq_of_beq z
      rcases sub e with w | ⟨_, w⟩
      · have e : ((x₀, C + 1) :: clOf X.env.cells scope.names []).lookup x = some c := e
        rw [z, List.lookup_cons, beq_self_eq_true] at e
        injection e with e
        show s₂.heap.objs.size ≤ c
        rw [← e, hDD, hC]
        exact Nat.le_trans (Nat.le_succ _) (Nat.le_succ _)
      · show s₂.heap.objs.size ≤ c
        rw [w, hDD, hC]
        exact Nat.le_trans (Nat.le_succ _) (Nat.le_succ _)
    · intro b hb
      exact ⟨(fpC b hb).1, fun x c e => fpX b hb x c e⟩
    · intro b o e hb
      obtain ⟨_, _, _, f3, _⟩ := hf b hb
      rcases f3 with z | z
      · exact I₂.ok.noex b o e z
      · exact absurd (Nat.lt_of_lt_of_le (Heap.lt_size (I₂.ok.bs b o e).1) z) (Nat.lt_irrefl _)
  have eP : X'.prog = X.prog := by subst hX'; rfl
  have ew : X'.w = X.w := by subst hX'; rfl
  have eK : X'.K = X.K := by subst hX'; rfl
  have eA : X'.A = X.A := by subst hX'; rfl
  have eE : X'.xe = fun _ _ => False := by subst hX'; rfl
  have eL : X'.env.locals = C := by subst hX'; rfl
  have eN : X'.env = compEnvC scope ((x₀, C + 1) :: clOf X.env.cells scope.names []) C X.env := by subst hX'; rfl
  have ec : X'.calm = true := by subst hX'; exact hc
  have eS : X'.s₀ = s₂ := by subst hX'; rfl
  have eH : X'.H₀ = H₂ := by subst hX'; rfl
  have ef : X'.fs = frs X.stack := by subst hX'; rfl
  have ex : X'.ex = fp := by subst hX'; rfl
  have ep : X'.pn = X.pn ++ pins := by subst hX'; rfl
  have I0 : Inv X' [] (capσ σ src) H₂ { s₂ with heap := h₁, toks := s₂.toks } := by
    refine ⟨ok', by rw [eS], I₂.bare, by rw [eS, eH]; exact Un.kept old, ⟨_, by rw [eL]; exact hns₁, ?_⟩, ?_, by rw [eL]; exact fresh _ (by omega), ?_, ?_, by rw [eP, ew]; exact I₂.hok.kept old, ?_⟩
    · intro j x v e1 e2 e3
      have e1 : Nc[j]? = some x := by subst hX'; exact e1
      have e4 : ∃ i, src[j]? = some (some i) ∧ (σ[i]?).join = some v := by
        unfold capσ at e2
        rw [List.getElem?_map] at e2
        cases q : src[j]? with
        | none => rw [q] at e2; cases e2
        | some o =>
          rw [q] at e2
          cases o with
          | none => simp at e2
          | some i => exact ⟨i, rfl, by simpa using e2⟩
      obtain ⟨i, e5, e6⟩ := e4
      obtain ⟨c1, c2, c3, c4⟩ := (hcaps C).get e1 e5
      have e7 : σ[i]? = some (some v) := by
        cases q : σ[i]? with
        | none => rw [q] at e6; simp at e6
        | some o => rw [q] at e6; simp at e6; rw [e6]
      obtain ⟨m, _, hl⟩ := I₂.loc
      obtain ⟨u, r, l⟩ := hl i x v c1 e7 (.inr (by rcases c2 with z | z; exact .inl z; exact .inr z))
      refine ⟨u, r, ?_⟩
      rcases l with ⟨k, _⟩ | ⟨_, c, e, z⟩
      · rcases c2 with c2 | c2 <;> (rw [k] at c2; cases c2)
      · refine .inr ⟨by rw [eN]; exact c4, c, by rw [eN]; exact c3.trans e, ?_⟩
        obtain ⟨o, ho, hd⟩ := z
        exact ⟨o, old c o ho, hd⟩
    · intro x c e
      rw [eN] at e
      rcases sub e with z | ⟨_, z⟩
      · obtain ⟨v, o, ho, hd⟩ := I₂.cell x c z
        exact ⟨v, o, old c o ho, hd⟩
      · rw [z]
        exact ⟨none, hc₁⟩
    · intro x c e
      rw [eN] at e
      rcases sub e with z | ⟨_, z⟩
      · exact I₂.freeC x c z
      · rw [z]
        exact fresh _ (by rw [hC]; exact Nat.le_trans (Nat.le_succ _) (Nat.le_succ _))
    · intro p hp
      rw [ep, List.append_nil] at hp
      obtain ⟨e, n, ne, nf, d⟩ := I₂.pin p hp
      refine ⟨old _ _ e, n, by rw [eL]; exact (belowO e).1, ?_, d⟩
      rw [ef]
      intro z
      rcases List.mem_cons.mp (I₂.stkSub _ z) with q | q
      · exact ne q
      · exact nf q
    · have := (hcaps C).len
      subst hX'
      show (capσ σ src).length = Nc.length
      unfold capσ
      rw [List.length_map, this]
  -- the iterator's objects, the collected list
  have pnD : ∀ p ∈ X'.pn, p.1 ≠ D := fun p hp => by
    rw [ep] at hp
    exact (belowO (I₂.pin p hp).1).2
  have cellD : ∀ x c, X'.env.cells.lookup x = some c → c ≠ D := fun x c e => by
    rw [eN] at e
    rcases sub e with z | ⟨_, z⟩
    · obtain ⟨o, ho⟩ := cellO z
      exact (belowO ho).2
    · rw [z, hC]
      exact Nat.ne_of_gt (Nat.lt_succ_of_lt (Nat.lt_succ_self _))
  have fpk : ∀ {P : List (Addr × Obj)} {H : Hp}, (∀ p ∈ P, p.1 = D) → (∀ b ∈ fp, H b = none) → ∀ b ∈ fp, FpOk X' P H b := fun {P H} hP hn b hb => by
    refine ⟨hn b hb, by rw [eL]; exact (fpC b hb).1, by rw [ef]; exact fpS b hb, .inl (by rw [ex]; exact hb), fun x c e => ?_, fun p hp => ?_⟩
    · rw [eN] at e
      exact fpX b hb x c e
    · rcases List.mem_append.mp hp with z | z
      · rw [ep] at z
        exact (hf b hb).2.2.2.2.2 p z
      · rw [hP p z]
        exact (fpC b hb).2.symm
  obtain ⟨W, ⟨m0, w0⟩, step⟩ := hW
  have loop : ∀ s₃ : Shared, s₃ = { s₂ with heap := h₁, toks := s₂.toks } →
      codeAny (model X.prog X.w) X.A (.compLoop (.ListComp elt [⟨tg, iter, ifs, 0⟩] scope pos) 0 (.ref it) (.ref D) (compEnvC scope ((x₀, C + 1) :: clOf X.env.cells scope.names []) C X.env)) (RR (.ref D) C) s₃ := by
    rintro s₃ rfl
    refine compLoop_any (fun n s' => ∃ i ys us k σ' H', Inv X' [] σ' H' s' ∧ tn i s'.heap ∧ (∀ b ∈ fp, H' b = none) ∧ H' D = none ∧ s'.heap.get? D = some { cls := .type "list", data := .seq (List.toArray us) k } ∧ Vals ys us ∧ W i n ys σ' H') ?_ m0
      ⟨0, [], [], _, _, _, I0, T.keep _ _ _ st fun b _ o e => old b o e, fun b hb => (hf b hb).1, fresh _ (Nat.le_refl _), hacc, .nil, w0⟩
    rintro n s3 ⟨i, ys, us, k, σ3, H3, I3, st3, fr3, nD3, oD3, rv3, w3⟩
    obtain ⟨hsz, cases3⟩ := step i n ys σ3 H3 w3
    have I3' : Inv X' [(D, { cls := .type "list", data := .seq us.toArray k })] σ3 H3 s3 := I3.pins_of fun p hp => by
      rw [List.mem_singleton.mp hp]
      exact ⟨oD3, nD3, by rw [eL]; exact hDC, by rw [ef]; exact nstk _ (Nat.le_refl _), fun v z => by cases z⟩
    have oneD : ∀ p ∈ [(D, ({ cls := .type "list", data := .seq us.toArray k } : Obj))], p.1 = D := fun p hp => by rw [List.mem_singleton.mp hp]
    rcases cases3 with ⟨stop, fin⟩ | ⟨go, turn⟩
    · -- the end
      have hd := T.done X' eP ew eK ec i _ s3 σ3 H3 (fun _ _ => False) I3' (fpk oneD fr3) st3 stop
      rw [eA] at hd
      refine thn hd fun r s4 ⟨hr, I4⟩ => ?_
      subst hr
      have pD := I4.pin (D, { cls := .type "list", data := .seq us.toArray k }) (List.mem_append_right _ (List.mem_singleton.mpr rfl))
      obtain ⟨mC, hnC, _⟩ := I4.loc
      rw [eL] at hnC
      have un4 := I4.base
      rw [eS, eH, ef, ex] at un4
      have hlen : ys.length ≤ sizeLine := Nat.le_of_lt hsz
      have hok4 : HOk X.prog X.w (upd H3 D (.lst ys)) s4.heap := fun b u e => by
        by_cases hb : b = D
        · subst hb
          rw [upd_same] at e
          cases e
          exact ⟨hlen, us, k, rv3, pD.1⟩
        · rw [upd_ne hb] at e
          have z := I4.hok b u e
          rw [eP, ew] at z
          exact z.stay (fun c v _ q => q) (fun c q => by rw [upd_ne (ne_of_none q nD3)]; exact q) fun c xs q => by rw [upd_ne (ne_of_none q nD3)]; exact q
      have un : Un (frs X.stack) fp H₂ (upd H3 D (.lst ys)) s₂.heap s4.heap := ⟨un4.keep, un4.slot, fun b o e n hx => by rw [upd_ne (belowO e).2]; exact un4.free b o e n hx, un4.there,
        fun b xs e => by
          have z := un4.tups b xs e
          rw [upd_ne (ne_of_none z nD3)]; exact z,
        fun b o u e => by
          have z := un4.frzs b o u e
          rw [upd_ne (ne_of_none z nD3)]; exact z,
        fun b ps e => by
          obtain ⟨mo, z⟩ := un4.tbls b ps e
          exact ⟨mo, by rw [upd_ne (ne_of_none z nD3)]; exact z⟩⟩
      have J4 : Inv X pins σ (upd H3 D (.lst ys)) s4 := I₂.call' (ch := fp) (by have := I4.os; rw [eS] at this; exact this) un hok4 I4.bare fun b hb => by
        obtain ⟨_, f1, f2, f3, f4, f5⟩ := hf b hb
        exact ⟨f3, f1, f4, f5⟩
      refine hRR D C s4 ys H3 mC fin nD3 J4 hnC ⟨?_, ?_, ?_, .inr ?_, ?_, ?_⟩
      · rw [upd_ne hDC.symm]
        have := I4.free
        rw [eL] at this
        exact this
      · have := I₂.lt
        rw [hDD] at this
        exact Nat.ne_of_gt (Nat.lt_of_lt_of_le this (by rw [hC]; exact Nat.le_succ _))
      · intro z
        obtain ⟨_, o, ho, _⟩ := I₂.funs.mem z
        exact (belowO ho).1 rfl
      · have := I₂.sz
        rw [hDD] at this
        omega
      · intro x c e z
        obtain ⟨o, ho⟩ := cellO e
        exact (belowO ho).1 z
      · intro p hp z
        exact (belowO (I₂.pin p hp).1).1 z
    · -- a turn
      have hd := T.item X' eP ew eK ec i _ s3 σ3 H3 (fun _ _ => False) I3' (fpk oneD fr3) st3 go
      rw [eA] at hd
      refine thn hd fun r s4 ⟨u, hr, h4⟩ => ?_
      subst hr
      refine thn h4 fun _ s5 ⟨x, H5, I5, r5, y5, st5, fr5⟩ => ?_
      have I5' := I5.pinned (fpk oneD fr5) (T.obj _ _ st5)
      have hg' := hg _ s5 σ3 H5 x u _ I5' r5 (turn x H5 y5)
      rw [eP, ew, eA, eE, eN] at hg'
      refine thn hg' fun _ s6 ⟨σ6, H6, I6, q6⟩ => ?_
      have ht' := ht _ s6 σ6 H6 _ I6 q6
      rw [eP, ew, eA, eE, eN] at ht'
      refine thn ht' fun okb s7 ⟨H7, I7, q7⟩ => ?_
      have back : ∀ {H8 : Hp} {s8 : Shared}, Inv X' ([(D, ({ cls := .type "list", data := .seq us.toArray k } : Obj))] ++ pinsAt fp s5.heap) σ6 H8 s8 →
          Inv X' [] σ6 H8 s8 ∧ tn (i + 1) s8.heap ∧ (∀ b ∈ fp, H8 b = none) ∧ H8 D = none ∧ s8.heap.get? D = some { cls := .type "list", data := .seq us.toArray k } ∧ (∀ b ∈ fp, ∀ o, s5.heap.get? b = some o → s8.heap.get? b = some o) := fun {H8 s8} I8 => by
        have pD := I8.pin (D, { cls := .type "list", data := .seq us.toArray k }) (List.mem_append_right _ (List.mem_append_left _ (List.mem_singleton.mpr rfl)))
        have pf : ∀ b ∈ fp, ∀ o, s5.heap.get? b = some o → s8.heap.get? b = some o := fun b hb o e => (I8.pin (b, o) (List.mem_append_right _ (List.mem_append_right _ (mem_pinsAt hb e)))).1
        refine ⟨I8.pins_of fun p hp => absurd hp (by simp), T.keep _ _ _ st5 pf, fun b hb => ?_, pD.2.1, pD.1, pf⟩
        obtain ⟨o, e, d⟩ := T.obj _ _ st5 b hb
        exact (I8.pin (b, o) (List.mem_append_right _ (List.mem_append_right _ (mem_pinsAt hb e)))).2.1
      cases okb with
      | false =>
        obtain ⟨b1, b2, b3, b4, b5, _⟩ := back I7
        obtain ⟨m', hm, w7⟩ := q7
        exact ⟨m', hm, i + 1, ys, us, k, σ6, H7, b1, b2, b3, b4, b5, rv3, w7⟩
      | true =>
        have he' := he _ s7 σ6 H7 _ I7 q7
        rw [eP, ew, eA, eE, eN] at he'
        show wpAny _ _ (eval elt _) _ _ s7
        refine thn he' fun xv s8 ⟨y, H8, I8, r8, m', hm, w8⟩ => ?_
        obtain ⟨b1, b2, b3, b4, b5, b6⟩ := back I8
        refine append_at (hsz := by rw [List.size_toArray, ← rv3.length]; exact Nat.le_of_lt hsz) b5 fun h9 hs9 hD9 => ?_
        have I9 : Inv X' [] σ6 H8 { s8 with heap := h9 } := b1.turned (t' := s8.toks) (fun b o hb e => hs9.extBut b o hb e) b4 (by rw [eL]; exact hDC) (.inr (by rw [eS, hDD]; exact Nat.le_refl _)) cellD fun p hp => by
          rw [List.append_nil] at hp
          exact pnD p hp
        refine ⟨m', hm, i + 1, ys ++ [y], us ++ [xv], k + 1, σ6, H8, I9, T.keep _ _ _ b2 fun b hb o e => hs9.extBut b o (fpC b hb).2 e, b3, b4, ?_, rv3.append (.cons r8 .nil), w8⟩
        show h9.get? D = _
        rw [hD9, List.push_toArray]
  refine codeAny_compStart_list (loop _ rfl) ?_
  exact T.self _ 0 _ _ _ (T.keep _ _ _ st fun b _ o e => old b o e) (loop _ rfl)

section
variable {X : Cx} {tg iter elt : Expr} {ifs : List Expr} {scope : Scope} {pos : Pos} {Nc : List Str} {wi : TI} {g : TG} {tt : TT} {te : TE}
theorem pe_compD {x₀ : Str} (Nc : List Str) (src : List (Option Nat)) (hc : X.calm = true) (hi : PI X tg iter wi)
    (hb : ∀ C fp pins s₂ H₂, PG (cxD X scope x₀ Nc C fp pins s₂ H₂) tg g ∧ PTs (cxD X scope x₀ Nc C fp pins s₂ H₂) ifs tt ∧ PE (cxD X scope x₀ Nc C fp pins s₂ H₂) elt te)
    (hcaps : ∀ C, Caps X (compEnvC scope ((x₀, C + 1) :: clOf X.env.cells scope.names []) C X.env) Nc src) (S : CScopeD X scope x₀)
    (hs : ∀ x, foldedSetIterable iter X.env x = pure x := by intro _; rfl) : PE X (.ListComp elt [⟨tg, iter, ifs, 0⟩] scope pos) (tComp wi src g tt te) := by
  intro pins s σ H Q I h
  rw [eval_ListComp]
  refine wpAny_comprehension_free (use := none) rfl hs (clos_eq S.hfree) S.kind S.hnames ?_
  refine thn (hi pins s σ H _ I h) fun v s1 h1 => thn h1 fun itv s2 h2 => ?_
  obtain ⟨it, fp, tn, J, H2, e, I2, T, st2, f2, hW⟩ := h2
  subst e
  refine comp_coreD (RR := fun acc C => compPost (model X.prog X.w) X.A X.xe none (EP X pins σ Q) acc C) hc S hcaps hb I2 T st2 f2 hW ?_
  intro D C s' ys H' m fin nD J' hn fC
  obtain ⟨f0, f1, _, f3, f4, f5⟩ := fC
  refine ⟨m, hn, fun h'' hs'' => ?_⟩
  exact ⟨.ref D, _, J'.turned (t' := s'.toks) (fun b o hb e => hs''.extBut b o hb e) f0 f1 f3 f4 f5, rfl, fin D nD⟩
end
end L2

set_option Elab.async false
set_option linter.all false
set_option maxRecDepth 100000
namespace K62
open PySem L2
def top (i : Nat) : Stmt := PySem.Challenge.pw_woolyears_k62_a_shared_flock.main.body.getD i (.Pass ⟨0, 0, 0, 0⟩)
/-! ### what is asked of a thing -/
def wholeD (d : PyData) : Bool := isIntD d && !isBoolD d
def items : PyData → List PyData
  | .tuple ds => ds
  | _ => []
def intOf : PyData → Int
  | .int i => i
  | _ => 0
def tupOfD (d : PyData) (f m : Int) : Bool := isTupD d && (decide (f ≤ (items d).length) && decide (((items d).length : Int) ≤ m))
def wholesD (d : PyData) (n : Int) : Bool := tupOfD d n n && (items d).all wholeD
def clipD (d : PyData) : Bool := wholesD d 3 && (items d).all fun x => decide (0 ≤ intOf x) && decide (intOf x ≤ 999)
def clipsD (d : PyData) : Bool := tupOfD d 1 20 && (items d).all clipD
theorem nd1 (x : Str) : ([x] : List Str).Nodup := by simp
theorem sz_pos (d : PyData) : 1 ≤ sz d := by cases d <;> simp [sz]
theorem len_szs : ∀ (ds : List PyData), ds.length ≤ szs ds
  | [] => Nat.zero_le _
  | d :: ds => by
    have := len_szs ds
    have := sz_pos d
    simp only [List.length_cons, szs]
    omega
theorem mem_szs : ∀ {ds : List PyData} {d : PyData}, d ∈ ds → sz d ≤ szs ds
  | x :: ds, d, h => by
    simp only [szs]
    rcases List.mem_cons.mp h with e | e
    · rw [e]; omega
    · have := mem_szs e
      omega
theorem in_sz {ds : List PyData} {d : PyData} (h : d ∈ ds) (hz : sz (.tuple ds) ≤ 4000) : sz d ≤ 4000 := by
  have := mem_szs h
  simp only [sz] at hz
  omega
theorem len_line {S : Addr → Prop} {H : Hp} {xs : List V} {ds : List PyData} (r : IsThs S H xs ds) (hz : sz (.tuple ds) ≤ 4000) : xs.length < sizeLine := by
  have := len_szs ds
  have := r.length
  simp only [sz] at hz
  rw [sizeLine_eq]
  omega
/-! ### the promises -/
/-- one thing in; a truth of it out; nothing that there was is turned -/
def spT (f : PyData → Bool) : Sp := fun vs H Q _ => ∃ S v d, vs = [v] ∧ IsTh S H v d ∧ sz d ≤ 4000 ∧ ∀ H', Same H H' → Q (.bl (f d)) H'
def spT1 (f : PyData → Int → Bool) : Sp := fun vs H Q _ => ∃ S v d n, vs = [v, .int n] ∧ IsTh S H v d ∧ sz d ≤ 4000 ∧ ∀ H', Same H H' → Q (.bl (f d n)) H'
def spT2 (f : PyData → Int → Int → Bool) : Sp := fun vs H Q _ => ∃ S v d n m, vs = [v, .int n, .int m] ∧ IsTh S H v d ∧ sz d ≤ 4000 ∧ ∀ H', Same H H' → Q (.bl (f d n m)) H'
structure Mg (mg : Str → Option Value) : Prop where
  isinstance : mg "isinstance" = none
  int : mg "int" = none
  bool : mg "bool" = none
  tuple : mg "tuple" = none
  len : mg "len" = none
  all : mg "all" = none
theorem boot_int : bootBuiltins "int" = some (.type "int") := by decide +kernel
theorem boot_bool : bootBuiltins "bool" = some (.type "bool") := by decide +kernel
theorem boot_tuple : bootBuiltins "tuple" = some (.type "tuple") := by decide +kernel
theorem boot_isinstance : bootBuiltins "isinstance" = some (.builtin "isinstance") := by decide +kernel
theorem boot_all : bootBuiltins "all" = some (.builtin "all") := by decide +kernel
/-- all([.. for x in t]) of a tuple of things: read -/
theorem all_things {K : PySem.W.Frag} {S : Addr → Prop} {te : TE} {src : List (Option Nat)} {i j : Nat} {σ : St} {H : Hp} {Q : VK} {a : Addr} {xs : List V} {ds : List PyData} (f : PyData → Bool) (hσ : σ[i]? = some (some (.ref a))) (ea : H a = some (.tup xs)) (r : IsThs S H xs ds) (hl : xs.length < sizeLine)
    (hte : ∀ v d H1 Q1, d ∈ ds → Same H H1 → IsTh S H1 v d → (∀ H', Same H1 H' → Q1 (.bl (f d)) H') → te ((capσ σ src).set j (some v)) H1 Q1) (q : ∀ H', Same H H' → Q (.bl (ds.all f)) H') :
    tCB (fun xs H Q => ∃ (p : Addr) (bs : List Bool), xs = [.ref p] ∧ SqL K H p (bs.map V.bl) ∧ Q (.bl (bs.all id)) H) (tCons (tComp (iTup K (tVar i)) src (gName j) tYes te) tNil) σ H Q := by
  refine ⟨_, hσ, a, rfl, ⟨xs, SqT.of ea⟩, comp_truths (j := j) f ea r hl hte fun H2 s2 D hD => ⟨D, ds.map f, rfl, ?_, ?_⟩⟩
  · rw [← bools_of]
    exact SqL.of upd_same
  · rw [all_of]
    exact q _ (s2.updR hD)
/-- the module's numbers -/
structure Nums (mg : Str → Option Value) : Prop where
  sorts : ∃ t, mg "SORTS" = some (.int 3 t)
  clips : ∃ t, mg "MOST_CLIPS" = some (.int 20 t)
  wool : ∃ t, mg "MOST_WOOL" = some (.int 999 t)
  many : ∃ t, mg "MOST_WEIGHTS" = some (.int 80 t)
  most : ∃ t, mg "MOST_WEIGHT" = some (.int 99 t)
theorem wholes_of {d : PyData} {n : Int} (h : wholesD d n = true) : tupOfD d n n = true ∧ ∀ x ∈ items d, wholeD x = true := by
  unfold wholesD at h
  rw [Bool.and_eq_true] at h
  exact ⟨h.1, List.all_eq_true.mp h.2⟩
theorem whole_int {S : Addr → Prop} {H : Hp} {v : V} {d : PyData} (h : IsTh S H v d) (e : wholeD d = true) : ∃ i, v = .int i ∧ d = .int i := by
  cases h with
  | int i => exact ⟨i, rfl, rfl⟩
  | _ => cases e
/-- a def that may be called by its name -/
def Cal (P : Program) (w : World) (K : PySem.W.Frag) (mg : Str → Option Value) (base : Heap) (k : Nat) (x : Str) (ps : List Str) (sp : Sp) : Prop :=
  ∃ f fd, FnOk P w K mg base CX0 k f fd ps sp ∧ mg x = some (.ref f) ∧ PySem.W.keepIn K (.ref f) = true ∧ Binds K fd ps []
theorem pe_cal {X : Cx} {k j : Nat} {x : Str} {ps : List Str} {sp : Sp} {p pos : Pos} {e : Expr} {es : List Expr} {t : TA} (c : Cal X.prog X.w X.K X.mg X.base j x ps sp) (hr : Room k X.A) (hjk : j ≤ k) (hg : Gl X x) (ha : PA X (e :: es) t)
    (hdb : (x == ("__debug__" : Str)) = false := by decide) (he : starEach (e :: es) X.env = (false, eval e X.env) :: starEach es X.env := by rfl) (hpl : (backTo pos (starEach es X.env)).any (·.1) = false := by rfl) :
    PE X (.Call (.Name x p) (e :: es) [] pos) (tCall sp [] E0 t) := by
  obtain ⟨f, fd, F, hm, hk, hb⟩ := c
  exact pe_call F (hr.mono hjk) hg hm hk hb .nil pass0 ha hdb he hpl
section
variable {P : Program} {w : World} {K : PySem.W.Frag} {mg : Str → Option Value} {base : Heap}
/-! ### is_whole -/
theorem sc1 : FnScope ["thing"] ["thing"] (defScope (top 5)) := ⟨rfl, rfl, rfl, by decide +kernel, rfl, by decide +kernel, by decide +kernel⟩
theorem ok_is_whole {f : Addr} {fd : FuncData} (F : Fun K "is_whole" "is_whole" (top 5) f fd) (T : Mg mg) : FnOk P w K mg base CX0 1 f fd ["thing"] (spT wholeD) := by
  refine F.ok sc1 (fun vs H Q E h => ?_) (fun cdv A outer s H vs Q E hr h => ?_)
  · obtain ⟨S, v, d, rfl, _⟩ := h
    rfl
  · obtain ⟨S, v, d, rfl, th, hz, q⟩ := h
    refine ⟨_, pss_one (ps_ret (pe_and (pe_callB call_isinst rfl T.isinstance boot_isinstance (pa_cons (pv 0) (pa_cons (pe_bltn rfl T.int boot_int (v := .ty "int") rfl) pa_nil)))
      (pe_one (pe_not (pe_callB call_isinst rfl T.isinstance boot_isinstance (pa_cons (pv 0) (pa_cons (pe_bltn rfl T.bool boot_bool (v := .ty "bool") rfl) pa_nil))))))), ?_⟩
    refine ⟨_, rfl, v, _, "int", isIntD d, rfl, th.ty, kit_int d, _, rfl, ?_⟩
    have fin := q H (Same.refl H)
    unfold wholeD at fin
    cases e : isIntD d with
    | false =>
      rw [e] at fin
      exact iteF fin
    | true =>
      rw [e] at fin
      exact iteT ⟨_, rfl, v, _, "bool", isBoolD d, rfl, th.ty, kit_bool d, _, rfl, fin⟩
/-! ### is_tuple_of -/
theorem sc2 : FnScope ["thing", "fewest", "most"] ["thing", "fewest", "most"] (defScope (top 7)) := ⟨rfl, rfl, rfl, by decide +kernel, rfl, by decide +kernel, by decide +kernel⟩
theorem ok_is_tuple_of {f : Addr} {fd : FuncData} (F : Fun K "is_tuple_of" "is_tuple_of" (top 7) f fd) (T : Mg mg) : FnOk P w K mg base CX0 1 f fd ["thing", "fewest", "most"] (spT2 tupOfD) := by
  refine F.ok sc2 (fun vs H Q E h => ?_) (fun cdv A outer s H vs Q E hr h => ?_)
  · obtain ⟨S, v, d, n, m, rfl, _⟩ := h
    rfl
  · obtain ⟨S, v, d, n, m, rfl, th, hz, q⟩ := h
    refine ⟨_, pss_one (ps_ret (pe_and (pe_callB call_isinst rfl T.isinstance boot_isinstance (pa_cons (pv 0) (pa_cons (pe_bltn rfl T.tuple boot_tuple (v := .ty "tuple") rfl) pa_nil)))
      (pe_one (pe_chain op_le op_le (pv 1) (pe_callB call_len_seq rfl T.len PySem.boot_len (pa_cons (pv 0) pa_nil)) (pv 2))))), ?_⟩
    refine ⟨_, rfl, v, _, "tuple", isTupD d, rfl, th.ty, kit_tup d, _, rfl, ?_⟩
    have fin := q H (Same.refl H)
    unfold tupOfD at fin
    cases e : isTupD d with
    | false =>
      rw [e] at fin
      exact iteF fin
    | true =>
      rw [e] at fin
      refine iteT ?_
      cases th with
      | @tup a xs ds ea r =>
        have hl := r.length
        refine ⟨_, rfl, _, rfl, a, xs, rfl, .inr (SqT.of ea), _, _, rfl, rfl, _, rfl, ?_⟩
        rw [hl]
        have fin : Q (.bl (true && (decide (n ≤ (ds.length : Int)) && decide ((ds.length : Int) ≤ m)))) H := fin
        cases e1 : decide (n ≤ (ds.length : Int)) with
        | false =>
          rw [e1] at fin
          exact iteF fin
        | true =>
          rw [e1] at fin
          exact iteT ⟨_, rfl, _, _, rfl, rfl, fin⟩
      | _ => cases e
/-! ### are_wholes -/
theorem sc3 : FnScope ["thing", "many"] ["thing", "many"] (defScope (top 8)) := ⟨rfl, rfl, rfl, by decide +kernel, rfl, by decide +kernel, by decide +kernel⟩
theorem ok_are_wholes {f : Addr} {fd : FuncData} (F : Fun K "are_wholes" "are_wholes" (top 8) f fd) (T : Mg mg) (c1 : Cal P w K mg base 1 "is_whole" ["thing"] (spT wholeD)) (c2 : Cal P w K mg base 1 "is_tuple_of" ["thing", "fewest", "most"] (spT2 tupOfD)) :
    FnOk P w K mg base CX0 2 f fd ["thing", "many"] (spT1 wholesD) := by
  refine F.ok sc3 (fun vs H Q E h => ?_) (fun cdv A outer s H vs Q E hr h => ?_)
  · obtain ⟨S, v, d, n, rfl, _⟩ := h
    rfl
  · obtain ⟨S, v, d, n, rfl, th, hz, q⟩ := h
    refine ⟨_, pss_one (ps_ret (pe_and (pe_cal c2 hr (Nat.le_refl _) rfl (pa_cons (pv 0) (pa_cons (pv 1) (pa_cons (pv 1) pa_nil))))
      (pe_one (pe_callB (call_all rfl) rfl T.all boot_all (pa_cons (pe_comp ["part"] [none] rfl (pi_tup (pv 0))
        (fun C fp pins s₂ H₂ => ⟨pg_name (i := 0) (nd1 _) rfl (Or.inl rfl), pts_nil, pe_cal c1 hr (Nat.le_refl _) rfl (pa_cons (pv 0) pa_nil)⟩) (fun C => trivial) ⟨rfl, rfl, rfl, rfl⟩) pa_nil))))), ?_⟩
    refine ⟨_, rfl, _, rfl, _, rfl, S, v, d, n, n, rfl, th, hz, fun H1 s1 => ⟨_, rfl, ?_⟩⟩
    have th1 := th.same s1
    cases e : tupOfD d n n with
    | false =>
      refine iteF ?_
      have fin := q H1 s1
      unfold wholesD at fin
      rw [e] at fin
      exact fin
    | true =>
      refine iteT ?_
      cases th1 with
      | @tup a xs ds ea r =>
        have ew : wholesD (.tuple ds) n = ds.all wholeD := by unfold wholesD; rw [e]; rfl
        refine all_things wholeD rfl ea r (len_line r hz) (fun v d H2 Q2 hm s2 t2 q2 => ⟨_, rfl, S, v, d, rfl, t2, in_sz hm hz, q2⟩) fun H2 s2 => ?_
        rw [← ew]
        exact q _ (s1.trans s2)
      | _ => cases e
/-! ### is_clip -/
theorem sc13 : FnScope ["thing"] ["thing"] (defScope (top 13)) := ⟨rfl, rfl, rfl, by decide +kernel, rfl, by decide +kernel, by decide +kernel⟩
theorem ok_is_clip {f : Addr} {fd : FuncData} (F : Fun K "is_clip" "is_clip" (top 13) f fd) (T : Mg mg) (N : Nums mg) (c1 : Cal P w K mg base 2 "are_wholes" ["thing", "many"] (spT1 wholesD)) :
    FnOk P w K mg base CX0 3 f fd ["thing"] (spT clipD) := by
  refine F.ok sc13 (fun vs H Q E h => ?_) (fun cdv A outer s H vs Q E hr h => ?_)
  · obtain ⟨S, v, d, rfl, _⟩ := h
    rfl
  · obtain ⟨S, v, d, rfl, th, hz, q⟩ := h
    obtain ⟨t3, e3⟩ := N.sorts
    obtain ⟨t9, e9⟩ := N.wool
    refine ⟨_, pss_one (ps_ret (pe_and (pe_cal c1 hr (Nat.le_refl _) rfl (pa_cons (pv 0) (pa_cons (pe_glob (v := .int 3) rfl e3 ⟨_, rfl⟩) pa_nil)))
      (pe_one (pe_callB (call_all rfl) rfl T.all boot_all (pa_cons (pe_comp ["sacks"] [none] rfl (pi_tup (pv 0))
        (fun C fp pins s₂ H₂ => ⟨pg_name (i := 0) (nd1 _) rfl (Or.inl rfl), pts_nil, pe_chain op_le op_le pe_int (pv 0) (pe_glob (v := .int 999) rfl e9 ⟨_, rfl⟩)⟩) (fun C => trivial) ⟨rfl, rfl, rfl, rfl⟩) pa_nil))))), ?_⟩
    refine ⟨_, rfl, S, v, d, 3, rfl, th, hz, fun H1 s1 => ⟨_, rfl, ?_⟩⟩
    have th1 := th.same s1
    have fin := fun H' (s : Same H H') => q H' s
    unfold clipD at fin
    cases e : wholesD d 3 with
    | false =>
      rw [e] at fin
      exact iteF (fin _ s1)
    | true =>
      rw [e] at fin
      refine iteT ?_
      obtain ⟨e1, e2⟩ := wholes_of e
      cases th1 with
      | @tup a xs ds ea r =>
        refine all_things (fun x => decide (0 ≤ intOf x) && decide (intOf x ≤ 999)) rfl ea r (len_line r hz) (fun v d H2 Q2 hm s2 t2 q2 => ?_) fun H2 s2 => fin _ (s1.trans s2)
        obtain ⟨i, rfl, rfl⟩ := whole_int t2 (e2 d hm)
        refine ⟨_, rfl, _, _, rfl, rfl, _, rfl, ?_⟩
        have q3 := q2 H2 (Same.refl _)
        show if decide ((0 : Int) ≤ i) = true then _ else _
        cases e5 : decide ((0 : Int) ≤ i) with
        | false =>
          refine iteF ?_
          have q3 : Q2 (.bl (decide ((0 : Int) ≤ i) && decide (i ≤ 999))) H2 := q3
          rw [e5] at q3
          exact q3
        | true =>
          refine iteT ⟨_, _, rfl, rfl, ?_⟩
          have q3 : Q2 (.bl (decide ((0 : Int) ≤ i) && decide (i ≤ 999))) H2 := q3
          rw [e5] at q3
          exact q3
      | _ => cases e1
/-! ### are_clips -/
theorem sc14 : FnScope ["thing"] ["thing"] (defScope (top 14)) := ⟨rfl, rfl, rfl, by decide +kernel, rfl, by decide +kernel, by decide +kernel⟩
theorem ok_are_clips {f : Addr} {fd : FuncData} (F : Fun K "are_clips" "are_clips" (top 14) f fd) (T : Mg mg) (N : Nums mg) (c1 : Cal P w K mg base 3 "is_clip" ["thing"] (spT clipD)) (c2 : Cal P w K mg base 1 "is_tuple_of" ["thing", "fewest", "most"] (spT2 tupOfD)) :
    FnOk P w K mg base CX0 4 f fd ["thing"] (spT clipsD) := by
  refine F.ok sc14 (fun vs H Q E h => ?_) (fun cdv A outer s H vs Q E hr h => ?_)
  · obtain ⟨S, v, d, rfl, _⟩ := h
    rfl
  · obtain ⟨S, v, d, rfl, th, hz, q⟩ := h
    obtain ⟨t3, e3⟩ := N.clips
    refine ⟨_, pss_one (ps_ret (pe_and (pe_cal c2 hr (by decide) rfl (pa_cons (pv 0) (pa_cons pe_int (pa_cons (pe_glob (v := .int 20) rfl e3 ⟨_, rfl⟩) pa_nil))))
      (pe_one (pe_callB (call_all rfl) rfl T.all boot_all (pa_cons (pe_comp ["part"] [none] rfl (pi_tup (pv 0))
        (fun C fp pins s₂ H₂ => ⟨pg_name (i := 0) (nd1 _) rfl (Or.inl rfl), pts_nil, pe_cal c1 hr (by decide) rfl (pa_cons (pv 0) pa_nil)⟩) (fun C => trivial) ⟨rfl, rfl, rfl, rfl⟩) pa_nil))))), ?_⟩
    refine ⟨_, rfl, S, v, d, 1, 20, rfl, th, hz, fun H1 s1 => ⟨_, rfl, ?_⟩⟩
    have th1 := th.same s1
    have fin := fun H' (s : Same H H') => q H' s
    unfold clipsD at fin
    cases e : tupOfD d 1 20 with
    | false =>
      rw [e] at fin
      exact iteF (fin _ s1)
    | true =>
      rw [e] at fin
      refine iteT ?_
      cases th1 with
      | @tup a xs ds ea r => exact all_things clipD rfl ea r (len_line r hz) (fun v d H2 Q2 hm s2 t2 q2 => ⟨_, rfl, S, v, d, rfl, t2, in_sz hm hz, q2⟩) fun H2 s2 => fin _ (s1.trans s2)
      | _ => cases e
end
end K62

set_option Elab.async false
set_option linter.all false
set_option maxRecDepth 100000
set_option maxHeartbeats 400000
namespace K62
open PySem L2
def betD (d : PyData) (lo hi : Int) : Bool := wholeD d && (decide (lo ≤ intOf d) && decide (intOf d ≤ hi))
def weightsD (d : PyData) : Bool := tupOfD d 1 80 && (items d).all fun x => betD x 1 99
def spRefuse : Sp := fun vs H Q _ => ∃ S v d, vs = [v] ∧ IsTh S H v d ∧ sz d ≤ 4000 ∧ clipsD d = true ∧ ∀ H', Same H H' → Q .non H'
/-- the place of the greater rest first, of equal ones 0 -/
def ord2 (a b : Int) : List V := if a < b then [.int 1, .int 0] else [.int 0, .int 1]
def spPlaces : Sp := fun vs H Q _ => ∃ p a b, vs = [.ref p] ∧ H p = some (.lst [.int a, .int b]) ∧ ∀ H' q, Same H H' → H q = none → H' q = some (.lst (ord2 a b)) → Q (.ref q) H'
theorem boot_sorted : bootBuiltins "sorted" = some (.builtin "sorted") := by decide +kernel
theorem boot_sum : bootBuiltins "sum" = some (.builtin "sum") := by decide +kernel
/-- a comprehension of n turns -/
theorem comp_gen {J : It} {g : TG} {te : TE} {σ0 : St} {H0 : Hp} {Fin : List V → Hp → Prop} (n : Nat) (Pv : Nat → List V → St → Hp → Prop) (h0 : Pv 0 [] σ0 H0) (hz : n < sizeLine)
    (step : ∀ i ys σ H, i < n → ys.length = i → Pv i ys σ H → J.go i H ∧ ∀ x H', J.yld i H x H' → ∀ R : V → St → Hp → Prop, (∀ y σ2 H4, Pv (i + 1) (ys ++ [y]) σ2 H4 → R y σ2 H4) → g x σ H' fun σ2 H2 => te σ2 H2 fun y H4 => R y σ2 H4)
    (fin : ∀ ys σ H, ys.length = n → Pv n ys σ H → J.stop n H ∧ Fin ys H) : CompW J g tYes te Fin σ0 H0 := by
  refine ⟨fun i m ys σ H => m = n - i ∧ i ≤ n ∧ ys.length = i ∧ Pv i ys σ H, ⟨_, rfl, Nat.zero_le _, rfl, h0⟩, ?_⟩
  rintro i m ys σ H ⟨rfl, hi, hy, p⟩
  refine ⟨by omega, ?_⟩
  by_cases hlt : i < n
  · obtain ⟨go, st⟩ := step i ys σ H hlt hy p
    exact .inr ⟨go, fun x H' y => st x H' y _ fun y σ2 H4 p2 => ⟨n - (i + 1), by omega, rfl, hlt, by rw [List.length_append, hy]; rfl, p2⟩⟩
  · have e : i = n := by omega
    subst e
    exact .inl (fin ys σ H hy p)
def pairD (r : Int × Int) : PyData := .tuple [.int r.1, .int r.2]
theorem two_of {S : Addr → Prop} {H : Hp} {z : V} {lo hi : Int} (h : IsTh S H z (.tuple [.int lo, .int hi])) : ∃ t, z = .ref t ∧ H t = some (.tup [.int lo, .int hi]) := by
  cases h with
  | @tup a xs ds e r =>
    cases r with
    | cons h1 r => cases r with
      | cons h2 r =>
        cases r
        cases h1
        cases h2
        exact ⟨a, rfl, e⟩
section
variable {P : Program} {w : World} {K : PySem.W.Frag} {mg : Str → Option Value} {base : Heap}
/-! ### is_whole_from -/
theorem sc6 : FnScope ["thing", "least", "most"] ["thing", "least", "most"] (defScope (top 6)) := ⟨rfl, rfl, rfl, by decide +kernel, rfl, by decide +kernel, by decide +kernel⟩
theorem ok_whole_from {f : Addr} {fd : FuncData} (F : Fun K "is_whole_from" "is_whole_from" (top 6) f fd) (c1 : Cal P w K mg base 1 "is_whole" ["thing"] (spT wholeD)) : FnOk P w K mg base CX0 2 f fd ["thing", "least", "most"] (spT2 betD) := by
  refine F.ok sc6 (fun vs H Q E h => ?_) (fun cdv A outer s H vs Q E hr h => ?_)
  · obtain ⟨S, v, d, n, m, rfl, _⟩ := h
    rfl
  · obtain ⟨S, v, d, n, m, rfl, th, hz, q⟩ := h
    refine ⟨_, pss_one (ps_ret (pe_and (pe_cal c1 hr (Nat.le_refl _) rfl (pa_cons (pv 0) pa_nil)) (pe_one (pe_chain op_le op_le (pv 1) (pv 0) (pv 2))))), ?_⟩
    refine ⟨_, rfl, S, v, d, rfl, th, hz, fun H1 s1 => ⟨_, rfl, ?_⟩⟩
    have fin := q H1 s1
    unfold betD at fin
    cases e : wholeD d with
    | false =>
      rw [e] at fin
      exact iteF fin
    | true =>
      rw [e] at fin
      obtain ⟨i, rfl, rfl⟩ := whole_int th e
      exact iteT (ev_chain (ev_v rfl) (ev_v rfl) (ev_v rfl) _ fin)
/-! ### are_weights -/
theorem sc19 : FnScope ["thing"] ["thing"] (defScope (top 19)) := ⟨rfl, rfl, rfl, by decide +kernel, rfl, by decide +kernel, by decide +kernel⟩
theorem ok_are_weights {f : Addr} {fd : FuncData} (F : Fun K "are_weights" "are_weights" (top 19) f fd) (T : Mg mg) (N : Nums mg) (c1 : Cal P w K mg base 2 "is_whole_from" ["thing", "least", "most"] (spT2 betD)) (c2 : Cal P w K mg base 1 "is_tuple_of" ["thing", "fewest", "most"] (spT2 tupOfD)) :
    FnOk P w K mg base CX0 4 f fd ["thing"] (spT weightsD) := by
  refine F.ok sc19 (fun vs H Q E h => ?_) (fun cdv A outer s H vs Q E hr h => ?_)
  · obtain ⟨S, v, d, rfl, _⟩ := h
    rfl
  · obtain ⟨S, v, d, rfl, th, hz, q⟩ := h
    obtain ⟨t3, e3⟩ := N.many
    obtain ⟨t4, e4⟩ := N.most
    refine ⟨_, pss_one (ps_ret (pe_and (pe_cal c2 hr (by decide) rfl (pa_cons (pv 0) (pa_cons pe_int (pa_cons (pe_glob (v := .int 80) rfl e3 ⟨_, rfl⟩) pa_nil))))
      (pe_one (pe_callB (call_all rfl) rfl T.all boot_all (pa_cons (pe_comp ["part"] [none] rfl (pi_tup (pv 0))
        (fun C fp pins s₂ H₂ => ⟨pg_name (i := 0) (nd1 _) rfl (Or.inl rfl), pts_nil, pe_cal c1 hr (by decide) rfl (pa_cons (pv 0) (pa_cons pe_int (pa_cons (pe_glob (v := .int 99) rfl e4 ⟨_, rfl⟩) pa_nil)))⟩) (fun C => trivial) ⟨rfl, rfl, rfl, rfl⟩) pa_nil))))), ?_⟩
    refine ⟨_, rfl, S, v, d, 1, 80, rfl, th, hz, fun H1 s1 => ⟨_, rfl, ?_⟩⟩
    have th1 := th.same s1
    have fin := fun H' (s : Same H H') => q H' s
    unfold weightsD at fin
    cases e : tupOfD d 1 80 with
    | false =>
      rw [e] at fin
      exact iteF (fin _ s1)
    | true =>
      rw [e] at fin
      refine iteT ?_
      cases th1 with
      | @tup a xs ds ea r => exact all_things (fun x => betD x 1 99) rfl ea r (len_line r hz) (fun v d H2 Q2 hm s2 t2 q2 => ⟨_, rfl, S, v, d, 1, 99, rfl, t2, in_sz hm hz, q2⟩) fun H2 s2 => fin _ (s1.trans s2)
      | _ => cases e
/-! ### refuse_no_clips -/
theorem sc15 : FnScope ["thing"] ["thing"] (defScope (top 15)) := ⟨rfl, rfl, rfl, by decide +kernel, rfl, by decide +kernel, by decide +kernel⟩
theorem ok_refuse {f : Addr} {fd : FuncData} (F : Fun K "refuse_no_clips" "refuse_no_clips" (top 15) f fd) (c1 : Cal P w K mg base 4 "are_clips" ["thing"] (spT clipsD)) : FnOk P w K mg base CX0 5 f fd ["thing"] spRefuse := by
  refine F.ok sc15 (fun vs H Q E h => ?_) (fun cdv A outer s H vs Q E hr h => ?_)
  · obtain ⟨S, v, d, rfl, _⟩ := h
    rfl
  · obtain ⟨S, v, d, rfl, th, hz, ok, q⟩ := h
    refine ⟨_, pss_one (ps_if (pt_not (pt_val (pe_cal c1 hr (Nat.le_refl _) rfl (pa_cons (pv 0) pa_nil)))) (pss_one ps_never) pss_nil), ?_⟩
    refine ⟨_, rfl, S, v, d, rfl, th, hz, fun H1 s1 => ⟨_, rfl, ?_⟩⟩
    rw [ok]
    exact iteF (q H1 s1)
/-! ### places_by_rest -/
theorem nd2 (x y : Str) (h : x ≠ y) : ([x, y] : List Str).Nodup := by simp [h]
theorem sc20 : FnScope ["rests", "ranked"] ["rests"] (defScope (top 20)) := ⟨rfl, rfl, rfl, by decide +kernel, rfl, by decide +kernel, by decide +kernel⟩
theorem ok_places {f : Addr} {fd : FuncData} (F : Fun K "places_by_rest" "places_by_rest" (top 20) f fd) (Te : mg "enumerate" = none) (Ts : mg "sorted" = none) : FnOk P w K mg base CX0 1 f fd ["rests"] spPlaces := by
  refine F.ok sc20 (fun vs H Q E h => ?_) (fun cdv A outer s H vs Q E hr h => ?_)
  · obtain ⟨p, a, b, rfl, _⟩ := h
    rfl
  · obtain ⟨p, a, b, rfl, ep, q⟩ := h
    refine ⟨_, pss_cons (ps_set (i := 1) sc20.nd rfl (Or.inl rfl) (pe_callB call_sorted2 rfl Ts boot_sorted (pa_c (pe_comp (g := gTup K 2 (gCons (gName 0) (gCons (gName 1) gNil))) ["at", "rest"] [none, none] rfl (EL.pi_enum rfl Te (pa_c (pv 0) pa_nil))
        (fun C fp pins s₂ H₂ => ⟨pg_tupK rfl rfl (pgs_cons (pg_name (i := 0) (nd2 _ _ (by decide)) rfl (Or.inl rfl) (Or.inr rfl)) (pgs_cons (pg_name (i := 1) (nd2 _ _ (by decide)) rfl (Or.inl rfl) (Or.inr rfl)) pgs_nil)), pts_nil,
          pe_tup (pa_c (pe_un un_neg (pv 1)) (pa_c (pv 0) pa_nil))⟩) (fun C => trivial) ⟨rfl, rfl, rfl, rfl⟩) pa_nil)))
      (pss_one (ps_ret (pe_comp (g := gTup K 2 (gCons (gName 0) (gCons (gName 1) gNil))) ["minus", "at"] [none, none] rfl (pi_list (pv 1))
        (fun C fp pins s₂ H₂ => ⟨pg_tupK rfl rfl (pgs_cons (pg_name (i := 0) (nd2 _ _ (by decide)) rfl (Or.inl rfl) (Or.inr rfl)) (pgs_cons (pg_name (i := 1) (nd2 _ _ (by decide)) rfl (Or.inl rfl) (Or.inr rfl)) pgs_nil)), pts_nil,
          pv 1⟩) (fun C => trivial) ⟨rfl, rfl, rfl, rfl⟩))), ?_⟩
    refine rd_seq ?_
    refine ⟨_, rfl, p, _, rfl, SqL.of ep, comp_gen 2 (fun i ys σ Hc => Same H Hc ∧ (∃ o1 o2, σ = [o1, o2]) ∧ IsThs (fun _ => False) Hc ys (([(-a, 0), (-b, 1)] : List (Int × Int)).map pairD |>.take i)) ⟨Same.refl H, ⟨_, _, rfl⟩, .nil⟩ (by decide) ?_ ?_⟩
    · rintro i ys σ Hc hi hy ⟨s1, ⟨o1, o2, rfl⟩, it⟩
      have sq1 : SqL K Hc p [.int a, .int b] := SqL.of (s1 _ _ ep)
      have two : i = 0 ∨ i = 1 := by omega
      obtain ⟨x, hx, hd⟩ : ∃ x : Int, ([V.int a, V.int b] : List V)[i]? = some (.int x) ∧ (([(-a, 0), (-b, 1)] : List (Int × Int)).map pairD).take (i + 1) = (([(-a, 0), (-b, 1)] : List (Int × Int)).map pairD).take i ++ [pairD (-x, i)] := by
        rcases two with rfl | rfl
        · exact ⟨a, rfl, rfl⟩
        · exact ⟨b, rfl, rfl⟩
      refine ⟨⟨_, _, sq1, hx⟩, fun v H' y R hR => ?_⟩
      obtain ⟨T, nT, rfl, y⟩ := y
      obtain ⟨x', hx', rfl⟩ := y _ sq1
      rw [hx] at hx'
      cases hx'
      have s2 := s1.updR (o := .tup [.int (i : Int), .int x]) nT
      refine ⟨T, _, rfl, SqT.of upd_same, rfl, _, _, rfl, _, _, rfl, rfl, _, rfl, x, rfl, _, rfl, (by show 2 ≤ sizeLine; decide), fun t ht => ?_⟩
      refine hR _ _ _ ⟨s2.updR ht, ⟨_, _, rfl⟩, ?_⟩
      rw [hd]
      exact (it.same ((Same.upd nT).updR ht)).append (.cons (.tup upd_same (.cons (.int _) (.cons (.int _) .nil))) .nil)
    · rintro ys σ Hc hy ⟨s1, _, it⟩
      refine ⟨⟨_, SqL.of (s1 _ _ ep), Nat.le_refl _⟩, fun D hD => ?_⟩
      have it : IsThs (fun _ => False) Hc ys [pairD (-a, 0), pairD (-b, 1)] := it
      have s2 := s1.updR (o := .lst ys) hD
      have it2 := it.same (Same.upd (o := .lst ys) hD)
      cases it2 with
      | cons h1 r => cases r with
        | cons h2 r =>
          cases r
          obtain ⟨t1, rfl, e1⟩ := two_of h1
          obtain ⟨t2, rfl, e2⟩ := two_of h2
          refine ⟨D, t1, t2, _, _, _, _, rfl, SqL.of upd_same, SqT.of e1, SqT.of e2, fun q' hq => ?_⟩
          generalize hH2 : upd Hc D (.lst [.ref t1, .ref t2]) = H2 at s2 e1 e2 hq ⊢
          have s3 := s2.updR (o := .lst (if HT.lexLt [-b, 1] [-a, 0] = true then [.ref t2, .ref t1] else [.ref t1, .ref t2])) hq
          have e1' := Same.upd (o := .lst (if HT.lexLt [-b, 1] [-a, 0] = true then [.ref t2, .ref t1] else [.ref t1, .ref t2])) hq _ _ e1
          have e2' := Same.upd (o := .lst (if HT.lexLt [-b, 1] [-a, 0] = true then [.ref t2, .ref t1] else [.ref t1, .ref t2])) hq _ _ e2
          have eq' := upd_same (H := H2) (a := q') (o := .lst (if HT.lexLt [-b, 1] [-a, 0] = true then [.ref t2, .ref t1] else [.ref t1, .ref t2]))
          generalize upd H2 q' _ = H3 at s3 e1' e2' eq' ⊢
          dsimp only
          refine rd_ret ?_
          obtain ⟨u1, u2, n1, n2, el, f1, f2, eo⟩ : ∃ u1 u2 n1 n2, (if HT.lexLt [-b, 1] [-a, 0] = true then [V.ref t2, V.ref t1] else [V.ref t1, V.ref t2]) = [.ref u1, .ref u2] ∧ (∃ m, H3 u1 = some (.tup [.int m, .int n1])) ∧ (∃ m, H3 u2 = some (.tup [.int m, .int n2])) ∧ ord2 a b = [.int n1, .int n2] := by
            unfold ord2
            by_cases hab : a < b
            · have z : HT.lexLt [-b, 1] [-a, 0] = true := by
                have : ¬ (-b = -a) := by omega
                simp [HT.lexLt, this, hab]
              rw [z, if_pos rfl, if_pos hab]
              exact ⟨t2, t1, 1, 0, rfl, ⟨_, e2'⟩, ⟨_, e1'⟩, rfl⟩
            · have z : HT.lexLt [-b, 1] [-a, 0] = false := by
                by_cases h : -b = -a
                · simp [HT.lexLt, h]
                · have : ¬ (-b < -a) := by omega
                  simp [HT.lexLt, h, hab]
              rw [z, if_neg (by decide), if_neg hab]
              exact ⟨t1, t2, 0, 1, rfl, ⟨_, e1'⟩, ⟨_, e2'⟩, rfl⟩
          rw [el] at eq'
          refine ⟨_, rfl, q', rfl, ⟨_, SqL.of eq'⟩, comp_gen 2 (fun i ys σ Hc => Same H3 Hc ∧ (∃ o1 o2, σ = [o1, o2]) ∧ ys = (ord2 a b).take i) ⟨Same.refl H3, ⟨_, _, rfl⟩, rfl⟩ (by decide) ?_ ?_⟩
          · rintro i ys σ Hc hi hy ⟨s4, ⟨o1, o2, rfl⟩, rfl⟩
            have two : i = 0 ∨ i = 1 := by omega
            obtain ⟨u, n, m, hu, fu, hd⟩ : ∃ u n m, ([V.ref u1, V.ref u2] : List V)[i]? = some (.ref u) ∧ H3 u = some (.tup [.int m, .int n]) ∧ (ord2 a b).take (i + 1) = (ord2 a b).take i ++ [.int n] := by
              obtain ⟨m1, f1⟩ := f1
              obtain ⟨m2, f2⟩ := f2
              rcases two with rfl | rfl
              · exact ⟨u1, n1, m1, rfl, f1, by rw [eo]; rfl⟩
              · exact ⟨u2, n2, m2, rfl, f2, by rw [eo]; rfl⟩
            refine ⟨⟨_, _, SqL.of (s4 _ _ eq'), hu⟩, fun v H' y R hR => ?_⟩
            obtain ⟨rfl, y⟩ := y
            have hv := y _ (SqL.of (s4 _ _ eq'))
            rw [hu] at hv
            cases hv
            exact ⟨u, _, rfl, SqT.of (s4 _ _ fu), rfl, _, _, rfl, _, _, rfl, rfl, _, rfl, hR _ _ _ ⟨s4, ⟨_, _, rfl⟩, hd.symm⟩⟩
          · rintro ys σ Hc hy ⟨s4, _, rfl⟩
            refine ⟨⟨_, SqL.of (s4 _ _ eq'), Nat.le_refl _⟩, fun D' hD' => ?_⟩
            have s5 := s3.trans s4
            have hn : H D' = none := s5.free hD'
            refine q _ D' (s5.updR hD') hn ?_
            rw [upd_same, eo]
            rfl
end
end K62

set_option Elab.async false
set_option linter.all false
set_option maxRecDepth 100000
set_option maxHeartbeats 400000
namespace K62
open PySem L2
def lf (n x y : Int) : Int := n - (n * x / (x + y) + (n * y / (x + y) + 0))
/-- what the first of two gets, the second -/
def p1 (n x y : Int) : Int := n * x / (x + y) + (if lf n x y = 1 ∧ n * y % (x + y) ≤ n * x % (x + y) then 1 else 0)
def p2 (n x y : Int) : Int := n * y / (x + y) + (if lf n x y = 1 ∧ n * x % (x + y) < n * y % (x + y) then 1 else 0)
theorem lf01 {n x y : Int} (hx : 1 ≤ x) (hy : 1 ≤ y) : lf n x y = 0 ∨ lf n x y = 1 := by
  have ht : 0 < x + y := by omega
  have e1 := Int.mul_ediv_add_emod (n * x) (x + y)
  have e2 := Int.mul_ediv_add_emod (n * y) (x + y)
  have a0 := Int.emod_nonneg (n * x) (b := x + y) (by omega)
  have a1 := Int.emod_lt_of_pos (n * x) ht
  have b0 := Int.emod_nonneg (n * y) (b := x + y) (by omega)
  have b1 := Int.emod_lt_of_pos (n * y) ht
  unfold lf
  generalize n * x / (x + y) = a at *
  generalize n * y / (x + y) = b at *
  generalize hr : n * x % (x + y) = r at *
  generalize hs : n * y % (x + y) = s at *
  have e3 : (x + y) * (n - (a + (b + 0))) = r + s := by
    have e4 : n * x + n * y = n * (x + y) := (Int.mul_add n x y).symm
    have e5 : (x + y) * (n - (a + (b + 0))) = n * (x + y) - ((x + y) * a + (x + y) * b) := by
      rw [Int.add_zero, Int.mul_sub, Int.mul_add, Int.mul_comm n]
    omega
  generalize n - (a + (b + 0)) = d at *
  have h2 : d < 2 := by
    refine Int.lt_of_not_ge fun h => ?_
    have := Int.mul_le_mul_of_nonneg_left (c := x + y) h (by omega)
    omega
  have h0 : 0 ≤ d := by
    refine Int.le_of_not_gt fun h => ?_
    have h : d ≤ -1 := by omega
    have := Int.mul_le_mul_of_nonneg_left (c := x + y) h (by omega)
    omega
  omega
theorem p12 {n x y : Int} (hx : 1 ≤ x) (hy : 1 ≤ y) : p1 n x y + p2 n x y = n := by
  have h := lf01 (n := n) hx hy
  have e : n * x / (x + y) + n * y / (x + y) + lf n x y = n := by
    unfold lf
    omega
  unfold p1 p2
  by_cases h1 : lf n x y = 1
  · by_cases h2 : n * y % (x + y) ≤ n * x % (x + y)
    · rw [if_pos ⟨h1, h2⟩, if_neg (fun z => by omega)]
      omega
    · rw [if_neg (fun z => h2 z.2), if_pos ⟨h1, by omega⟩]
      omega
  · rw [if_neg (fun z => h1 z.1), if_neg (fun z => h1 z.1)]
    omega
/-- the parts behind the last sack -/
theorem parts_done (n x y : Int) (hx : 1 ≤ x) (hy : 1 ≤ y) : ((cutV (ord2 (n * x % (x + y)) (n * y % (x + y))) none (some (lf n x y))) = [] ∧ p1 n x y = n * x / (x + y) ∧ p2 n x y = n * y / (x + y)) ∨
    ((cutV (ord2 (n * x % (x + y)) (n * y % (x + y))) none (some (lf n x y))) = [.int 0] ∧ p1 n x y = n * x / (x + y) + 1 ∧ p2 n x y = n * y / (x + y)) ∨
    ((cutV (ord2 (n * x % (x + y)) (n * y % (x + y))) none (some (lf n x y))) = [.int 1] ∧ p1 n x y = n * x / (x + y) ∧ p2 n x y = n * y / (x + y) + 1) := by
  unfold p1 p2 ord2
  rcases lf01 (n := n) hx hy with h | h
  · left
    refine ⟨?_, ?_, ?_⟩
    · rw [h]
      split <;> rfl
    · rw [if_neg (fun z => by omega), Int.add_zero]
    · rw [if_neg (fun z => by omega), Int.add_zero]
  · right
    rw [h]
    by_cases h2 : n * x % (x + y) < n * y % (x + y)
    · right
      rw [if_pos h2, if_neg (fun z => by omega), if_pos ⟨rfl, h2⟩, Int.add_zero]
      exact ⟨rfl, rfl, rfl⟩
    · left
      rw [if_neg h2, if_pos ⟨rfl, by omega⟩, if_neg (fun z => h2 z.2), Int.add_zero]
      exact ⟨rfl, rfl, rfl⟩
def spParts : Sp := fun vs H Q _ => ∃ n p x y, vs = [.int n, .ref p] ∧ H p = some (.tup [.int x, .int y]) ∧ 0 ≤ n ∧ n ≤ 999 ∧ 1 ≤ x ∧ x ≤ 99 ∧ 1 ≤ y ∧ y ≤ 99 ∧ ∀ H' q, Same H H' → H' q = some (.tup [.int (p1 n x y), .int (p2 n x y)]) → Q (.ref q) H'
theorem get_listP {X : Cx} : PGet X (fun x y H Q => ∃ p xs i v, x = .ref p ∧ y = .int i ∧ SqL X.K H p xs ∧ 0 ≤ i ∧ xs[i.toNat]? = some v ∧ Q v H) := by
  intro pins s σ H x y v u Q I rx ry h
  obtain ⟨p, xs, i, z, rfl, rfl, hq, h0, he, q⟩ := h
  cases rx
  obtain ⟨t, rfl⟩ := ry
  obtain ⟨its, r, pl, hz⟩ := I.list hq
  obtain ⟨w, ew, rw'⟩ := r.get he
  have hn := line63
  have hl := r.length
  have hi := (List.getElem?_eq_some_iff.mp he).1
  exact PySem.wpAny_getItem_list pl.isList h0 (by omega) (by simpa using ew) ⟨z, H, I, rw', q⟩
/-- ints made of a tuple of two ints -/
theorem comp_int2 {K : PySem.W.Frag} {te : TE} {p : Addr} {x y : Int} {σ0 : St} {H0 : Hp} {Fin : List V → Hp → Prop} (f : Int → Int) (ep : H0 p = some (.tup [.int x, .int y]))
    (hte : ∀ (z : Int) (Q : VK), Q (.int (f z)) H0 → te (σ0.set 0 (some (.int z))) H0 Q) (fin : Fin [.int (f x), .int (f y)] H0) : CompW (Itt K p) (gName 0) tYes te Fin σ0 H0 := by
  refine comp_gen 2 (fun i ys σ H => H = H0 ∧ (∀ o, σ.set 0 o = σ0.set 0 o) ∧ ys = ([.int (f x), .int (f y)] : List V).take i) ⟨rfl, fun _ => rfl, rfl⟩ (by decide) ?_ ?_
  · rintro i ys σ H hi hy ⟨rfl, hσ, rfl⟩
    have two : i = 0 ∨ i = 1 := by omega
    obtain ⟨z, hz, hd⟩ : ∃ z : Int, ([V.int x, V.int y] : List V)[i]? = some (.int z) ∧ ([V.int (f x), V.int (f y)] : List V).take (i + 1) = ([V.int (f x), V.int (f y)] : List V).take i ++ [.int (f z)] := by
      rcases two with rfl | rfl
      · exact ⟨x, rfl, rfl⟩
      · exact ⟨y, rfl, rfl⟩
    refine ⟨⟨_, _, SqT.of ep, hz⟩, fun v H' y' R hR => ?_⟩
    obtain ⟨rfl, y'⟩ := y'
    have hv := y' _ (SqT.of ep)
    rw [hz] at hv
    cases hv
    show te (σ.set 0 (some (.int z))) _ _
    rw [hσ]
    exact hte z _ (hR _ _ _ ⟨rfl, fun o => by rw [List.set_set], hd.symm⟩)
  · rintro ys σ H hy ⟨rfl, hσ, rfl⟩
    exact ⟨⟨_, SqT.of ep, Nat.le_refl _⟩, fin⟩
section
variable {P : Program} {w : World} {K : PySem.W.Frag} {mg : Str → Option Value} {base : Heap}
theorem nd3w : (["weight", "sacks", "together"] : List Str).Nodup := by decide +kernel
theorem sc21 : FnScope ["sacks", "weights", "together", "parts", "rests", "left", "at"] ["sacks", "weights"] (defScope (top 21)) := ⟨rfl, rfl, rfl, by decide +kernel, rfl, by decide +kernel, by decide +kernel⟩
theorem ok_parts {f : Addr} {fd : FuncData} (F : Fun K "parts_of" "parts_of" (top 21) f fd) (T : Mg mg) (Ts : mg "sum" = none) (c1 : Cal P w K mg base 1 "places_by_rest" ["rests"] spPlaces) : FnOk P w K mg base CX0 2 f fd ["sacks", "weights"] spParts := by
  refine F.ok sc21 (fun vs H Q E h => ?_) (fun cdv A outer s H vs Q E hr h => ?_)
  · obtain ⟨n, p, x, y, rfl, _⟩ := h
    rfl
  · obtain ⟨n, p, x, y, rfl, ep, n0, n1, x0, x1, y0, y1, q⟩ := h
    refine ⟨_, pss_cons (ps_set (i := 2) sc21.nd rfl (Or.inr rfl) (pe_callB (call_sumL rfl) rfl Ts boot_sum (pa_c (pv 1) pa_nil)))
      (pss_cons (ps_comp (i := 3) ["weight", "sacks", "together"] [none, some 0, some 2] rfl sc21.nd rfl (Or.inl rfl) (pi_tup (pv 1))
        (fun C fp pins s₂ H₂ => ⟨pg_name (i := 0) nd3w rfl (Or.inl rfl), pts_nil, pe_op op_fdiv (pe_op op_mul (pv 1) (pv 0)) (pv 2)⟩) (fun C => ⟨⟨rfl, .inl rfl, rfl, .inl rfl⟩, ⟨rfl, .inl rfl, rfl, .inl rfl⟩, trivial⟩) ⟨rfl, rfl, rfl, rfl⟩)
      (pss_cons (ps_comp (i := 4) ["weight", "sacks", "together"] [none, some 0, some 2] rfl sc21.nd rfl (Or.inl rfl) (pi_tup (pv 1))
        (fun C fp pins s₂ H₂ => ⟨pg_name (i := 0) nd3w rfl (Or.inl rfl), pts_nil, pe_op op_mod (pe_op op_mul (pv 1) (pv 0)) (pv 2)⟩) (fun C => ⟨⟨rfl, .inl rfl, rfl, .inl rfl⟩, ⟨rfl, .inl rfl, rfl, .inl rfl⟩, trivial⟩) ⟨rfl, rfl, rfl, rfl⟩)
      (pss_cons (ps_set (i := 5) sc21.nd rfl (Or.inl rfl) (pe_op op_sub (pv 0) (pe_callB (call_sumL rfl) rfl Ts boot_sum (pa_c (pv 3) pa_nil))))
      (pss_cons (ps_for PassesOwn.never rfl (pi_list (pe_slice sl_list (pe_cal c1 hr (by decide) rfl (pa_c (pv 4) pa_nil)) po_none (po_some (pv 5)))) (pg_name (i := 6) sc21.nd rfl (Or.inl rfl))
        (pss_one (ps_augS (pv 3) (pv 6) get_listP pe_int ip_add set_list)))
      (pss_one (ps_ret (pe_callTy call_tuple_of rfl T.tuple boot_tuple (pa_c (pv 3) pa_nil)))))))), ?_⟩
    refine rd_seq ?_
    refine ⟨_, rfl, p, [x, y], rfl, .inr (SqT.of ep), ?_⟩
    have et : ([x, y] : List Int).sum = x + y := by simp
    rw [et]
    dsimp only
    refine rd_seq ?_
    refine ⟨_, rfl, p, rfl, ⟨_, SqT.of ep⟩, comp_int2 (fun z => n * z / (x + y)) ep (fun z Q h => ⟨_, rfl, _, rfl, _, _, rfl, rfl, .inl ⟨by omega, by omega⟩, _, rfl, _, _, rfl, rfl, ⟨by omega, by omega⟩, h⟩) fun l1 hl1 => ?_⟩
    have s1 := Same.upd (o := .lst [.int (n * x / (x + y)), .int (n * y / (x + y))]) hl1
    have el1 := upd_same (H := H) (a := l1) (o := .lst [.int (n * x / (x + y)), .int (n * y / (x + y))])
    generalize upd H l1 _ = H1 at s1 el1 ⊢
    dsimp only
    refine rd_seq ?_
    refine ⟨_, rfl, p, rfl, ⟨_, SqT.of (s1 _ _ ep)⟩, comp_int2 (fun z => n * z % (x + y)) (s1 _ _ ep) (fun z Q h => ⟨_, rfl, _, rfl, _, _, rfl, rfl, .inl ⟨by omega, by omega⟩, _, rfl, _, _, rfl, rfl, (by show 0 < x + y; omega), h⟩) fun l2 hl2 => ?_⟩
    have s2 := s1.updR (o := .lst [.int (n * x % (x + y)), .int (n * y % (x + y))]) hl2
    have el2 := upd_same (H := H1) (a := l2) (o := .lst [.int (n * x % (x + y)), .int (n * y % (x + y))])
    have el12 := Same.upd (o := .lst [.int (n * x % (x + y)), .int (n * y % (x + y))]) hl2 _ _ el1
    have nl1 : H l1 = none := hl1
    clear hl1 hl2
    generalize upd H1 l2 _ = H2 at s2 el2 el12 ⊢
    clear el1 s1
    dsimp only
    refine rd_seq ?_
    refine ⟨_, rfl, _, rfl, l1, [n * x / (x + y), n * y / (x + y)], rfl, .inl (SqL.of el12), _, _, rfl, rfl, ?_⟩
    have ef : ([n * x / (x + y), n * y / (x + y)] : List Int).sum = n * x / (x + y) + (n * y / (x + y) + 0) := by simp
    rw [ef]
    show _
    dsimp only
    refine rd_seq ?_
    refine ⟨_, rfl, l2, _, _, rfl, el2, fun H3 l3 s3 nl3 el3 => ⟨_, rfl, _, rfl, l3, _, rfl, SqL.of el3, fun l4 hl4 => ⟨l4, rfl, ⟨_, SqL.of upd_same⟩, ?_⟩⟩⟩
    obtain ⟨cs, ecs⟩ : ∃ cs, cs = cutV (ord2 (n * x % (x + y)) (n * y % (x + y))) none (some (n - (n * x / (x + y) + (n * y / (x + y) + 0)))) := ⟨_, rfl⟩
    have fin : (cs = [] ∧ p1 n x y = n * x / (x + y) ∧ p2 n x y = n * y / (x + y)) ∨ (cs = [.int 0] ∧ p1 n x y = n * x / (x + y) + 1 ∧ p2 n x y = n * y / (x + y)) ∨ (cs = [.int 1] ∧ p1 n x y = n * x / (x + y) ∧ p2 n x y = n * y / (x + y) + 1) := by
      rw [ecs]
      exact parts_done n x y x0 y0
    rw [← ecs]
    clear ecs
    have s4 := (s2.trans s3).updR (o := .lst cs) hl4
    have el4 := upd_same (H := H3) (a := l4) (o := .lst cs)
    have el14 := Same.upd (o := .lst cs) hl4 _ _ (s3 _ _ el12)
    have n14 : l4 ≠ l1 := fun z => by
      rw [z, s3 _ _ el12] at hl4
      cases hl4
    generalize upd H3 l4 (.lst cs) = H4 at s4 el4 el14 ⊢
    clear hl4 el3 nl3 s3 el12 el2 s2
    refine for_list (xs := cs) (fun i σ Hc => ∃ o6, σ = [some (.int n), some (.ref p), some (.int (x + y)), some (.ref l1), some (.ref l2), some (.int (n - (n * x / (x + y) + (n * y / (x + y) + 0)))), o6] ∧ Same H Hc ∧ Hc l4 = some (.lst cs) ∧ Hc l1 = some (.lst (if i < cs.length then [.int (n * x / (x + y)), .int (n * y / (x + y))] else [.int (p1 n x y), .int (p2 n x y)]))) ?_ ?_ ?_ ?_
    · refine ⟨none, rfl, s4, el4, ?_⟩
      rw [el14]
      rcases fin with ⟨rfl, e1, e2⟩ | ⟨rfl, _⟩ | ⟨rfl, _⟩
      · rw [e1, e2]
        rfl
      · rfl
      · rfl
    · rintro i σ Hc hi ⟨o6, rfl, s5, e4, e1⟩
      exact SqL.of e4
    · rintro i v σ Hc hv ⟨o6, rfl, s5, e4, e1⟩
      have hi : i < cs.length := (List.getElem?_eq_some_iff.mp hv).1
      rw [if_pos hi] at e1
      refine rd_name ?_
      have kp : ∀ o, Same H (upd Hc l1 o) := fun o b u e => by
        rw [upd_ne (ne_of_none e nl1)]
        exact s5 _ _ e
      rcases fin with ⟨rfl, _⟩ | ⟨rfl, e2, e3⟩ | ⟨rfl, e2, e3⟩
      · exact absurd hi (Nat.not_lt_zero _)
      · have hi : i = 0 := by
          have : i < 1 := hi
          omega
        subst hi
        cases hv
        refine ⟨_, rfl, _, rfl, l1, _, 0, _, rfl, rfl, SqL.of e1, by decide, rfl, _, _, rfl, rfl, l1, _, 0, 0, rfl, rfl, e1, rfl, ?_⟩
        refine ⟨_, rfl, kp _, by rw [upd_ne n14]; exact e4, ?_⟩
        rw [upd_same, if_neg (by decide), e2, e3]
        rfl
      · have hi : i = 0 := by
          have : i < 1 := hi
          omega
        subst hi
        cases hv
        refine ⟨_, rfl, _, rfl, l1, _, 1, _, rfl, rfl, SqL.of e1, by decide, rfl, _, _, rfl, rfl, l1, _, 1, 1, rfl, rfl, e1, rfl, ?_⟩
        refine ⟨_, rfl, kp _, by rw [upd_ne n14]; exact e4, ?_⟩
        rw [upd_same, if_neg (by decide), e2, e3]
        rfl
    · rintro σ Hc ⟨o6, rfl, s5, e4, e1⟩
      rw [if_neg (Nat.lt_irrefl _)] at e1
      dsimp only
      refine rd_ret ?_
      exact ⟨_, rfl, l1, _, rfl, .inl ⟨SqL.of e1, fun t ht => q _ t (s5.updR ht) upd_same⟩⟩
end
end K62

set_option Elab.async false
set_option linter.all false
set_option maxRecDepth 100000
set_option maxHeartbeats 400000
namespace K62
open PySem L2
section
variable {X : Cx} {K : PySem.W.Frag} {tg l : Expr} {tl : TE}
theorem pi_listK (hK : X.K = K) (hl : PE X l tl) : PI X tg l (iList K tl) := by
  subst hK
  exact pi_list hl
theorem pi_tupK (hK : X.K = K) (hl : PE X l tl) : PI X tg l (iTup K tl) := by
  subst hK
  exact pi_tup hl
theorem ix_tupK (hK : X.K = K) : IxR X (rIxT K) := by
  subst hK
  exact ix_tup
theorem call_tuple_ofK (hK : X.K = K) : CallR X (.type "tuple") (fun xs H Q => ∃ p ys, xs = [.ref p] ∧ ((SqL K H p ys ∧ ∀ l, H l = none → Q (.ref l) (upd H l (.tup ys))) ∨ (SqT K H p ys ∧ Q (.ref p) H))) := by
  subst hK
  exact call_tuple_of
theorem zip_tt {es : List Expr} {k : Nat} {tp : Pos} {a b : Expr} {ta : TA} {p pos : Pos} (hK : X.K = K) (hg : Gl X "zip") (hm : X.mg "zip" = none) (ha : PA X [a, b] ta) (hs : starEach [a, b] X.env = [(false, eval a X.env), (false, eval b X.env)] := by rfl) (hs2 : starEach [b] X.env = [(false, eval b X.env)] := by rfl) :
    PI X (.Tuple es k tp) (.Call (.Name "zip" p) [a, b] [] pos) (ZT.iZip K ta) := by
  subst hK
  exact ZT.pi_zip hg hm ha hs hs2
end
/-- a thing made of each thing, none of the old ones turned -/
theorem comp_map {α : Type} {J : It} {S S' : Addr → Prop} {te : TE} {xs : List V} {is : List α} {σ0 : St} {j : Nat} {H0 : Hp} {Fin : List V → Hp → Prop} (g f : α → PyData)
    (hJ : ∀ H, Same H0 H → (∀ i, i < xs.length → J.go i H ∧ ∀ v H', J.yld i H v H' → H' = H ∧ xs[i]? = some v) ∧ J.stop xs.length H) (th : IsThs S H0 xs (is.map g)) (hl : xs.length < sizeLine)
    (hte : ∀ v a H1 Q1, a ∈ is → Same H0 H1 → IsTh S H1 v (g a) → (∀ u H', Same H1 H' → IsTh S' H' u (f a) → Q1 u H') → te (σ0.set j (some v)) H1 Q1)
    (fin : ∀ ys H', Same H0 H' → IsThs S' H' ys (is.map f) → Fin ys H') : CompW J (gName j) tYes te Fin σ0 H0 := by
  have el := th.length
  rw [List.length_map] at el
  refine comp_gen xs.length (fun i ys σ H => Same H0 H ∧ (∀ o, σ.set j o = σ0.set j o) ∧ IsThs S' H ys ((is.map f).take i)) ⟨Same.refl _, fun _ => rfl, .nil⟩ hl ?_ ?_
  · rintro i ys σ H hi hy ⟨s1, hσ, it⟩
    obtain ⟨go, yl⟩ := (hJ H s1).1 i hi
    refine ⟨go, fun v H' y R hR => ?_⟩
    obtain ⟨rfl, hv⟩ := yl v H' y
    obtain ⟨d, hd, tv⟩ := th.get hv
    rw [List.getElem?_map] at hd
    cases ha : is[i]? with
    | none => rw [ha] at hd; cases hd
    | some a =>
      rw [ha] at hd
      injection hd with hd
      subst hd
      show te (σ.set j (some v)) _ _
      rw [hσ]
      refine hte v a _ _ (List.mem_of_getElem? ha) s1 (tv.same s1) fun u H2 s2 tu => hR _ _ _ ⟨s1.trans s2, fun o => by rw [List.set_set], ?_⟩
      have e : (is.map f).take (i + 1) = (is.map f).take i ++ [f a] := by
        rw [List.take_add_one, List.getElem?_map, ha]
        rfl
      rw [e]
      exact (it.same s2).append (.cons tu .nil)
  · rintro ys σ H hy ⟨s1, hσ, it⟩
    refine ⟨(hJ H s1).2, fin ys H s1 ?_⟩
    rw [List.take_of_length_le (by rw [List.length_map, el]; exact Nat.le_refl _)] at it
    exact it
theorem jt {K : PySem.W.Frag} {a : Addr} {xs : List V} {H0 : Hp} (e : H0 a = some (.tup xs)) : ∀ H, Same H0 H → (∀ i, i < xs.length → (Itt K a).go i H ∧ ∀ v H', (Itt K a).yld i H v H' → H' = H ∧ xs[i]? = some v) ∧ (Itt K a).stop xs.length H := fun H s =>
  ⟨fun i hi => ⟨⟨xs, xs[i], SqT.of (s _ _ e), by simp [hi]⟩, fun v H' y => ⟨y.1, y.2 xs (SqT.of (s _ _ e))⟩⟩, xs, SqT.of (s _ _ e), Nat.le_refl _⟩
theorem jl {K : PySem.W.Frag} {a : Addr} {xs : List V} {H0 : Hp} (e : H0 a = some (.lst xs)) : ∀ H, Same H0 H → (∀ i, i < xs.length → (Itl K a).go i H ∧ ∀ v H', (Itl K a).yld i H v H' → H' = H ∧ xs[i]? = some v) ∧ (Itl K a).stop xs.length H := fun H s =>
  ⟨fun i hi => ⟨⟨xs, xs[i], SqL.of (s _ _ e), by simp [hi]⟩, fun v H' y => ⟨y.1, y.2 xs (SqL.of (s _ _ e))⟩⟩, xs, SqL.of (s _ _ e), Nat.le_refl _⟩
/-! ### the clips -/
def rowD (r : List Int) : PyData := .tuple (r.map PyData.int)
def cD (rows : List (List Int)) : PyData := .tuple (rows.map rowD)
def OkRow (r : List Int) : Prop := r.length = 3 ∧ ∀ n ∈ r, 0 ≤ n ∧ n ≤ 999
def OkRows (rows : List (List Int)) : Prop := 1 ≤ rows.length ∧ rows.length ≤ 20 ∧ ∀ r ∈ rows, OkRow r
theorem szs_ints' : ∀ (r : List Int), szs (r.map PyData.int) = r.length
  | [] => rfl
  | _ :: r => by
    show 1 + szs (r.map PyData.int) = r.length + 1
    rw [szs_ints' r, Nat.add_comm]
theorem sz_row {r : List Int} (h : r.length = 3) : sz (rowD r) = 4 := by
  show 1 + szs (r.map PyData.int) = 4
  rw [szs_ints', h]
theorem szs_rows : ∀ {rows : List (List Int)}, (∀ r ∈ rows, r.length = 3) → szs (rows.map rowD) = 4 * rows.length
  | [], _ => rfl
  | r :: rows, h => by
    show sz (rowD r) + szs (rows.map rowD) = 4 * (rows.length + 1)
    rw [sz_row (h r (.head _)), szs_rows fun r hr => h r (.tail _ hr)]
    omega
theorem sz_clips {rows : List (List Int)} (h : ∀ r ∈ rows, r.length = 3) : sz (cD rows) = 1 + 4 * rows.length := by
  show 1 + szs (rows.map rowD) = _
  rw [szs_rows h]
theorem clips_ok {rows : List (List Int)} (h : OkRows rows) : clipsD (cD rows) = true := by
  have e : clipsD (cD rows) = ((true && (decide ((1 : Int) ≤ ((rows.map rowD).length : Int)) && decide (((rows.map rowD).length : Int) ≤ 20))) && (rows.map rowD).all clipD) := rfl
  rw [e, List.length_map, decide_eq_true (by have := h.1; omega), decide_eq_true (by have := h.2.1; omega), Bool.true_and, Bool.true_and, Bool.true_and, List.all_eq_true]
  intro d hd
  obtain ⟨r, hr, rfl⟩ := List.mem_map.mp hd
  obtain ⟨hl, hb⟩ := h.2.2 r hr
  have e2 : clipD (rowD r) = (((true && (decide ((3 : Int) ≤ ((r.map PyData.int).length : Int)) && decide (((r.map PyData.int).length : Int) ≤ 3))) && (r.map PyData.int).all wholeD) && (r.map PyData.int).all fun x => decide (0 ≤ intOf x) && decide (intOf x ≤ 999)) := rfl
  have e3 : (r.map PyData.int).all wholeD = true := by
    rw [List.all_eq_true]
    intro x hx
    obtain ⟨n, _, rfl⟩ := List.mem_map.mp hx
    rfl
  have e4 : ((r.map PyData.int).all fun x => decide (0 ≤ intOf x) && decide (intOf x ≤ 999)) = true := by
    rw [List.all_eq_true]
    intro x hx
    obtain ⟨n, hn, rfl⟩ := List.mem_map.mp hx
    have := hb n hn
    show (decide (0 ≤ n) && decide (n ≤ 999)) = true
    rw [decide_eq_true this.1, decide_eq_true this.2]
    rfl
  rw [e2, e3, e4, List.length_map, hl]
  rfl
theorem weights_ok {x y : Int} (x0 : 1 ≤ x) (x1 : x ≤ 99) (y0 : 1 ≤ y) (y1 : y ≤ 99) : weightsD (.tuple [.int x, .int y]) = true := by
  show ((true && (decide ((1 : Int) ≤ 2) && decide ((2 : Int) ≤ 80))) && ((true && (decide (1 ≤ x) && decide (x ≤ 99))) && ((true && (decide (1 ≤ y) && decide (y ≤ 99))) && true))) = true
  rw [decide_eq_true x0, decide_eq_true x1, decide_eq_true y0, decide_eq_true y1]
  rfl
def spShared : Sp := fun vs H Q _ => ∃ c x y rows, vs = [.ref c, .int x, .int y] ∧ IsTh (fun _ => False) H (.ref c) (cD rows) ∧ OkRows rows ∧ 1 ≤ x ∧ x ≤ 99 ∧ 1 ≤ y ∧ y ≤ 99 ∧
  ∀ H' v, Same H H' → IsTh (fun _ => False) H' v (.tuple [cD (rows.map fun r => r.map fun n => p1 n x y), cD (rows.map fun r => r.map fun n => p2 n x y)]) → Q v H'
section
variable {P : Program} {w : World} {K : PySem.W.Frag} {mg : Str → Option Value} {base : Heap}
theorem sc23 : FnScope ["clips", "one", "other", "weights", "shares"] ["clips", "one", "other"] (defScope (top 23)) := ⟨rfl, rfl, rfl, by decide +kernel, rfl, by decide +kernel, by decide +kernel⟩
theorem ok_shared {f : Addr} {fd : FuncData} (F : Fun K "shared_by" "shared_by" (top 23) f fd) (T : Mg mg) (Tr : mg "range" = none) (c1 : Cal P w K mg base 5 "refuse_no_clips" ["thing"] spRefuse) (c2 : Cal P w K mg base 4 "are_weights" ["thing"] (spT weightsD))
    (c3 : Cal P w K mg base 2 "parts_of" ["sacks", "weights"] spParts) : FnOk P w K mg base CX0 6 f fd ["clips", "one", "other"] spShared := by
  refine F.ok sc23 (fun vs H Q E h => ?_) (fun cdv A outer s H vs Q E hr h => ?_)
  · obtain ⟨c, x, y, rows, rfl, _⟩ := h
    rfl
  · obtain ⟨c, x, y, rows, rfl, tc, okr, x0, x1, y0, y1, q⟩ := h
    refine ⟨_, pss_cons (ps_expr (pe_cal c1 hr (by decide) rfl (pa_c (pv 0) pa_nil)))
      (pss_cons (ps_set (i := 3) sc23.nd rfl (Or.inr rfl) (pe_tup (pa_c (pv 1) (pa_c (pv 2) pa_nil))))
      (pss_cons (ps_if (pt_not (pt_val (pe_cal c2 hr (by decide) rfl (pa_c (pv 3) pa_nil)))) (pss_one ps_never) pss_nil)
      (pss_cons (ps_set (i := 4) sc23.nd rfl (Or.inr rfl) (pe_comp ["clip", "weights"] [none, some 3] rfl (pi_tup (pv 0))
        (fun C fp pins s₂ H₂ => ⟨pg_name (i := 0) (nd2 _ _ (by decide)) rfl (Or.inl rfl), pts_nil,
          pe_comp ["sacks", "weights"] [none, some 1] rfl (pi_tupK (K := K) rfl (pv 0)) (fun C fp pins s₂ H₂ => ⟨pg_name (i := 0) (nd2 _ _ (by decide)) rfl (Or.inl rfl), pts_nil, pe_cal c3 hr (by decide) rfl (pa_c (pv 0) (pa_c (pv 1) pa_nil))⟩)
            (fun C => ⟨⟨rfl, .inl rfl, rfl, .inl rfl⟩, trivial⟩) ⟨rfl, rfl, rfl, rfl⟩⟩) (fun C => ⟨⟨rfl, .inl rfl, rfl, .inl rfl⟩, trivial⟩) ⟨rfl, rfl, rfl, rfl⟩))
      (pss_one (ps_ret (pe_callTy call_tuple_of rfl T.tuple boot_tuple (pa_c (pe_compD (x₀ := "house") ["house", "shares"] [none, some 4] rfl (pi_range1 rfl Tr (pa_c pe_int pa_nil))
        (fun C fp pins s₂ H₂ => ⟨pg_name (i := 0) (nd2 _ _ (by decide)) rfl (Or.inr rfl) (Or.inl rfl), pts_nil, pe_callTy (call_tuple_ofK (K := K) rfl) rfl T.tuple boot_tuple (pa_c
          (pe_comp ["row", "house"] [none, some 0] rfl (pi_listK (K := K) rfl (pv 1)) (fun C fp pins s₂ H₂ => ⟨pg_name (i := 0) (nd2 _ _ (by decide)) rfl (Or.inl rfl), pts_nil, pe_callTy (call_tuple_ofK (K := K) rfl) rfl T.tuple boot_tuple (pa_c
            (pe_comp ["parts", "house"] [none, some 1] rfl (pi_listK (K := K) rfl (pv 0)) (fun C fp pins s₂ H₂ => ⟨pg_name (i := 0) (nd2 _ _ (by decide)) rfl (Or.inl rfl), pts_nil, pe_ix (ix_tupK (K := K) rfl) (pv 0) (pv 1) (fun _ _ => rfl)⟩)
              (fun C => ⟨⟨rfl, .inl rfl, rfl, .inl rfl⟩, trivial⟩) ⟨rfl, rfl, rfl, rfl⟩) pa_nil)⟩)
            (fun C => ⟨⟨rfl, .inl rfl, rfl, .inl rfl⟩, trivial⟩) ⟨rfl, rfl, rfl, rfl⟩) pa_nil)⟩)
        (fun C => ⟨⟨rfl, .inl rfl, rfl, .inl rfl⟩, trivial⟩) ⟨rfl, rfl, rfl, rfl, fun _ _ => rfl, fun _ => rfl⟩) pa_nil))))))), ?_⟩
    have lr : ∀ r ∈ rows, r.length = 3 := fun r hr => (okr.2.2 r hr).1
    have hsz : sz (cD rows) ≤ 81 := by
      rw [sz_clips lr]
      have := okr.2.1
      omega
    refine rd_seq ?_
    refine ⟨_, rfl, _, .ref c, cD rows, rfl, tc, by omega, clips_ok okr, fun H1 s1 => ?_⟩
    dsimp only
    refine rd_seq ?_
    refine ⟨_, rfl, _, rfl, (by show 2 ≤ sizeLine; decide), fun wt hwt => ?_⟩
    have s2 := s1.updR (o := .tup [.int x, .int y]) hwt
    have ew := upd_same (H := H1) (a := wt) (o := .tup [.int x, .int y])
    generalize upd H1 wt _ = H2 at s2 ew ⊢
    clear hwt s1
    dsimp only
    refine rd_seq ?_
    refine ⟨_, rfl, fun _ => False, .ref wt, .tuple [.int x, .int y], rfl, .tup ew (.cons (.int _) (.cons (.int _) .nil)), (by show 3 ≤ 4000; decide), fun H3 s3 => ⟨_, rfl, ?_⟩⟩
    rw [weights_ok x0 x1 y0 y1]
    refine iteF ?_
    refine rd_next ?_
    have s4 := s2.trans s3
    have ew4 := s3 _ _ ew
    have tc4 := tc.same s4
    clear s2 s3 ew tc
    cases tc4 with
    | @tup a xs ds ec r =>
    have hxs : xs.length ≤ 20 := by
      have := r.length
      rw [List.length_map] at this
      have := okr.2.1
      omega
    have hl : xs.length < sizeLine := by
      rw [sizeLine_eq]
      omega
    dsimp only
    refine rd_seq ?_
    refine ⟨_, rfl, c, rfl, ⟨xs, SqT.of ec⟩, comp_map (S' := fun _ => True) rowD (fun r => .list (r.map fun n => pairD (p1 n x y, p2 n x y))) (jt ec) r hl ?_ ?_⟩
    · intro v r H5 Q5 hr5 s5 tv q5
      cases tv with
      | @tup a5 xs5 ds5 e5 r5 =>
      have l5 : xs5.length = 3 := by
        have := r5.length
        rw [List.length_map] at this
        rw [this]
        exact lr r hr5
      refine ⟨_, rfl, a5, rfl, ⟨xs5, SqT.of e5⟩, comp_map (S' := fun _ => True) PyData.int (fun n => pairD (p1 n x y, p2 n x y)) (jt e5) r5 (by rw [l5]; decide) ?_ ?_⟩
      · intro v n H6 Q6 hn s6 tv q6
        cases tv
        have hb := (okr.2.2 r hr5).2 n hn
        exact ⟨_, rfl, _, rfl, n, wt, x, y, rfl, s6 _ _ (s5 _ _ ew4), hb.1, hb.2, x0, x1, y0, y1, fun H7 q7 s7 e7 => q6 _ _ s7 (.tup e7 (.cons (.int _) (.cons (.int _) .nil)))⟩
      · intro ys H6 s6 it D hD
        exact q5 _ _ (s6.updR hD) (.lst trivial upd_same (it.same (Same.upd hD)))
    · intro ys H5 s5 it D hD
      have s6 := (s4.trans s5).updR (o := .lst ys) hD
      have it6 := it.same (Same.upd (o := .lst ys) hD)
      have eD := upd_same (H := H5) (a := D) (o := .lst ys)
      generalize upd H5 D (.lst ys) = H6 at s6 it6 eD ⊢
      have hly : ys.length ≤ 20 := by
        have := it.length
        rw [List.length_map] at this
        have := okr.2.1
        omega
      have hly' : ys.length < sizeLine := by
        rw [sizeLine_eq]
        omega
      clear it hD s5 r ec hl hxs ew4
      dsimp only
      refine rd_ret ?_
      refine ⟨2, rfl, by decide, by decide, comp_gen 2 (fun i zs σ Hc => Same H6 Hc ∧ (∃ o, σ = [o, some (.ref D)]) ∧ IsThs (fun _ => False) Hc zs ([cD (rows.map fun r => r.map fun n => p1 n x y), cD (rows.map fun r => r.map fun n => p2 n x y)].take i)) ⟨Same.refl _, ⟨_, rfl⟩, .nil⟩ (by decide) ?_ ?_⟩
      · rintro i zs σ Hc hi hz ⟨s7, ⟨o, rfl⟩, it7⟩
        refine ⟨hi, fun v H' y' R hR => ?_⟩
        obtain ⟨rfl, rfl⟩ := y'
        have two : i = 0 ∨ i = 1 := by omega
        obtain ⟨pk, hpk, hd⟩ : ∃ pk : Int → Int, (∀ n, ([V.int (p1 n x y), V.int (p2 n x y)] : List V)[i]? = some (.int (pk n))) ∧ ([cD (rows.map fun r => r.map fun n => p1 n x y), cD (rows.map fun r => r.map fun n => p2 n x y)].take (i + 1)) = ([cD (rows.map fun r => r.map fun n => p1 n x y), cD (rows.map fun r => r.map fun n => p2 n x y)].take i) ++ [cD (rows.map fun r => r.map pk)] := by
          rcases two with rfl | rfl
          · exact ⟨fun n => p1 n x y, fun _ => rfl, rfl⟩
          · exact ⟨fun n => p2 n x y, fun _ => rfl, rfl⟩
        refine rd_name ?_
        refine ⟨_, rfl, D, rfl, ⟨ys, SqL.of (s7 _ _ eD)⟩, comp_map (S' := fun _ => False) (fun r : List Int => .list (r.map fun n => pairD (p1 n x y, p2 n x y))) (fun r => rowD (r.map pk)) (jl (s7 _ _ eD)) (it6.same s7) hly' ?_ ?_⟩
        · intro v r H8 Q8 hr8 s8 tv q8
          cases tv with
          | @lst a8 xs8 ds8 _ e8 r8 =>
          have l8 : xs8.length = 3 := by
            have := r8.length
            rw [List.length_map] at this
            rw [this]
            exact lr r hr8
          refine ⟨_, rfl, a8, rfl, ⟨xs8, SqL.of e8⟩, comp_map (S' := fun _ => False) (fun n : Int => pairD (p1 n x y, p2 n x y)) (fun n => .int (pk n)) (jl e8) r8 (by rw [l8]; decide) ?_ ?_⟩
          · intro v n H9 Q9 hn s9 tv q9
            obtain ⟨t9, rfl, e9⟩ := two_of tv
            refine ⟨_, rfl, _, rfl, t9, _, _, .int (pk n), rfl, rfl, SqT.of e9, ?_, q9 _ _ (Same.refl _) (.int _)⟩
            rw [Int.zero_add]
            exact atI_nat (hpk n)
          · intro ws H9 s9 it9 D9 hD9
            refine ⟨D9, _, rfl, .inl ⟨SqL.of upd_same, fun t9 ht9 => ?_⟩⟩
            refine q8 _ _ ((s9.updR hD9).updR ht9) (.tup upd_same ?_)
            rw [List.map_map]
            exact it9.same ((Same.upd hD9).updR ht9)
        · intro ws H8 s8 it8 D8 hD8
          refine ⟨D8, _, rfl, .inl ⟨SqL.of upd_same, fun t8 ht8 => ?_⟩⟩
          refine hR _ _ _ ⟨((s7.trans s8).updR hD8).updR ht8, ⟨_, rfl⟩, ?_⟩
          rw [hd]
          refine (it7.same ((s8.updR hD8).updR ht8)).append (.cons (.tup upd_same ?_) .nil)
          rw [List.map_map]
          exact it8.same ((Same.upd hD8).updR ht8)
      · rintro zs σ Hc hz ⟨s7, _, it7⟩
        refine ⟨Nat.le_refl _, fun D7 hD7 => ?_⟩
        refine ⟨D7, _, rfl, .inl ⟨SqL.of upd_same, fun t7 ht7 => ?_⟩⟩
        exact q _ _ (((s6.trans s7).updR hD7).updR ht7) (.tup upd_same (it7.same ((Same.upd hD7).updR ht7)))
end
end K62

set_option Elab.async false
set_option linter.all false
set_option maxRecDepth 100000
set_option maxHeartbeats 400000
namespace K62
open PySem L2
/-- the state of the draws, at st -/
def StAt (H : Hp) (st : Addr) : Prop := ∃ a b c : Int, H st = some (.lst [.int a, .int b, .int c]) ∧ 0 ≤ a ∧ 0 ≤ b ∧ b < 4294967296
/-- nothing that there was is turned, but the draws at st -/
structure Dr (st : Addr) (H H' : Hp) : Prop where
  bt : ∀ b o, H b = some o → b ≠ st → H' b = some o
  sa : StAt H' st
theorem Dr.same {st : Addr} {H H1 H2 : Hp} (g : Dr st H H1) (s : Same H1 H2) : Dr st H H2 := by
  obtain ⟨a, b, c, e, h⟩ := g.sa
  exact ⟨fun b' o' e' ne => s _ _ (g.bt b' o' e' ne), a, b, c, s _ _ e, h⟩
theorem Dr.trans {st : Addr} {H H1 H2 : Hp} (g : Dr st H H1) (g' : Dr st H1 H2) : Dr st H H2 := ⟨fun b' o' e' ne => g'.bt _ _ (g.bt b' o' e' ne) ne, g'.sa⟩
theorem Dr.refl {st : Addr} {H : Hp} (h : StAt H st) : Dr st H H := ⟨fun _ _ e _ => e, h⟩
theorem Dr.draw {st : Addr} {H H1 : Hp} (g : Dr st H H1) {a b c : Int} (h1 : 0 ≤ a) (h2 : 0 ≤ b) (h3 : b < 4294967296) : Dr st H (upd H1 st (.lst [.int a, .int b, .int c])) :=
  ⟨fun b' o' e' ne => by rw [upd_ne ne]; exact g.bt _ _ e' ne, a, b, c, upd_same, h1, h2, h3⟩
theorem Dr.ne {st p : Addr} {H H1 : Hp} (g : Dr st H H1) (hp : H1 p = none) : p ≠ st := fun z => by
  obtain ⟨a, b, c, e, _⟩ := g.sa
  rw [z, e] at hp
  cases hp
theorem Dr.tups {st : Addr} {H H1 : Hp} (g : Dr st H H1) (h0 : StAt H st) : ∀ b xs, H b = some (.tup xs) → H1 b = some (.tup xs) := fun b xs e => g.bt _ _ e fun z => by
  obtain ⟨_, _, _, e', _⟩ := h0
  rw [z, e'] at e
  cases e
theorem Dr.th {st : Addr} {H H1 : Hp} {v : V} {d : PyData} (g : Dr st H H1) (h0 : StAt H st) (t : IsTh (fun _ => False) H v d) : IsTh (fun _ => False) H1 v d := t.keep (g.tups h0) (fun _ _ z _ => z.elim) fun _ _ z _ => z.elim
theorem Dr.ths {st : Addr} {H H1 : Hp} {vs : List V} {ds : List PyData} (g : Dr st H H1) (h0 : StAt H st) (t : IsThs (fun _ => False) H vs ds) : IsThs (fun _ => False) H1 vs ds := t.keep (g.tups h0) (fun _ _ z _ => z.elim) fun _ _ z _ => z.elim
def spCell (K : PySem.W.Frag) : Sp := fun vs H Q _ => ∃ (a : Addr) (ns : List Int) (k : Int), vs = [.ref a, .int k] ∧ SqL K H a (ns.map V.int) ∧ 0 ≤ k ∧ ∀ i, Q (.int i) H
def spState (K : PySem.W.Frag) : Sp := fun vs H Q _ => ∃ (a : Addr) (ns : List Int) (k : Int), vs = [.ref a, .int k] ∧ SqL K H a (ns.map V.int) ∧ 0 ≤ k ∧ ∀ (p : Addr) (x y z : Int), H p = none → 0 ≤ x → 0 ≤ y → y < 4294967296 → Q (.ref p) (upd H p (.lst [.int x, .int y, .int z]))
def spChoice : Sp := fun vs H Q _ => ∃ (st : Addr) (n : Int), vs = [.ref st, .int n] ∧ StAt H st ∧ 1 ≤ n ∧ n < 1073741824 ∧ ∀ r a b c : Int, 0 ≤ r → r < n → 0 ≤ a → 0 ≤ b → b < 4294967296 → Q (.int r) (upd H st (.lst [.int a, .int b, .int c]))
def spSame : Sp := fun vs H Q _ => ∃ S v u d e, vs = [v, u] ∧ ¬ S sysModules ∧ IsTh S H v d ∧ IsTh S H u e ∧ tame d = true ∧ tame e = true ∧ sz d ≤ 1000 ∧ sz e ≤ 1000 ∧ Q (.bl (decide (V.str d.shown = V.str e.shown))) H
def spPart : Sp := fun vs H Q _ => ∃ n x y, vs = [.int n, .int x, .int y] ∧ 0 ≤ n ∧ n ≤ 999 ∧ 1 ≤ x ∧ x ≤ 99 ∧ 1 ≤ y ∧ y ≤ 99 ∧ ∀ H', Same H H' → Q (.int (p1 n x y)) H'
def spClips : Sp := fun vs H Q _ => ∃ st n, vs = [.ref st, .int n] ∧ StAt H st ∧ 1 ≤ n ∧ n ≤ 20 ∧ ∀ c rows H', Dr st H H' → OkRows rows → IsTh (fun _ => False) H' (.ref c) (cD rows) → Q (.ref c) H'
theorem boot_max' : bootBuiltins "max" = some (.builtin "max") := by decide +kernel
theorem boot_min' : bootBuiltins "min" = some (.builtin "min") := by decide +kernel
theorem boot_repr' : bootBuiltins "repr" = some (.builtin "repr") := by decide +kernel
theorem boot_divmod : bootBuiltins "divmod" = some (.builtin "divmod") := by decide +kernel
theorem room_sz {A : Around} {k : Nat} (hr : Room k A) (hk : 60 ≤ k) {d : PyData} (h : sz d ≤ 1000) : A.units + (sz d + 1) < cLine := by
  have := hr.un
  omega
section
variable {P : Program} {w : World} {K : PySem.W.Frag} {mg : Str → Option Value} {base : Heap}
theorem sc25 : FnScope ["_law_script", "_law_k"] ["_law_script", "_law_k"] (defScope (top 25)) := ⟨rfl, rfl, rfl, by decide +kernel, rfl, by decide +kernel, by decide +kernel⟩
theorem ok_cell {f : Addr} {fd : FuncData} (F : Fun K "_law_cell_at" "_law_cell_at" (top 25) f fd) (T : Mg mg) : FnOk P w K mg base CX0 1 f fd ["_law_script", "_law_k"] (spCell K) := by
  refine F.ok sc25 (fun vs H Q E h => ?_) (fun cdv A outer s H vs Q E hr h => ?_)
  · obtain ⟨a, ns, k, rfl, _⟩ := h
    rfl
  · obtain ⟨a, ns, k, rfl, hS, h0, q⟩ := h
    refine ⟨_, pss_cons (ps_if (pt_cmpR op_lt (pv 1) (pe_callB call_len_seq rfl T.len PySem.boot_len (pa_cons (pv 0) pa_nil)) (nomark _)) (pss_one (ps_ret (pe_ix ix_list (pv 0) (pv 1) (fun _ _ => rfl)))) pss_nil) (pss_one (ps_ret pe_int)), ?_⟩
    refine ⟨_, rfl, _, rfl, a, _, rfl, .inl hS, _, _, rfl, rfl, _, rfl, ?_⟩
    refine ite2 (fun c => ?_) (fun _ => q 0)
    have c := of_decide_eq_true c
    rw [List.length_map] at c
    have hk : k.toNat < ns.length := by omega
    refine ⟨_, rfl, _, rfl, a, _, k, .int ns[k.toNat], rfl, rfl, hS, ?_, q _⟩
    have e : (ns.map V.int)[k.toNat]? = some (.int ns[k.toNat]) := by rw [List.getElem?_map, List.getElem?_eq_getElem hk]; rfl
    have := atI_nat e
    rw [show ((k.toNat : Nat) : Int) = k by omega] at this
    exact this
theorem sc26 : FnScope ["_law_script", "_law_k", "_law_cell"] ["_law_script", "_law_k"] (defScope (top 26)) := ⟨rfl, rfl, rfl, by decide +kernel, rfl, by decide +kernel, by decide +kernel⟩
theorem ok_state {f : Addr} {fd : FuncData} (F : Fun K "_law_state" "_law_state" (top 26) f fd) (Tm : mg "max" = none) (c1 : Cal P w K mg base 1 "_law_cell_at" ["_law_script", "_law_k"] (spCell K)) : FnOk P w K mg base CX0 2 f fd ["_law_script", "_law_k"] (spState K) := by
  refine F.ok sc26 (fun vs H Q E h => ?_) (fun cdv A outer s H vs Q E hr h => ?_)
  · obtain ⟨a, ns, k, rfl, _⟩ := h
    rfl
  · obtain ⟨a, ns, k, rfl, hS, h0, q⟩ := h
    refine ⟨_, pss_cons (ps_set (i := 2) sc26.nd rfl (Or.inl rfl) (pe_cal c1 hr (Nat.le_refl _) rfl (pa_cons (pv 0) (pa_cons (pv 1) pa_nil))))
      (pss_one (ps_ret (pe_lst (pa_c (pe_callB (call_max2 rfl) rfl Tm boot_max' (pa_c pe_int (pa_c (pe_op op_sub (pv 2) (pe_op op_pow pe_int pe_int)) pa_nil))) (pa_c (pe_op op_add (pe_op op_mod (pv 2) pe_int) pe_int) (pa_c pe_int pa_nil)))))), ?_⟩
    refine ⟨_, rfl, _, rfl, a, ns, k, rfl, hS, h0, fun c => ?_⟩
    refine ⟨_, rfl, _, _, rfl, rfl, ⟨by decide, by decide, by decide⟩, _, _, rfl, rfl, _, _, rfl, _, rfl, _, _, rfl, rfl, (by show (0 : Int) < 2147483629; decide), _, _, rfl, rfl, (by show 3 ≤ sizeLine; decide), fun p hp => ?_⟩
    refine q p _ _ _ hp ?_ ?_ ?_
    · split <;> omega
    · show 0 ≤ c % 2147483629 + 1
      omega
    · show c % 2147483629 + 1 < 4294967296
      omega
theorem sc27 : FnScope ["_law_state_here", "_law_many", "_law_found", "_law_mixed"] ["_law_state_here", "_law_many"] (defScope (top 27)) := ⟨rfl, rfl, rfl, by decide +kernel, rfl, by decide +kernel, by decide +kernel⟩
theorem ok_choice {f : Addr} {fd : FuncData} (F : Fun K "_law_choice" "_law_choice" (top 27) f fd) : FnOk P w K mg base CX0 1 f fd ["_law_state_here", "_law_many"] spChoice := by
  refine F.ok sc27 (fun vs H Q E h => ?_) (fun cdv A outer s H vs Q E hr h => ?_)
  · obtain ⟨st, n, rfl, _⟩ := h
    rfl
  · obtain ⟨st, n, rfl, ⟨a, b, c, es, ha, hb, hb2⟩, h1, h2, q⟩ := h
    refine ⟨_, pss_cons (ps_if (pt_cmpR op_gt (pe_ix ix_list (pv 0) pe_int (fun _ _ => rfl)) pe_int (nomark _))
        (pss_cons (ps_set (i := 2) sc27.nd rfl (Or.inl rfl) (pe_op op_mod (pe_ix ix_list (pv 0) pe_int (fun _ _ => rfl)) (pv 1)))
          (pss_cons (ps_asg (pe_op op_fdiv (pe_ix ix_list (pv 0) pe_int (fun _ _ => rfl)) (pv 1)) (pg_sub (pv 0) pe_int set_list)) (pss_one (ps_ret (pv 2))))) pss_nil)
      (pss_cons (ps_asg (pe_op op_add (pe_ix ix_list (pv 0) pe_int (fun _ _ => rfl)) pe_int) (pg_sub (pv 0) pe_int set_list))
      (pss_cons (ps_asg (pe_op op_mod (pe_op op_add (pe_op op_add (pe_op op_mul (pe_ix ix_list (pv 0) pe_int (fun _ _ => rfl)) pe_int) pe_int) (pe_ix ix_list (pv 0) pe_int (fun _ _ => rfl))) pe_int) (pg_sub (pv 0) pe_int set_list))
      (pss_cons (ps_set (i := 3) sc27.nd rfl (Or.inl rfl) (pe_op op_mod (pe_op op_add (pe_op op_add (pe_op op_mul (pe_ix ix_list (pv 0) pe_int (fun _ _ => rfl)) (pe_ix ix_list (pv 0) pe_int (fun _ _ => rfl))) (pe_op op_mul pe_int (pe_ix ix_list (pv 0) pe_int (fun _ _ => rfl)))) pe_int) pe_int))
      (pss_cons (ps_set (i := 3) sc27.nd rfl (Or.inl rfl) (pe_op op_mod (pe_op op_add (pe_op op_mul (pv 3) (pv 3)) (pe_op op_mul pe_int (pv 3))) pe_int))
      (pss_one (ps_ret (pe_op op_mod (pe_op op_fdiv (pv 3) pe_int) (pv 1)))))))), ?_⟩
    refine ⟨_, rfl, st, _, 0, .int a, rfl, rfl, SqL.of es, rfl, _, _, rfl, rfl, _, rfl, ?_⟩
    refine ite2 (fun hc => ?_) (fun _ => ?_)
    · refine ⟨_, rfl, st, _, 0, .int a, rfl, rfl, SqL.of es, rfl, _, rfl, _, _, rfl, rfl, (by show 0 < n; omega), ?_⟩
      refine ⟨_, rfl, st, _, 0, .int a, rfl, rfl, SqL.of es, rfl, _, rfl, _, _, rfl, rfl, ⟨by omega, h2⟩, _, rfl, st, _, 0, 0, rfl, rfl, es, rfl, _, rfl, ?_⟩
      exact q (a % n) (a / n) b c (Int.emod_nonneg a (by omega)) (Int.emod_lt_of_pos a (by omega)) (Int.ediv_nonneg ha (by omega)) hb hb2
    · refine ⟨_, rfl, st, _, 2, .int c, rfl, rfl, SqL.of es, rfl, _, _, rfl, rfl, _, rfl, st, _, 2, 2, rfl, rfl, es, rfl, ?_⟩
      have eL : ([V.int a, V.int b, V.int c].set 2 ((fun i j : Int => V.int (i + j)) c 1)) = [V.int a, V.int b, V.int (c + 1)] := rfl
      rw [eL]
      have es1 : upd H st (.lst [.int a, .int b, .int (c + 1)]) st = some (.lst [.int a, .int b, .int (c + 1)]) := upd_same
      refine ⟨_, rfl, st, _, 1, .int b, rfl, rfl, SqL.of es1, rfl, _, _, rfl, rfl, .inl ⟨by omega, by omega⟩, _, _, rfl, rfl, _, rfl, st, _, 2, .int (c + 1), rfl, rfl, SqL.of es1, rfl, _, _, rfl, rfl, _, _, rfl, rfl, (by show (0 : Int) < 2147483647; decide), _, rfl, st, _, 1, 1, rfl, rfl, es1, rfl, ?_⟩
      have hm0 : 0 ≤ (b * 48271 + 29 + (c + 1)) % 2147483647 := Int.emod_nonneg _ (by decide)
      have hm1 : (b * 48271 + 29 + (c + 1)) % 2147483647 < 2147483647 := Int.emod_lt_of_pos _ (by decide)
      obtain ⟨m, hm⟩ : ∃ m, m = (b * 48271 + 29 + (c + 1)) % 2147483647 := ⟨_, rfl⟩
      rw [← hm] at hm0 hm1
      have eL : ([V.int a, V.int b, V.int (c + 1)].set 1 ((fun i j : Int => V.int (i % j)) (b * 48271 + 29 + (c + 1)) 2147483647)) = [V.int a, V.int m, V.int (c + 1)] := by rw [hm]; rfl
      rw [eL]
      have eu : upd (upd H st (.lst [.int a, .int b, .int (c + 1)])) st (.lst [.int a, .int m, .int (c + 1)]) = upd H st (.lst [.int a, .int m, .int (c + 1)]) := by
        funext z
        by_cases hz : z = st
        · rw [hz, upd_same, upd_same]
        · rw [upd_ne hz, upd_ne hz, upd_ne hz]
      rw [eu]
      have es' : upd H st (.lst [.int a, .int m, .int (c + 1)]) st = some (.lst [.int a, .int m, .int (c + 1)]) := upd_same
      refine ⟨_, rfl, st, _, 1, .int m, rfl, rfl, SqL.of es', rfl, _, rfl, st, _, 1, .int m, rfl, rfl, SqL.of es', rfl, _, _, rfl, rfl, .inl ⟨by omega, by omega⟩, _, rfl, st, _, 1, .int m, rfl, rfl, SqL.of es', rfl, _, _, rfl, rfl, .inl ⟨by decide, by decide⟩, _, _, rfl, rfl, _, _, rfl, rfl, _, _, rfl, rfl, (by show (0 : Int) < 2147483629; decide), ?_⟩
      have hx0 : 0 ≤ (m * m + 39373 * m + 7) % 2147483629 := Int.emod_nonneg _ (by decide)
      have hx1 : (m * m + 39373 * m + 7) % 2147483629 < 2147483629 := Int.emod_lt_of_pos _ (by decide)
      refine ⟨_, rfl, _, rfl, _, _, rfl, rfl, .inl ⟨Int.lt_of_lt_of_le (by decide) hx0, Int.lt_trans hx1 (by decide)⟩, _, rfl, _, _, rfl, rfl, .inl ⟨by decide, by decide⟩, _, _, rfl, rfl, _, _, rfl, rfl, (by show (0 : Int) < 2147483587; decide), ?_⟩
      refine ⟨_, rfl, _, _, rfl, rfl, ⟨by decide, by decide⟩, _, rfl, _, _, rfl, rfl, (by show 0 < n; omega), ?_⟩
      exact q _ a m (c + 1) (Int.emod_nonneg _ (by omega)) (Int.emod_lt_of_pos _ (by omega)) ha hm0 (by omega)
theorem sc28 : FnScope ["_law_found", "_law_due"] ["_law_found", "_law_due"] (defScope (top 28)) := ⟨rfl, rfl, rfl, by decide +kernel, rfl, by decide +kernel, by decide +kernel⟩
theorem ok_same {f : Addr} {fd : FuncData} (F : Fun K "_law_same" "_law_same" (top 28) f fd) (Tr : mg "repr" = none) : FnOk P w K mg base CX0 61 f fd ["_law_found", "_law_due"] spSame := by
  refine F.ok sc28 (fun vs H Q E h => ?_) (fun cdv A outer s H vs Q E hr h => ?_)
  · obtain ⟨S, v, u, d, e, rfl, _⟩ := h
    rfl
  · obtain ⟨S, v, u, d, e, rfl, hS, t1, t2, m1, m2, z1, z2, q⟩ := h
    refine ⟨_, pss_one (ps_ret (pe_cmpR op_eq (pe_callB (call_repr (S := S) hr.gd hS) rfl Tr boot_repr' (pa_cons (pv 0) pa_nil)) (pe_callB (call_repr (S := S) hr.gd hS) rfl Tr boot_repr' (pa_cons (pv 1) pa_nil)) (nomark _))), ?_⟩
    exact ⟨_, rfl, v, d, rfl, t1, m1, by omega, room_sz hr (Nat.le_refl _) z1, _, rfl, u, e, rfl, t2, m2, by omega, room_sz hr (Nat.le_refl _) z2, rfl, q⟩
theorem sc30 : FnScope ["_law_sacks", "_law_one", "_law_other", "_law_first", "_law_rest", "_law_back", "_law_lone"] ["_law_sacks", "_law_one", "_law_other"] (defScope (top 30)) := ⟨rfl, rfl, rfl, by decide +kernel, rfl, by decide +kernel, by decide +kernel⟩
theorem ok_part {f : Addr} {fd : FuncData} (F : Fun K "_law_part" "_law_part" (top 30) f fd) (T : Mg mg) (Td : mg "divmod" = none) : FnOk P w K mg base CX0 1 f fd ["_law_sacks", "_law_one", "_law_other"] spPart := by
  refine F.ok sc30 (fun vs H Q E h => ?_) (fun cdv A outer s H vs Q E hr h => ?_)
  · obtain ⟨n, x, y, rfl, _⟩ := h
    rfl
  · obtain ⟨n, x, y, rfl, n0, n1, x0, x1, y0, y1, q⟩ := h
    refine ⟨_, pss_cons (ps_asg (pe_callB call_divmod rfl Td boot_divmod (pa_c (pe_op op_mul (pv 0) (pv 1)) (pa_c (pe_op op_add (pv 1) (pv 2)) pa_nil))) (pg_tup rfl (pgs_cons (pg_name (i := 3) sc30.nd rfl (Or.inl rfl)) (pgs_cons (pg_name (i := 4) sc30.nd rfl (Or.inl rfl)) pgs_nil))))
      (pss_cons (ps_set (i := 5) sc30.nd rfl (Or.inl rfl) (pe_op op_mod (pe_op op_mul (pv 0) (pv 2)) (pe_op op_add (pv 1) (pv 2))))
      (pss_cons (ps_set (i := 6) sc30.nd rfl (Or.inl rfl) (pe_op op_sub (pe_op op_sub (pv 0) (pv 3)) (pe_op op_fdiv (pe_op op_mul (pv 0) (pv 2)) (pe_op op_add (pv 1) (pv 2)))))
      (pss_one (ps_ret (pe_op op_add (pv 3) (pe_callTy call_int1 rfl T.int boot_int (pa_cons (pe_and (pe_cmpR op_eq (pv 6) pe_int (nomark _)) (pe_one (pe_cmpR op_ge (pv 4) (pv 5) (nomark _)))) pa_nil))))))), ?_⟩
    refine rd_seq ?_
    refine ⟨_, rfl, _, rfl, _, _, rfl, rfl, .inl ⟨by omega, by omega⟩, _, rfl, _, rfl, _, _, rfl, rfl, _, _, rfl, ⟨by omega, by omega⟩, fun p hp => ?_⟩
    refine ⟨p, _, rfl, SqT.of upd_same, rfl, _, _, rfl, _, _, rfl, rfl, ?_⟩
    have s1 := Same.upd (o := .tup [.int (n * x / (x + y)), .int (n * x % (x + y))]) hp
    generalize upd H p (.tup [.int (n * x / (x + y)), .int (n * x % (x + y))]) = H1 at s1 ⊢
    dsimp only
    refine rd_seq ?_
    refine ⟨_, rfl, _, rfl, _, _, rfl, rfl, .inl ⟨by omega, by omega⟩, _, rfl, _, rfl, _, _, rfl, rfl, _, _, rfl, rfl, (by show 0 < x + y; omega), ?_⟩
    dsimp only
    refine rd_seq ?_
    refine ⟨_, rfl, _, rfl, _, _, rfl, rfl, _, rfl, _, rfl, _, _, rfl, rfl, .inl ⟨by omega, by omega⟩, _, rfl, _, rfl, _, _, rfl, rfl, _, _, rfl, rfl, ⟨by omega, by omega⟩, _, _, rfl, rfl, ?_⟩
    dsimp only
    refine rd_ret ?_
    have fin := q H1 s1
    have el : n - n * x / (x + y) - n * y / (x + y) = lf n x y := by
      unfold lf
      omega
    refine ⟨_, rfl, ?_⟩
    have e2 : decide (V.int (n - n * x / (x + y) - n * y / (x + y)) = V.int 1) = decide (lf n x y = 1) := by
      rw [el]
      exact decide_eq_decide.mpr ⟨fun z => by injection z, fun z => by rw [z]⟩
    refine ev_and (b := decide (lf n x y = 1)) (c := decide (n * y % (x + y) ≤ n * x % (x + y))) (fun Q h => ⟨_, rfl, rfl, by rw [← e2] at h; exact h⟩) (fun _ Q h => ⟨_, rfl, _, rfl, _, _, rfl, rfl, h⟩) _ (.inr ⟨_, rfl, _, _, rfl, rfl, ?_⟩)
    · show Q (.int (n * x / (x + y) + _)) H1
      unfold p1 at fin
      by_cases h1 : lf n x y = 1
      · by_cases h2 : n * y % (x + y) ≤ n * x % (x + y)
        · rw [if_pos ⟨h1, h2⟩] at fin
          rw [decide_eq_true h1, decide_eq_true h2]
          exact fin
        · rw [if_neg (fun z => h2 z.2)] at fin
          rw [decide_eq_true h1, decide_eq_false h2]
          exact fin
      · rw [if_neg (fun z => h1 z.1)] at fin
        rw [decide_eq_false h1]
        exact fin
end
end K62

set_option Elab.async false
set_option linter.all false
set_option maxRecDepth 100000
set_option maxHeartbeats 400000
namespace K62
open PySem L2
theorem ok_b {X : Cx} {body : List Stmt} {t : TS} {R : TS → Prop} (h : BSs X body t) (q : R t) : ∃ t, PSs X body t ∧ R t := ⟨t, h.run, q⟩
theorem be_three {X : Cx} {i j k : Int} {a b c p q r pos} : BE X (.List [.Constant (.int i) a p, .Constant (.int j) b q, .Constant (.int k) c r] pos) (tLst (tInts [i, j, k])) := ⟨pe_lst (pa_ints (.cons (.cons (.cons .nil))))⟩
section
variable {P : Program} {w : World} {K : PySem.W.Frag} {mg : Str → Option Value} {base : Heap}
theorem nd29 : (["_law_year", "_law_state_here", "_law_wide"] : List Str).Nodup := by decide +kernel
theorem sc29 : FnScope ["_law_state_here", "_law_most", "_law_wide", "_law_many"] ["_law_state_here", "_law_most"] (defScope (top 29)) := ⟨rfl, rfl, rfl, by decide +kernel, rfl, by decide +kernel, by decide +kernel⟩
theorem ok_clips {f : Addr} {fd : FuncData} (F : Fun K "_law_clips" "_law_clips" (top 29) f fd) (T : Mg mg) (Tr : mg "range" = none) (c1 : Cal P w K mg base 1 "_law_choice" ["_law_state_here", "_law_many"] spChoice) : FnOk P w K mg base CX0 2 f fd ["_law_state_here", "_law_most"] spClips := by
  refine F.ok sc29 (fun vs H Q E h => ?_) (fun cdv A outer s H vs Q E hr h => ?_)
  · obtain ⟨st, n, rfl, _⟩ := h
    rfl
  · obtain ⟨st, n, rfl, hst, n0, n1, q⟩ := h
    refine ok_b (bss_cons (bs_set (i := 2) sc29.nd rfl (Or.inr rfl) (be_ix ix_list (be_lst (ab_c be_three (ab_c be_three (ab_c be_three (ab_c be_three (ab_c be_three aa_nil)))))) ⟨pe_cal c1 hr (by decide) rfl (pa_c (pv 0) (pa_c pe_int pa_nil))⟩ (fun _ _ => rfl)))
      (bss_cons ⟨ps_set (i := 3) sc29.nd rfl (Or.inl rfl) (pe_op op_add pe_int (pe_cal c1 hr (by decide) rfl (pa_c (pv 0) (pa_c (pv 1) pa_nil))))⟩
      (bss_one ⟨ps_ret (pe_callTy call_tuple_of rfl T.tuple boot_tuple (pa_c (pe_comp ["_law_year", "_law_state_here", "_law_wide"] [none, some 0, some 2] rfl (pi_range1 rfl Tr (pa_c (pv 3) pa_nil))
        (fun C fp pins s₂ H₂ => ⟨pg_name (i := 0) nd29 rfl (Or.inl rfl), pts_nil, pe_callTy (call_tuple_ofK (K := K) rfl) rfl T.tuple boot_tuple (pa_c
          (pe_comp ["_law_one", "_law_state_here"] [none, some 1] rfl (pi_listK (K := K) rfl (pv 2)) (fun C fp pins s₂ H₂ => ⟨pg_name (i := 0) (nd2 _ _ (by decide)) rfl (Or.inl rfl), pts_nil, pe_cal c1 hr (by decide) rfl (pa_c (pv 1) (pa_c (pv 0) pa_nil))⟩)
            (fun C => ⟨⟨rfl, .inl rfl, rfl, .inl rfl⟩, trivial⟩) ⟨rfl, rfl, rfl, rfl⟩) pa_nil)⟩)
        (fun C => ⟨⟨rfl, .inl rfl, rfl, .inl rfl⟩, ⟨rfl, .inl rfl, rfl, .inl rfl⟩, trivial⟩) ⟨rfl, rfl, rfl, rfl⟩) pa_nil))⟩))) ?_
    refine rd_seq ?_
    refine rd_asg ?_
    refine ⟨(by show 3 ≤ sizeLine; decide), fun l1 h1 => ⟨(by show 3 ≤ sizeLine; decide), fun l2 h2 => ⟨(by show 3 ≤ sizeLine; decide), fun l3 h3 => ⟨(by show 3 ≤ sizeLine; decide), fun l4 h4 => ⟨(by show 3 ≤ sizeLine; decide), fun l5 h5 => ⟨(by show 5 ≤ sizeLine; decide), fun L hL => ?_⟩⟩⟩⟩⟩⟩
    have m1 := Same.upd (o := .lst (([3, 3, 3] : List Int).map V.int)) h1
    have m2 := Same.upd (o := .lst (([12, 30, 30] : List Int).map V.int)) h2
    have m3 := Same.upd (o := .lst (([60, 3, 200] : List Int).map V.int)) h3
    have m4 := Same.upd (o := .lst (([1, 1, 1] : List Int).map V.int)) h4
    have m5 := Same.upd (o := .lst (([1000, 1000, 1000] : List Int).map V.int)) h5
    have m6 := Same.upd (o := .lst [V.ref l1, V.ref l2, V.ref l3, V.ref l4, V.ref l5]) hL
    have f5 := m6 _ _ (upd_same (a := l5) (o := .lst (([1000, 1000, 1000] : List Int).map V.int)))
    have f4 := m6 _ _ (m5 _ _ (upd_same (a := l4) (o := .lst (([1, 1, 1] : List Int).map V.int))))
    have f3 := m6 _ _ (m5 _ _ (m4 _ _ (upd_same (a := l3) (o := .lst (([60, 3, 200] : List Int).map V.int)))))
    have f2 := m6 _ _ (m5 _ _ (m4 _ _ (m3 _ _ (upd_same (a := l2) (o := .lst (([12, 30, 30] : List Int).map V.int))))))
    have f1 := m6 _ _ (m5 _ _ (m4 _ _ (m3 _ _ (m2 _ _ (upd_same (a := l1) (o := .lst (([3, 3, 3] : List Int).map V.int)))))))
    have ms := m1.trans (m2.trans (m3.trans (m4.trans (m5.trans m6))))
    have fL : upd (upd (upd (upd (upd (upd H l1 (.lst (([3, 3, 3] : List Int).map V.int))) l2 (.lst (([12, 30, 30] : List Int).map V.int))) l3 (.lst (([60, 3, 200] : List Int).map V.int))) l4 (.lst (([1, 1, 1] : List Int).map V.int))) l5 (.lst (([1000, 1000, 1000] : List Int).map V.int))) L (.lst [V.ref l1, V.ref l2, V.ref l3, V.ref l4, V.ref l5]) L = some (.lst [V.ref l1, V.ref l2, V.ref l3, V.ref l4, V.ref l5]) := upd_same
    have old : ∀ b o, H b = some o → b ≠ l1 ∧ b ≠ l2 ∧ b ≠ l3 ∧ b ≠ l4 ∧ b ≠ l5 ∧ b ≠ L := fun b o e => ⟨ne_of_none e h1, ne_of_none (m1 _ _ e) h2, ne_of_none (m2 _ _ (m1 _ _ e)) h3, ne_of_none (m3 _ _ (m2 _ _ (m1 _ _ e))) h4, ne_of_none (m4 _ _ (m3 _ _ (m2 _ _ (m1 _ _ e)))) h5, ne_of_none (m5 _ _ (m4 _ _ (m3 _ _ (m2 _ _ (m1 _ _ e))))) hL⟩
    obtain ⟨a0, b0, c0, es0, _⟩ := id hst
    obtain ⟨v1, v2, v3, v4, v5, v6⟩ := old _ _ es0
    generalize upd (upd (upd (upd (upd (upd H l1 _) l2 _) l3 _) l4 _) l5 _) L _ = H1 at f1 f2 f3 f4 f5 fL ms ⊢
    clear m1 m2 m3 m4 m5 m6 h1 h2 h3 h4 h5 hL old
    have hst1 : StAt H1 st := by
      obtain ⟨a, b, c, e, h⟩ := hst
      exact ⟨a, b, c, ms _ _ e, h⟩
    have g1 : Dr st H H1 := ⟨fun b o e _ => ms _ _ e, hst1⟩
    refine ⟨_, rfl, st, 5, rfl, hst1, by decide, by decide, fun r a b c r0 r1 a0 b0 b1 => ?_⟩
    have wides : ∃ wd ws, ([V.ref l1, V.ref l2, V.ref l3, V.ref l4, V.ref l5] : List V)[r.toNat]? = some (.ref wd) ∧ H1 wd = some (.lst ((ws : List Int).map V.int)) ∧ wd ≠ st ∧ ws.length = 3 ∧ ∀ x ∈ ws, 1 ≤ x ∧ x ≤ 1000 := by
      have : r.toNat = 0 ∨ r.toNat = 1 ∨ r.toNat = 2 ∨ r.toNat = 3 ∨ r.toNat = 4 := by omega
      rcases this with z | z | z | z | z <;> rw [z]
      · exact ⟨l1, _, rfl, f1, v1.symm, rfl, by decide⟩
      · exact ⟨l2, _, rfl, f2, v2.symm, rfl, by decide⟩
      · exact ⟨l3, _, rfl, f3, v3.symm, rfl, by decide⟩
      · exact ⟨l4, _, rfl, f4, v4.symm, rfl, by decide⟩
      · exact ⟨l5, _, rfl, f5, v5.symm, rfl, by decide⟩
    obtain ⟨wd, ws, ei, ewd, nwd, lws, bws⟩ := wides
    have g2 : Dr st H (upd H1 st (.lst [.int a, .int b, .int c])) := g1.draw a0 b0 b1
    refine ⟨L, _, r, .ref wd, rfl, rfl, SqL.of (by rw [upd_ne v6.symm]; exact fL), ?_, ?_⟩
    · have := atI_nat ei
      rw [show ((r.toNat : Nat) : Int) = r by omega] at this
      exact this
    have ewd2 : upd H1 st (.lst [.int a, .int b, .int c]) wd = some (.lst (ws.map V.int)) := by
      rw [upd_ne nwd]
      exact ewd
    generalize upd H1 st (.lst [.int a, .int b, .int c]) = H2 at g2 ewd2 ⊢
    clear f1 f2 f3 f4 f5 fL ms g1 hst1 ewd ei
    refine rd_name ?_
    dsimp only
    refine rd_seq ?_
    refine ⟨_, rfl, _, rfl, st, n, rfl, g2.sa, n0, by omega, fun m a b c m0 m1 a0 b0 b1 => ⟨_, _, rfl, rfl, ?_⟩⟩
    have g3 := g2.draw (c := c) a0 b0 b1
    have ewd3 : upd H2 st (.lst [.int a, .int b, .int c]) wd = some (.lst (ws.map V.int)) := by
      rw [upd_ne nwd]
      exact ewd2
    generalize upd H2 st (.lst [.int a, .int b, .int c]) = H3 at g3 ewd3 ⊢
    clear g2 ewd2
    dsimp only
    refine rd_ret ?_
    refine ⟨_, rfl, 1 + m, rfl, by omega, by omega, ?_⟩
    have lz : (1 + m).toNat < sizeLine := by
      rw [sizeLine_eq]
      omega
    refine comp_gen (1 + m).toNat (fun i ys σ Hc => Dr st H3 Hc ∧ (∃ o, σ = [o, some (.ref st), some (.ref wd)]) ∧ ∃ rows : List (List Int), rows.length = i ∧ (∀ r ∈ rows, OkRow r) ∧ IsThs (fun _ => False) Hc ys (rows.map rowD)) ⟨Dr.refl g3.sa, ⟨_, rfl⟩, [], rfl, fun _ h => (List.not_mem_nil h).elim, .nil⟩ lz ?_ ?_
    · rintro i ys σ Hc hi hy ⟨g4, ⟨o, rfl⟩, rows, lrows, okr, it⟩
      refine ⟨hi, fun v H' y R hR => ?_⟩
      obtain ⟨eH, rfl⟩ := y
      subst H'
      refine rd_name ?_
      have ewd4 := g4.bt _ _ ewd3 nwd
      refine ⟨_, rfl, wd, rfl, ⟨_, SqL.of ewd4⟩, comp_gen 3 (fun j zs σ H5 => Dr st Hc H5 ∧ (∃ o, σ = [o, some (.ref st)]) ∧ ∃ r : List Int, r.length = j ∧ (∀ n ∈ r, 0 ≤ n ∧ n ≤ 999) ∧ zs = r.map V.int) ⟨Dr.refl g4.sa, ⟨_, rfl⟩, [], rfl, fun _ h => (List.not_mem_nil h).elim, rfl⟩ (by decide) ?_ ?_⟩
      · rintro j zs σ H5 hj hz ⟨g5, ⟨o, rfl⟩, r, lr, br, rfl⟩
        have ewd5 := g5.bt _ _ ewd4 nwd
        have hjw : j < ws.length := by omega
        have ex : (ws.map V.int)[j]? = some (.int ws[j]) := by rw [List.getElem?_map, List.getElem?_eq_getElem hjw]; rfl
        refine ⟨⟨_, _, SqL.of ewd5, ex⟩, fun v H' y R hR => ?_⟩
        obtain ⟨eH, y⟩ := y
        subst H'
        have hv := y _ (SqL.of ewd5)
        rw [ex] at hv
        cases hv
        have hb := bws _ (List.getElem_mem hjw)
        refine rd_name ?_
        refine ⟨_, rfl, _, rfl, st, _, rfl, g5.sa, hb.1, by omega, fun t a b c t0 t1 a0 b0 b1 => hR _ _ _ ⟨g5.draw a0 b0 b1, ⟨_, rfl⟩, r ++ [t], by rw [List.length_append, lr]; rfl, fun n hn => ?_, by rw [List.map_append]; rfl⟩⟩
        rcases List.mem_append.mp hn with z | z
        · exact br n z
        · rw [List.mem_singleton.mp z]
          omega
      · rintro zs σ H5 hz ⟨g5, _, r, lr, br, rfl⟩
        refine ⟨⟨_, SqL.of (g5.bt _ _ ewd4 nwd), by rw [List.length_map, lws]; exact Nat.le_refl _⟩, fun D hD => ⟨D, _, rfl, .inl ⟨SqL.of upd_same, fun t ht => ?_⟩⟩⟩
        have s6 := (Same.upd (o := .lst (r.map V.int)) hD).updR (o := .tup (r.map V.int)) ht
        refine hR _ _ _ ⟨(g4.trans g5).same s6, ⟨_, rfl⟩, rows ++ [r], by rw [List.length_append, lrows]; rfl, fun x hx => ?_, ?_⟩
        · rcases List.mem_append.mp hx with z | z
          · exact okr x z
          · rw [List.mem_singleton.mp z]
            exact ⟨lr, br⟩
        · rw [List.map_append]
          exact ((g5.ths g4.sa it).same s6).append (.cons (.tup upd_same (IsThs.ints r)) .nil)
    · rintro ys σ Hc hy ⟨g4, _, rows, lrows, okr, it⟩
      refine ⟨Nat.le_refl _, fun D hD => ⟨D, _, rfl, .inl ⟨SqL.of upd_same, fun t ht => ?_⟩⟩⟩
      have s6 := (Same.upd (o := .lst ys) hD).updR (o := .tup ys) ht
      exact q t rows _ ((g3.trans g4).same s6) ⟨by omega, by omega, okr⟩ (.tup upd_same (it.same s6))
end
end K62

set_option Elab.async false
set_option linter.all false
set_option maxRecDepth 100000
set_option maxHeartbeats 400000
namespace K62
open PySem L2
theorem tames_of : ∀ {ds : List PyData}, (∀ d ∈ ds, tame d = true) → tames ds = true
  | [], _ => rfl
  | d :: ds, h => by
    show (tame d && tames ds) = true
    rw [h d (.head _), tames_of fun e he => h e (.tail _ he)]
    rfl
theorem tame_row {r : List Int} (h : ∀ n ∈ r, 0 ≤ n ∧ n ≤ 999) : tame (rowD r) = true := by
  refine tames_of fun d hd => ?_
  obtain ⟨n, hn, rfl⟩ := List.mem_map.mp hd
  have := h n hn
  exact decide_eq_true (show n.natAbs < 2 ^ 128 by omega)
theorem tame_clips {rows : List (List Int)} (h : ∀ r ∈ rows, ∀ n ∈ r, 0 ≤ n ∧ n ≤ 999) : tame (cD rows) = true := by
  refine tames_of fun d hd => ?_
  obtain ⟨r, hr, rfl⟩ := List.mem_map.mp hd
  exact tame_row (h r hr)
theorem p1_nn {n x y : Int} (n0 : 0 ≤ n) (hx : 1 ≤ x) (hy : 1 ≤ y) : 0 ≤ p1 n x y := by
  unfold p1
  have : 0 ≤ n * x / (x + y) := Int.ediv_nonneg (Int.mul_nonneg n0 (by omega)) (by omega)
  split <;> omega
theorem p2_nn {n x y : Int} (n0 : 0 ≤ n) (hx : 1 ≤ x) (hy : 1 ≤ y) : 0 ≤ p2 n x y := by
  unfold p2
  have : 0 ≤ n * y / (x + y) := Int.ediv_nonneg (Int.mul_nonneg n0 (by omega)) (by omega)
  split <;> omega
/-- things made of pairs -/
theorem comp_zipM {α : Type} {K : PySem.W.Frag} {J : It} {S1 S2 S' : Addr → Prop} {te : TE} {xs ys : List V} {is : List α} {H0 : Hp} {Fin : List V → Hp → Prop} (gx gy f : α → PyData)
    (hJ : ∀ H, Same H0 H → (∀ i, i < is.length → J.go i H ∧ ∀ v H', J.yld i H v H' → ∃ T x y, H T = none ∧ v = .ref T ∧ xs[i]? = some x ∧ ys[i]? = some y ∧ H' = upd H T (.tup [x, y])) ∧ J.stop is.length H)
    (th1 : IsThs S1 H0 xs (is.map gx)) (th2 : IsThs S2 H0 ys (is.map gy)) (hl : is.length < sizeLine)
    (hte : ∀ v u a H1 Q1, a ∈ is → Same H0 H1 → IsTh S1 H1 v (gx a) → IsTh S2 H1 u (gy a) → (∀ z H', Same H1 H' → IsTh S' H' z (f a) → Q1 z H') → te [some v, some u] H1 Q1)
    (fin : ∀ zs H', Same H0 H' → IsThs S' H' zs (is.map f) → Fin zs H') : CompW J (gTup K 2 (gCons (gName 0) (gCons (gName 1) gNil))) tYes te Fin [none, none] H0 := by
  refine comp_gen is.length (fun i zs σ H => Same H0 H ∧ (∃ o1 o2, σ = [o1, o2]) ∧ IsThs S' H zs ((is.map f).take i)) ⟨Same.refl _, ⟨_, _, rfl⟩, .nil⟩ hl ?_ ?_
  · rintro i zs σ H hi hz ⟨s1, ⟨o1, o2, rfl⟩, it⟩
    obtain ⟨go, yl⟩ := (hJ H s1).1 i hi
    refine ⟨go, fun v H' hyl R hR => ?_⟩
    obtain ⟨T, x, y, nT, rfl, hx, hy, rfl⟩ := yl v H' hyl
    obtain ⟨d1, hd1, t1⟩ := th1.get hx
    obtain ⟨d2, hd2, t2⟩ := th2.get hy
    rw [List.getElem?_map, List.getElem?_eq_getElem hi] at hd1 hd2
    injection hd1 with hd1
    injection hd2 with hd2
    subst hd1 hd2
    have s2 := s1.updR (o := .tup [x, y]) nT
    refine ⟨T, _, rfl, SqT.of upd_same, rfl, _, _, rfl, _, _, rfl, rfl, ?_⟩
    refine hte x y is[i] _ _ (List.getElem_mem hi) s2 (t1.same s2) (t2.same s2) fun u H2 s3 tu => hR _ _ _ ⟨s2.trans s3, ⟨_, _, rfl⟩, ?_⟩
    have e : (is.map f).take (i + 1) = (is.map f).take i ++ [f is[i]] := by
      rw [List.take_add_one, List.getElem?_map, List.getElem?_eq_getElem hi]
      rfl
    rw [e]
    exact (it.same ((Same.upd nT).trans s3)).append (.cons tu .nil)
  · rintro zs σ H hz ⟨s1, _, it⟩
    refine ⟨(hJ H s1).2, fin zs H s1 ?_⟩
    rw [List.take_of_length_le (by rw [List.length_map]; exact Nat.le_refl _)] at it
    exact it
theorem jz {K : PySem.W.Frag} {a b : Addr} {xs ys : List V} {n : Nat} {H0 : Hp} (e1 : H0 a = some (.tup xs)) (e2 : H0 b = some (.lst ys)) (l1 : xs.length = n) (l2 : ys.length = n) : ∀ H, Same H0 H → (∀ i, i < n → (Itz K a b).go i H ∧ ∀ v H', (Itz K a b).yld i H v H' → ∃ T x y, H T = none ∧ v = .ref T ∧ xs[i]? = some x ∧ ys[i]? = some y ∧ H' = upd H T (.tup [x, y])) ∧ (Itz K a b).stop n H := fun H s =>
  ⟨fun i hi => ⟨⟨xs, ys, xs[i], ys[i], SqT.of (s _ _ e1), SqL.of (s _ _ e2), by simp [l1, hi], by simp [l2, hi]⟩, fun v H' y => by
    obtain ⟨T, nT, rfl, y⟩ := y
    obtain ⟨x, z, hx, hz, rfl⟩ := y xs ys (SqT.of (s _ _ e1)) (SqL.of (s _ _ e2))
    exact ⟨T, x, z, nT, rfl, hx, hz, rfl⟩⟩, xs, SqT.of (s _ _ e1), by omega⟩
theorem jzt {K : PySem.W.Frag} {a b : Addr} {xs ys : List V} {n : Nat} {H0 : Hp} (e1 : H0 a = some (.tup xs)) (e2 : H0 b = some (.tup ys)) (l1 : xs.length = n) (l2 : ys.length = n) : ∀ H, Same H0 H → (∀ i, i < n → (ZT.Itz K a b).go i H ∧ ∀ v H', (ZT.Itz K a b).yld i H v H' → ∃ T x y, H T = none ∧ v = .ref T ∧ xs[i]? = some x ∧ ys[i]? = some y ∧ H' = upd H T (.tup [x, y])) ∧ (ZT.Itz K a b).stop n H := fun H s =>
  ⟨fun i hi => ⟨⟨xs, ys, xs[i], ys[i], SqT.of (s _ _ e1), SqT.of (s _ _ e2), by simp [l1, hi], by simp [l2, hi]⟩, fun v H' y => by
    obtain ⟨T, nT, rfl, y⟩ := y
    obtain ⟨x, z, hx, hz, rfl⟩ := y xs ys (SqT.of (s _ _ e1)) (SqT.of (s _ _ e2))
    exact ⟨T, x, z, nT, rfl, hx, hz, rfl⟩⟩, xs, SqT.of (s _ _ e1), by omega⟩
def spLaw (K : PySem.W.Frag) : Sp := fun vs H Q _ => ∃ (a : Addr) (ns : List Int), vs = [.ref a] ∧ SqL K H a (ns.map V.int) ∧ ns.length ≤ 63 ∧ ∀ H', Q (.bl true) H'
section
variable {P : Program} {w : World} {K : PySem.W.Frag} {mg : Str → Option Value} {base : Heap}
theorem nd31a : (["_law_clip", "_law_one", "_law_other"] : List Str).Nodup := by decide +kernel
theorem nd31b : (["_law_sacks", "_law_one", "_law_other"] : List Str).Nodup := by decide +kernel
theorem sc31 : FnScope ["_law_script", "_law_k", "_law_state_here", "_law_clips_here", "_law_turn", "_law_one", "_law_other", "_law_rows", "_law_rests", "_law_ahead", "_law_due"] ["_law_script"] (defScope (top 31)) := ⟨rfl, rfl, rfl, by decide +kernel, rfl, by decide +kernel, by decide +kernel⟩
theorem ok_law {f : Addr} {fd : FuncData} (F : Fun K "law" "law" (top 31) f fd) (T : Mg mg) (Tr : mg "range" = none) (Tm : mg "max" = none) (Tn : mg "min" = none) (Tz : mg "zip" = none) (Tp : mg "repr" = none)
    (c1 : Cal P w K mg base 2 "_law_state" ["_law_script", "_law_k"] (spState K)) (c2 : Cal P w K mg base 2 "_law_clips" ["_law_state_here", "_law_most"] spClips) (c3 : Cal P w K mg base 1 "_law_choice" ["_law_state_here", "_law_many"] spChoice)
    (c4 : Cal P w K mg base 1 "_law_part" ["_law_sacks", "_law_one", "_law_other"] spPart) (c5 : Cal P w K mg base 6 "shared_by" ["clips", "one", "other"] spShared) (c6 : Cal P w K mg base 61 "_law_same" ["_law_found", "_law_due"] spSame) : FnOk P w K mg base CX0 63 f fd ["_law_script"] (spLaw K) := by
  refine F.ok sc31 (fun vs H Q E h => ?_) (fun cdv A outer s H vs Q E hr h => ?_)
  · obtain ⟨a, ns, rfl, _⟩ := h
    rfl
  · obtain ⟨a, ns, rfl, hS, hl, q⟩ := h
    have nS : ¬ (fun _ : Addr => False) sysModules := id
    refine ok_b (bss_cons ⟨ps_for PassesOwn.never rfl (pi_range1 rfl Tr (pa_c (pe_callB (call_max2 rfl) rfl Tm boot_max' (pa_c pe_int (pa_c (pe_callB (call_min2 rfl) rfl Tn boot_min' (pa_c (pe_callB call_len_seq rfl T.len PySem.boot_len (pa_c (pv 0) pa_nil)) (pa_c pe_int pa_nil))) pa_nil))) pa_nil)) (pg_name (i := 1) sc31.nd rfl (Or.inl rfl))
        (pss_cons (ps_set (i := 2) sc31.nd rfl (Or.inl rfl) (pe_cal c1 hr (by omega) rfl (pa_c (pv 0) (pa_c (pv 1) pa_nil))))
        (pss_cons (ps_set (i := 3) sc31.nd rfl (Or.inl rfl) (pe_cal c2 hr (by omega) rfl (pa_c (pv 2) (pa_c pe_int pa_nil))))
        (pss_one (ps_for PassesOwn.never rfl (pi_range1 rfl Tr (pa_c pe_int pa_nil)) (pg_name (i := 4) sc31.nd rfl (Or.inl rfl))
          (pss_b (bss_cons ⟨ps_asg (pe_tup (pa_c (pe_op op_add pe_int (pe_cal c3 hr (by omega) rfl (pa_c (pv 2) (pa_c pe_int pa_nil)))) (pa_c (pe_op op_add pe_int (pe_cal c3 hr (by omega) rfl (pa_c (pv 2) (pa_c (pe_ix ix_list (pe_lst (pa_ints (by repeat constructor))) (pe_cal c3 hr (by omega) rfl (pa_c (pv 2) (pa_c pe_int pa_nil))) (fun _ _ => rfl)) pa_nil)))) pa_nil)))
              (pg_tup rfl (pgs_cons (pg_name (i := 5) sc31.nd rfl (Or.inr rfl)) (pgs_cons (pg_name (i := 6) sc31.nd rfl (Or.inr rfl)) pgs_nil)))⟩
          (bss_cons ⟨ps_set (i := 6) sc31.nd rfl (Or.inr rfl) (pe_ix ix_list (pe_lst (pa_c (pv 6) (pa_c (pv 5) pa_nil))) (pe_op op_fdiv (pe_cal c3 hr (by omega) rfl (pa_c (pv 2) (pa_c pe_int pa_nil))) pe_int) (fun _ _ => rfl))⟩
          (bss_cons ⟨ps_comp (i := 7) ["_law_clip", "_law_one", "_law_other"] [none, some 5, some 6] rfl sc31.nd rfl (Or.inl rfl) (pi_tup (pv 3)) (fun C fp pins s₂ H₂ => ⟨pg_name (i := 0) nd31a rfl (Or.inl rfl), pts_nil, pe_callTy (call_tuple_ofK (K := K) rfl) rfl T.tuple boot_tuple (pa_c
              (pe_comp ["_law_sacks", "_law_one", "_law_other"] [none, some 1, some 2] rfl (pi_tupK (K := K) rfl (pv 0)) (fun C fp pins s₂ H₂ => ⟨pg_name (i := 0) nd31b rfl (Or.inl rfl), pts_nil, pe_cal c4 hr (by omega) rfl (pa_c (pv 0) (pa_c (pv 1) (pa_c (pv 2) pa_nil)))⟩)
                (fun C => ⟨⟨rfl, .inl rfl, rfl, .inl rfl⟩, ⟨rfl, .inl rfl, rfl, .inl rfl⟩, trivial⟩) ⟨rfl, rfl, rfl, rfl⟩) pa_nil)⟩) (fun C => ⟨⟨rfl, .inl rfl, rfl, .inl rfl⟩, ⟨rfl, .inl rfl, rfl, .inl rfl⟩, trivial⟩) ⟨rfl, rfl, rfl, rfl⟩⟩
          (bss_cons ⟨ps_comp (g := gTup K 2 (gCons (gName 0) (gCons (gName 1) gNil))) (i := 8) ["_law_clip", "_law_row"] [none, none] rfl sc31.nd rfl (Or.inl rfl) (pi_zip rfl Tz (pa_c (pv 3) (pa_c (pv 7) pa_nil)))
              (fun C fp pins s₂ H₂ => ⟨pg_tupK rfl rfl (pgs_cons (pg_name (i := 0) (nd2 _ _ (by decide)) rfl (Or.inl rfl) (Or.inr rfl)) (pgs_cons (pg_name (i := 1) (nd2 _ _ (by decide)) rfl (Or.inl rfl) (Or.inr rfl)) pgs_nil)), pts_nil, pe_callTy (call_tuple_ofK (K := K) rfl) rfl T.tuple boot_tuple (pa_c
                (pe_comp (g := gTup K 2 (gCons (gName 0) (gCons (gName 1) gNil))) ["_law_sacks", "_law_part_here"] [none, none] rfl (zip_tt (K := K) rfl rfl Tz (pa_c (pv 0) (pa_c (pv 1) pa_nil)))
                  (fun C fp pins s₂ H₂ => ⟨pg_tupK rfl rfl (pgs_cons (pg_name (i := 0) (nd2 _ _ (by decide)) rfl (Or.inl rfl) (Or.inr rfl)) (pgs_cons (pg_name (i := 1) (nd2 _ _ (by decide)) rfl (Or.inl rfl) (Or.inr rfl)) pgs_nil)), pts_nil, pe_op op_sub (pv 0) (pv 1)⟩) (fun C => trivial) ⟨rfl, rfl, rfl, rfl⟩) pa_nil)⟩) (fun C => trivial) ⟨rfl, rfl, rfl, rfl⟩⟩
          (bss_cons ⟨ps_par (i := 9) (j := 10) rfl sc31.nd rfl rfl (by decide) rfl rfl (pa_c (pe_callB (call_repr (S := fun _ => False) hr.gd nS) rfl Tp boot_repr' (pa_c (pv 3) pa_nil)) (pa_c (pe_tup (pa_c (pe_callTy call_tuple_of rfl T.tuple boot_tuple (pa_c (pv 7) pa_nil)) (pa_c (pe_callTy call_tuple_of rfl T.tuple boot_tuple (pa_c (pv 8) pa_nil)) pa_nil))) pa_nil)) rfl⟩
          (bss_one ⟨ps_if (PW.pt (pw_or (pt_not (pt_val (pe_cal c6 hr (by omega) rfl (pa_c (pe_cal c5 hr (by omega) rfl (pa_c (pv 3) (pa_c (pv 5) (pa_c (pv 6) pa_nil)))) (pa_c (pv 10) pa_nil))))) (pw_or1 (pt_cmpR op_ne (pe_callB (call_repr (S := fun _ => False) hr.gd nS) rfl Tp boot_repr' (pa_c (pv 3) pa_nil)) (pv 9) (nomark _))))) (pss_one (ps_ret pe_bl)) pss_nil⟩)))))))))))⟩
      (bss_one ⟨ps_ret pe_bl⟩)) ?_
    refine rd_seq ?_
    have hl' : (ns.map V.int).length ≤ 63 := by rw [List.length_map]; exact hl
    refine ⟨_, rfl, a, _, rfl, .inl hS, _, _, rfl, _, _, rfl, _, rfl, ?_, ?_, ?_⟩
    · split <;> split <;> omega
    · split <;> split <;> omega
    refine for_range (lo := 0) (fun i σ Hc => ∃ x1 x2 x3 x4 x5 x6 x7 x8 x9 x10, σ = [some (.ref a), x1, x2, x3, x4, x5, x6, x7, x8, x9, x10] ∧ Same H Hc) ?_ ?_ ?_
    · exact ⟨none, none, none, none, none, none, none, none, none, none, rfl, Same.refl H⟩
    · rintro i σ H1 hi ⟨x1, x2, x3, x4, x5, x6, x7, x8, x9, x10, rfl, s1⟩
      refine rd_name ?_
      refine rd_seq ?_
      refine rd_asg ?_
      refine ⟨_, rfl, _, rfl, a, ns, _, rfl, s1.seq hS, by omega, fun st x y z hn hx0 hy0 hy1 => ?_⟩
      have nst : H st = none := s1.free hn
      have g1 : StAt (upd H1 st (.lst [.int x, .int y, .int z])) st := ⟨x, y, z, upd_same, hx0, hy0, hy1⟩
      have s2 : Same H (upd H1 st (.lst [.int x, .int y, .int z])) := s1.updR hn
      generalize upd H1 st (.lst [.int x, .int y, .int z]) = H2 at g1 s2 ⊢
      refine rd_name ?_
      dsimp only
      refine rd_seq ?_
      refine rd_asg ?_
      refine ⟨_, rfl, st, 20, rfl, g1, by decide, by decide, fun c rows H3 g3 okr tc => ?_⟩
      refine rd_name ?_
      dsimp only
      have lr : ∀ r ∈ rows, r.length = 3 := fun r hr => (okr.2.2 r hr).1
      have br : ∀ r ∈ rows, ∀ n ∈ r, 0 ≤ n ∧ n ≤ 999 := fun r hr => (okr.2.2 r hr).2
      have hsz : sz (cD rows) ≤ 81 := by
        rw [sz_clips lr]
        have := okr.2.1
        omega
      have tmc : tame (cD rows) = true := tame_clips br
      refine ⟨5, rfl, by decide, by decide, ?_⟩
      refine for_range (lo := 0) (n := (5 : Int).toNat) (fun j σ Hc => ∃ y1 y4 y5 y6 y7 y8 y9 y10, σ = [some (.ref a), y1, some (.ref st), some (.ref c), y4, y5, y6, y7, y8, y9, y10] ∧ Dr st H3 Hc) ?_ ?_ ?_
      · exact ⟨_, _, _, _, _, _, _, _, rfl, Dr.refl g3.sa⟩
      · rintro j σ H4 hj ⟨y1, y4, y5, y6, y7, y8, y9, y10, rfl, g4⟩
        refine rd_name ?_
        refine rd_seq ?_
        refine ⟨_, rfl, st, 99, rfl, g4.sa, by decide, by decide, fun r1 a1 b1 k1 r10 r11 a10 b10 b11 => ⟨_, _, rfl, rfl, _, rfl, (by show 2 ≤ sizeLine; decide), fun l hl => ?_⟩⟩
        have g5 := (g4.draw (c := k1) a10 b10 b11).same (Same.upd (o := .lst (([99, 3] : List Int).map V.int)) hl)
        have el := upd_same (H := upd H4 st (.lst [.int a1, .int b1, .int k1])) (a := l) (o := .lst (([99, 3] : List Int).map V.int))
        have nl := (g4.draw (c := k1) a10 b10 b11).ne hl
        generalize upd (upd H4 st (.lst [.int a1, .int b1, .int k1])) l _ = H5 at g5 el ⊢
        refine ⟨_, rfl, st, 2, rfl, g5.sa, by decide, by decide, fun r2 a2 b2 k2 r20 r21 a20 b20 b21 => ?_⟩
        have g6 := g5.draw (c := k2) a20 b20 b21
        have el6 : upd H5 st (.lst [.int a2, .int b2, .int k2]) l = some (.lst (([99, 3] : List Int).map V.int)) := by
          rw [upd_ne nl]
          exact el
        generalize upd H5 st (.lst [.int a2, .int b2, .int k2]) = H6 at g6 el6 ⊢
        obtain ⟨top_, et, et1, et2⟩ : ∃ m : Int, (([99, 3] : List Int).map V.int)[r2.toNat]? = some (.int m) ∧ 1 ≤ m ∧ m ≤ 99 := by
          have : r2.toNat = 0 ∨ r2.toNat = 1 := by omega
          rcases this with z | z <;> rw [z]
          · exact ⟨99, rfl, by decide, by decide⟩
          · exact ⟨3, rfl, by decide, by decide⟩
        refine ⟨l, _, r2, .int top_, rfl, rfl, SqL.of el6, ?_, st, top_, rfl, g6.sa, et1, by omega, fun r3 a3 b3 k3 r30 r31 a30 b30 b31 => ⟨_, _, rfl, rfl, (by show 2 ≤ sizeLine; decide), fun t1 ht1 => ?_⟩⟩
        · have := atI_nat et
          rw [show ((r2.toNat : Nat) : Int) = r2 by omega] at this
          exact this
        refine ⟨t1, _, rfl, SqT.of upd_same, rfl, _, _, rfl, _, _, rfl, rfl, ?_⟩
        have g7 := (g6.draw (c := k3) a30 b30 b31).same (Same.upd (o := .tup [.int (1 + r1), .int (1 + r3)]) ht1)
        generalize upd (upd H6 st (.lst [.int a3, .int b3, .int k3])) t1 _ = H7 at g7 ⊢
        clear g5 g6 el el6 et hl nl ht1
        dsimp only
        refine rd_seq ?_
        refine ⟨_, rfl, _, rfl, (by show 2 ≤ sizeLine; decide), fun l2 hl2 => ?_⟩
        have g8 := g7.same (Same.upd (o := .lst [.int (1 + r3), .int (1 + r1)]) hl2)
        have el2 := upd_same (H := H7) (a := l2) (o := .lst [.int (1 + r3), .int (1 + r1)])
        have nl2 := g7.ne hl2
        generalize upd H7 l2 _ = H8 at g8 el2 ⊢
        refine ⟨_, rfl, st, 3, rfl, g8.sa, by decide, by decide, fun r4 a4 b4 k4 r40 r41 a40 b40 b41 => ⟨_, _, rfl, rfl, ⟨by decide, by decide⟩, ?_⟩⟩
        have g9 := g8.draw (c := k4) a40 b40 b41
        have el9 : upd H8 st (.lst [.int a4, .int b4, .int k4]) l2 = some (.lst [.int (1 + r3), .int (1 + r1)]) := by
          rw [upd_ne nl2]
          exact el2
        generalize upd H8 st (.lst [.int a4, .int b4, .int k4]) = H9 at g9 el9 ⊢
        obtain ⟨oy, eo, y0, y1'⟩ : ∃ m : Int, ([.int (1 + r3), .int (1 + r1)] : List V)[(r4 / 2).toNat]? = some (.int m) ∧ 1 ≤ m ∧ m ≤ 99 := by
          have : (r4 / 2).toNat = 0 ∨ (r4 / 2).toNat = 1 := by omega
          rcases this with z | z <;> rw [z]
          · exact ⟨1 + r3, rfl, by omega, by omega⟩
          · exact ⟨1 + r1, rfl, by omega, by omega⟩
        refine ⟨l2, _, r4 / 2, .int oy, rfl, rfl, SqL.of el9, ?_, ?_⟩
        · have := atI_nat eo
          rw [show (((r4 / 2).toNat : Nat) : Int) = r4 / 2 by omega] at this
          exact this
        have x0 : 1 ≤ 1 + r1 := by omega
        have x1' : 1 + r1 ≤ 99 := by omega
        generalize 1 + r1 = ox at x0 x1' ⊢
        have tc9 := g9.th g3.sa tc
        clear g7 g8 el2 el9 eo hl2 nl2
        have p2e : (fun n => p2 n ox oy) = fun n => n - p1 n ox oy := funext fun n => by
          have := p12 (n := n) x0 y0
          omega
        have b1 : ∀ r ∈ rows.map fun r => r.map fun n => p1 n ox oy, ∀ n ∈ r, 0 ≤ n ∧ n ≤ 999 := fun r hr n hn => by
          obtain ⟨r', hr', rfl⟩ := List.mem_map.mp hr
          obtain ⟨n', hn', rfl⟩ := List.mem_map.mp hn
          have hb := br r' hr' n' hn'
          have e1 := p1_nn hb.1 x0 y0
          have e2 := p2_nn hb.1 x0 y0
          have e3 := p12 (n := n') x0 y0
          omega
        have b2 : ∀ r ∈ rows.map fun r => r.map fun n => n - p1 n ox oy, ∀ n ∈ r, 0 ≤ n ∧ n ≤ 999 := fun r hr n hn => by
          obtain ⟨r', hr', rfl⟩ := List.mem_map.mp hr
          obtain ⟨n', hn', rfl⟩ := List.mem_map.mp hn
          have hb := br r' hr' n' hn'
          have e1 := p1_nn hb.1 x0 y0
          have e2 := p2_nn hb.1 x0 y0
          have e3 := p12 (n := n') x0 y0
          omega
        have l1 : ∀ (h : Int → Int), ∀ r ∈ rows.map fun r => r.map h, r.length = 3 := fun h r hr => by
          obtain ⟨r', hr', rfl⟩ := List.mem_map.mp hr
          rw [List.length_map]
          exact lr r' hr'
        have tmd : tame (.tuple [cD (rows.map fun r => r.map fun n => p1 n ox oy), cD (rows.map fun r => r.map fun n => n - p1 n ox oy)]) = true := tames_of fun d hd => by
          simp only [List.mem_cons, List.not_mem_nil, or_false] at hd
          rcases hd with rfl | rfl
          · exact tame_clips b1
          · exact tame_clips b2
        have szd : sz (.tuple [cD (rows.map fun r => r.map fun n => p1 n ox oy), cD (rows.map fun r => r.map fun n => n - p1 n ox oy)]) ≤ 1000 := by
          show 1 + (sz (cD _) + (sz (cD _) + 0)) ≤ 1000
          rw [sz_clips (l1 _), sz_clips (l1 _), List.length_map, List.length_map]
          have := okr.2.1
          omega
        have tc10 := tc9
        cases tc9 with
        | @tup _ xs _ ec r =>
        have lxs : xs.length = rows.length := by
          have := r.length
          rw [List.length_map] at this
          exact this
        have hlr : rows.length < sizeLine := by
          have := okr.2.1
          rw [sizeLine_eq]
          omega
        dsimp only
        refine rd_seq ?_
        refine ⟨_, rfl, c, rfl, ⟨xs, SqT.of ec⟩, comp_map (S' := fun _ => False) rowD (fun r => rowD (r.map fun n => p1 n ox oy)) (jt ec) r (by rw [lxs]; exact hlr) ?_ ?_⟩
        · intro v r HA QA hrA sA tv qA
          cases tv with
          | @tup aA xA _ eA rA =>
          have l5 : xA.length = 3 := by
            have := rA.length
            rw [List.length_map] at this
            rw [this]
            exact lr r hrA
          refine ⟨_, rfl, aA, rfl, ⟨xA, SqT.of eA⟩, comp_map (S' := fun _ => False) PyData.int (fun n => .int (p1 n ox oy)) (jt eA) rA (by rw [l5]; decide) ?_ ?_⟩
          · intro v n HB QB hn sB tv qB
            cases tv
            have hb := br r hrA n hn
            exact ⟨_, rfl, _, rfl, _, rfl, n, ox, oy, rfl, hb.1, hb.2, x0, x1', y0, y1', fun H' s' => qB _ _ s' (.int _)⟩
          · intro ys HB sB it D hD
            refine ⟨D, _, rfl, .inl ⟨SqL.of upd_same, fun t ht => qA _ _ ((sB.updR hD).updR ht) (.tup upd_same ?_)⟩⟩
            rw [List.map_map]
            exact it.same ((Same.upd hD).updR ht)
        · intro ys HA sA it D hD
          have sB := sA.updR (o := .lst ys) hD
          have eD := upd_same (H := HA) (a := D) (o := .lst ys)
          have itB := it.same (Same.upd (o := .lst ys) hD)
          have lys : ys.length = rows.length := by
            have := it.length
            rw [List.length_map] at this
            exact this
          generalize upd HA D (.lst ys) = HB at sB eD itB ⊢
          clear it hD sA
          dsimp only
          refine rd_seq ?_
          refine ⟨_, rfl, _, rfl, c, D, xs, ys, rfl, SqT.of (sB _ _ ec), SqL.of eD, comp_zipM (S' := fun _ => False) rowD (fun r => rowD (r.map fun n => p1 n ox oy)) (fun r => rowD (r.map fun n => n - p1 n ox oy)) (jz (sB _ _ ec) eD lxs lys) (r.same sB) itB hlr ?_ ?_⟩
          · intro v u r' HC QC hrC sC tv tu qC
            have l6 := lr r' hrC
            cases tv with
            | @tup aC xC _ eC rC =>
            cases tu with
            | @tup aD xD _ eD' rD =>
            have l7 : xC.length = r'.length := by
              have := rC.length
              rw [List.length_map] at this
              exact this
            have l8 : xD.length = r'.length := by
              have := rD.length
              rw [List.length_map, List.length_map] at this
              exact this
            rw [List.map_map] at rD
            refine ⟨_, rfl, _, rfl, aC, aD, xC, xD, rfl, SqT.of eC, SqT.of eD', comp_zipM (S' := fun _ => False) PyData.int (PyData.int ∘ fun n => p1 n ox oy) (fun n => .int (n - p1 n ox oy)) (jzt eC eD' l7 l8) rC rD (by rw [l6]; decide) ?_ ?_⟩
            · intro v u n HE QE hn sE tv tu qE
              cases tv
              cases tu
              exact ⟨_, rfl, _, rfl, _, _, rfl, rfl, qE _ _ (Same.refl _) (.int _)⟩
            · intro zs HE sE it D2 hD2
              refine ⟨D2, _, rfl, .inl ⟨SqL.of upd_same, fun t ht => qC _ _ ((sE.updR hD2).updR ht) (.tup upd_same ?_)⟩⟩
              rw [List.map_map]
              exact it.same ((Same.upd hD2).updR ht)
          · intro zs HC sC it D2 hD2
            have sD := (sB.trans sC).updR (o := .lst zs) hD2
            have eD2 := upd_same (H := HC) (a := D2) (o := .lst zs)
            have itD := it.same (Same.upd (o := .lst zs) hD2)
            have itB2 := itB.same (sC.updR (o := .lst zs) hD2)
            have eD1 := (sC.updR (o := .lst zs) hD2) _ _ eD
            generalize upd HC D2 (.lst zs) = HD at sD eD2 itD itB2 eD1 ⊢
            clear it hD2 sC itB eD sB
            have tcD := tc10.same sD
            dsimp only
            refine rd_seq ?_
            refine ⟨_, rfl, .ref c, cD rows, rfl, tcD, tmc, by omega, room_sz hr (by decide) (by omega), _, rfl, D, _, rfl, .inl ⟨SqL.of eD1, fun t1 ht1 => ⟨_, rfl, D2, _, rfl, .inl ⟨SqL.of (Same.upd ht1 _ _ eD2), fun t2 ht2 => ⟨(by show 2 ≤ sizeLine; decide), fun t3 ht3 => ⟨_, _, rfl, ?_⟩⟩⟩⟩⟩⟩
            have sE := ((Same.upd (o := .tup ys) ht1).updR (o := .tup zs) ht2).updR (o := .tup [.ref t1, .ref t2]) ht3
            have sF := (Same.upd (o := .tup zs) ht2).updR (o := .tup [.ref t1, .ref t2]) ht3
            have tdue : IsTh (fun _ => False) (upd (upd (upd HD t1 (.tup ys)) t2 (.tup zs)) t3 (.tup [.ref t1, .ref t2])) (.ref t3) (.tuple [cD (rows.map fun r => r.map fun n => p1 n ox oy), cD (rows.map fun r => r.map fun n => n - p1 n ox oy)]) := by
              refine .tup upd_same (.cons (.tup (sF _ _ upd_same) ?_) (.cons (.tup (Same.upd ht3 _ _ upd_same) ?_) .nil))
              · rw [List.map_map]
                exact itB2.same sE
              · rw [List.map_map]
                exact itD.same sE
            generalize upd (upd (upd HD t1 (.tup ys)) t2 (.tup zs)) t3 (.tup [.ref t1, .ref t2]) = HE at sE tdue ⊢
            clear sF ht1 ht2 ht3
            have sG := sD.trans sE
            dsimp only
            refine ⟨_, rfl, _, rfl, _, rfl, c, ox, oy, rows, rfl, tc10.same sG, okr, x0, x1', y0, y1', fun HF v sF tv => ?_⟩
            rw [p2e] at tv
            have tcF := tc10.same (sG.trans sF)
            refine ⟨_, rfl, fun _ => False, v, .ref t3, _, _, rfl, nS, tv, tdue.same sF, tmd, tmd, szd, szd, _, rfl, ?_⟩
            rw [decide_eq_true rfl]
            refine iteF ?_
            refine ⟨_, rfl, .ref c, cD rows, rfl, tcF, tmc, by omega, room_sz hr (by decide) (by omega), _, rfl, rfl, _, rfl, ?_⟩
            refine iteNS rfl ?_
            exact ⟨_, _, _, _, _, _, _, _, rfl, g9.same (sG.trans sF)⟩
      · rintro σ Hc ⟨y1, y4, y5, y6, y7, y8, y9, y10, rfl, g4⟩
        exact ⟨_, _, _, _, _, _, _, _, _, _, rfl, fun b o e => (g3.trans g4).bt _ _ (s2 _ _ e) (ne_of_none e nst)⟩
    · rintro σ Hc ⟨x1, x2, x3, x4, x5, x6, x7, x8, x9, x10, rfl, s1⟩
      exact q _
end
end K62

set_option Elab.async false
set_option linter.all false
set_option maxRecDepth 100000
set_option maxHeartbeats 400000
namespace K62
open PySem L2
theorem el1 {C : List Value → Prop} (h : ∀ a0 : Value, C [a0]) : ∀ us : List Value, us.length = 1 → C us := fun us e => match us, e with | [a0], _ => h a0
theorem el2 {C : List Value → Prop} (h : ∀ a0 a1 : Value, C [a0, a1]) : ∀ us : List Value, us.length = 2 → C us := fun us e => match us, e with | [a0, a1], _ => h a0 a1
theorem el3 {C : List Value → Prop} (h : ∀ a0 a1 a2 : Value, C [a0, a1, a2]) : ∀ us : List Value, us.length = 3 → C us := fun us e => match us, e with | [a0, a1, a2], _ => h a0 a1 a2
/-- the def stands in the text under its name -/
def Has (K : PySem.W.Frag) (x : Str) (st : Stmt) : Prop := ∃ (f : Addr) (od an : Option Addr) (sl : Array (Option Value)) (oc kV dc pm cd ct : Value), PySem.W.nsIn K mainGlobals x = some (some (.ref f)) ∧
  K.lookup f = some ⟨oc, od, .func (PySem.W.fnOf x x (defArgs st) (defBody st) (defScope st) .none kV dc pm an cd ct), sl⟩ ∧ PySem.W.codeIn K cd x = true ∧ PySem.W.keepIn K (.ref f) = true
theorem has_mk {K : PySem.W.Frag} {x : Str} {st : Stmt} {f : Addr} {od an : Option Addr} {sl : Array (Option Value)} {oc kV dc pm cd ct : Value} (a : PySem.W.nsIn K mainGlobals x = some (some (.ref f)))
    (l : K.lookup f = some ⟨oc, od, .func (PySem.W.fnOf x x (defArgs st) (defBody st) (defScope st) .none kV dc pm an cd ct), sl⟩) (c : PySem.W.codeIn K cd x = true) (k : PySem.W.keepIn K (.ref f) = true) : Has K x st := ⟨f, od, an, sl, oc, kV, dc, pm, cd, ct, a, l, c, k⟩
theorem Has.get {K : PySem.W.Frag} {x : Str} {st : Stmt} {h : Heap} {mg : Str → Option Value} (H : Has K x st) (X : K.In h) (G : h.Ns mainGlobals mg) : ∃ f fd, Fun K x x st f fd ∧ mg x = some (.ref f) := by
  obtain ⟨f, od, an, sl, oc, kV, dc, pm, cd, ct, a, l, c, k⟩ := H
  exact ⟨f, _, fun_mk (st := st) l c k, PySem.W.mg_of X G a⟩
theorem cal_mk {P : Program} {w : World} {K : PySem.W.Frag} {mg : Str → Option Value} {base : Heap} {k : Nat} {x : Str} {ps : List Str} {sp : Sp} {f : Addr} {fd : FuncData} (F : FnOk P w K mg base CX0 k f fd ps sp) (m : mg x = some (.ref f)) (kp : PySem.W.keepIn K (.ref f) = true) (b : Binds K fd ps []) : Cal P w K mg base k x ps sp := ⟨f, fd, F, m, kp, b⟩
theorem all_mk {l : PySem.W.OpenLaw} {w : World} {K : PySem.W.Frag} {h : Heap} {mg : Str → Option Value} {fa fL : Addr} {odL anL : Option Addr} {slL : Array (Option Value)} {ocL kVL dcL pmL cdL ctL : Value} {t0 t1 t2 t3 t4 : Tok} (X : K.In h) (G : h.Ns mainGlobals mg) (hfa : mg "law" = some (.ref fa))
    (h5 : Has K "is_whole" (top 5))
    (h6 : Has K "is_whole_from" (top 6))
    (h7 : Has K "is_tuple_of" (top 7))
    (h8 : Has K "are_wholes" (top 8))
    (h13 : Has K "is_clip" (top 13))
    (h14 : Has K "are_clips" (top 14))
    (h15 : Has K "refuse_no_clips" (top 15))
    (h19 : Has K "are_weights" (top 19))
    (h20 : Has K "places_by_rest" (top 20))
    (h21 : Has K "parts_of" (top 21))
    (h23 : Has K "shared_by" (top 23))
    (h25 : Has K "_law_cell_at" (top 25))
    (h26 : Has K "_law_state" (top 26))
    (h27 : Has K "_law_choice" (top 27))
    (h28 : Has K "_law_same" (top 28))
    (h29 : Has K "_law_clips" (top 29))
    (h30 : Has K "_law_part" (top 30))
    (aL : PySem.W.nsIn K mainGlobals "law" = some (some (.ref fL))) (lL : K.lookup fL = some ⟨ocL, odL, .func (PySem.W.fnOf "law" "law" (defArgs (top 31)) (defBody (top 31)) (defScope (top 31)) .none kVL dcL pmL anL cdL ctL), slL⟩) (cL : PySem.W.codeIn K cdL "law" = true) (kL : PySem.W.keepIn K (.ref fL) = true)
    (n0 : PySem.W.nsIn K mainGlobals "SORTS" = some (some (.int 3 t0)))
    (n1 : PySem.W.nsIn K mainGlobals "MOST_CLIPS" = some (some (.int 20 t1)))
    (n2 : PySem.W.nsIn K mainGlobals "MOST_WOOL" = some (some (.int 999 t2)))
    (n3 : PySem.W.nsIn K mainGlobals "MOST_WEIGHTS" = some (some (.int 80 t3)))
    (n4 : PySem.W.nsIn K mainGlobals "MOST_WEIGHT" = some (some (.int 99 t4)))
    (z_isinstance : PySem.W.nsIn K mainGlobals "isinstance" = some none)
    (z_int : PySem.W.nsIn K mainGlobals "int" = some none)
    (z_bool : PySem.W.nsIn K mainGlobals "bool" = some none)
    (z_tuple : PySem.W.nsIn K mainGlobals "tuple" = some none)
    (z_len : PySem.W.nsIn K mainGlobals "len" = some none)
    (z_all : PySem.W.nsIn K mainGlobals "all" = some none)
    (z_range : PySem.W.nsIn K mainGlobals "range" = some none)
    (z_max : PySem.W.nsIn K mainGlobals "max" = some none)
    (z_min : PySem.W.nsIn K mainGlobals "min" = some none)
    (z_repr : PySem.W.nsIn K mainGlobals "repr" = some none)
    (z_zip : PySem.W.nsIn K mainGlobals "zip" = some none)
    (z_enumerate : PySem.W.nsIn K mainGlobals "enumerate" = some none)
    (z_sorted : PySem.W.nsIn K mainGlobals "sorted" = some none)
    (z_sum : PySem.W.nsIn K mainGlobals "sum" = some none)
    (z_divmod : PySem.W.nsIn K mainGlobals "divmod" = some none)
    : ∃ fd : FuncData, (∀ (s : Shared) (v : Value), BindsTo s fd ⟨[v], []⟩ [("_law_script", v)]) ∧ ∀ base : Heap, K.In base → base.Ns mainGlobals mg → FnOk l.prog w K mg base CX0 63 fa fd ["_law_script"] (spLaw K) := by
  have e := hfa.symm.trans (PySem.W.mg_of X G aL)
  cases e
  have FL := fun_mk (st := top 31) lL cL kL
  obtain ⟨f5, fd5, F5, m5⟩ := h5.get X G
  have b5 := F5.binds (ps := ["thing"]) fun _ _ _ _ _ _ => el1 fun _ => rfl
  obtain ⟨f6, fd6, F6, m6⟩ := h6.get X G
  have b6 := F6.binds (ps := ["thing", "least", "most"]) fun _ _ _ _ _ _ => el3 fun _ _ _ => rfl
  obtain ⟨f7, fd7, F7, m7⟩ := h7.get X G
  have b7 := F7.binds (ps := ["thing", "fewest", "most"]) fun _ _ _ _ _ _ => el3 fun _ _ _ => rfl
  obtain ⟨f8, fd8, F8, m8⟩ := h8.get X G
  have b8 := F8.binds (ps := ["thing", "many"]) fun _ _ _ _ _ _ => el2 fun _ _ => rfl
  obtain ⟨f13, fd13, F13, m13⟩ := h13.get X G
  have b13 := F13.binds (ps := ["thing"]) fun _ _ _ _ _ _ => el1 fun _ => rfl
  obtain ⟨f14, fd14, F14, m14⟩ := h14.get X G
  have b14 := F14.binds (ps := ["thing"]) fun _ _ _ _ _ _ => el1 fun _ => rfl
  obtain ⟨f15, fd15, F15, m15⟩ := h15.get X G
  have b15 := F15.binds (ps := ["thing"]) fun _ _ _ _ _ _ => el1 fun _ => rfl
  obtain ⟨f19, fd19, F19, m19⟩ := h19.get X G
  have b19 := F19.binds (ps := ["thing"]) fun _ _ _ _ _ _ => el1 fun _ => rfl
  obtain ⟨f20, fd20, F20, m20⟩ := h20.get X G
  have b20 := F20.binds (ps := ["rests"]) fun _ _ _ _ _ _ => el1 fun _ => rfl
  obtain ⟨f21, fd21, F21, m21⟩ := h21.get X G
  have b21 := F21.binds (ps := ["sacks", "weights"]) fun _ _ _ _ _ _ => el2 fun _ _ => rfl
  obtain ⟨f23, fd23, F23, m23⟩ := h23.get X G
  have b23 := F23.binds (ps := ["clips", "one", "other"]) fun _ _ _ _ _ _ => el3 fun _ _ _ => rfl
  obtain ⟨f25, fd25, F25, m25⟩ := h25.get X G
  have b25 := F25.binds (ps := ["_law_script", "_law_k"]) fun _ _ _ _ _ _ => el2 fun _ _ => rfl
  obtain ⟨f26, fd26, F26, m26⟩ := h26.get X G
  have b26 := F26.binds (ps := ["_law_script", "_law_k"]) fun _ _ _ _ _ _ => el2 fun _ _ => rfl
  obtain ⟨f27, fd27, F27, m27⟩ := h27.get X G
  have b27 := F27.binds (ps := ["_law_state_here", "_law_many"]) fun _ _ _ _ _ _ => el2 fun _ _ => rfl
  obtain ⟨f28, fd28, F28, m28⟩ := h28.get X G
  have b28 := F28.binds (ps := ["_law_found", "_law_due"]) fun _ _ _ _ _ _ => el2 fun _ _ => rfl
  obtain ⟨f29, fd29, F29, m29⟩ := h29.get X G
  have b29 := F29.binds (ps := ["_law_state_here", "_law_most"]) fun _ _ _ _ _ _ => el2 fun _ _ => rfl
  obtain ⟨f30, fd30, F30, m30⟩ := h30.get X G
  have b30 := F30.binds (ps := ["_law_sacks", "_law_one", "_law_other"]) fun _ _ _ _ _ _ => el3 fun _ _ _ => rfl
  have T : Mg mg := ⟨(PySem.W.mg_none_of X G z_isinstance), (PySem.W.mg_none_of X G z_int), (PySem.W.mg_none_of X G z_bool), (PySem.W.mg_none_of X G z_tuple), (PySem.W.mg_none_of X G z_len), (PySem.W.mg_none_of X G z_all)⟩
  have N : Nums mg := ⟨⟨t0, PySem.W.mg_of X G n0⟩, ⟨t1, PySem.W.mg_of X G n1⟩, ⟨t2, PySem.W.mg_of X G n2⟩, ⟨t3, PySem.W.mg_of X G n3⟩, ⟨t4, PySem.W.mg_of X G n4⟩⟩
  refine ⟨PySem.W.fnOf "law" "law" (defArgs (top 31)) (defBody (top 31)) (defScope (top 31)) .none kVL dcL pmL anL cdL ctL, fun s v => .of_eq rfl, fun base _ _ => ?_⟩
  have C5 := cal_mk (P := l.prog) (w := w) (base := base) (ok_is_whole F5 T) m5 F5.kp b5
  have C6 := cal_mk (P := l.prog) (w := w) (base := base) (ok_whole_from F6 C5) m6 F6.kp b6
  have C7 := cal_mk (P := l.prog) (w := w) (base := base) (ok_is_tuple_of F7 T) m7 F7.kp b7
  have C8 := cal_mk (P := l.prog) (w := w) (base := base) (ok_are_wholes F8 T C5 C7) m8 F8.kp b8
  have C13 := cal_mk (P := l.prog) (w := w) (base := base) (ok_is_clip F13 T N C8) m13 F13.kp b13
  have C14 := cal_mk (P := l.prog) (w := w) (base := base) (ok_are_clips F14 T N C13 C7) m14 F14.kp b14
  have C15 := cal_mk (P := l.prog) (w := w) (base := base) (ok_refuse F15 C14) m15 F15.kp b15
  have C19 := cal_mk (P := l.prog) (w := w) (base := base) (ok_are_weights F19 T N C6 C7) m19 F19.kp b19
  have C20 := cal_mk (P := l.prog) (w := w) (base := base) (ok_places F20 (PySem.W.mg_none_of X G z_enumerate) (PySem.W.mg_none_of X G z_sorted)) m20 F20.kp b20
  have C21 := cal_mk (P := l.prog) (w := w) (base := base) (ok_parts F21 T (PySem.W.mg_none_of X G z_sum) C20) m21 F21.kp b21
  have C23 := cal_mk (P := l.prog) (w := w) (base := base) (ok_shared F23 T (PySem.W.mg_none_of X G z_range) C15 C19 C21) m23 F23.kp b23
  have C25 := cal_mk (P := l.prog) (w := w) (base := base) (ok_cell F25 T) m25 F25.kp b25
  have C26 := cal_mk (P := l.prog) (w := w) (base := base) (ok_state F26 (PySem.W.mg_none_of X G z_max) C25) m26 F26.kp b26
  have C27 := cal_mk (P := l.prog) (w := w) (base := base) (ok_choice F27) m27 F27.kp b27
  have C28 := cal_mk (P := l.prog) (w := w) (base := base) (ok_same F28 (PySem.W.mg_none_of X G z_repr)) m28 F28.kp b28
  have C29 := cal_mk (P := l.prog) (w := w) (base := base) (ok_clips F29 T (PySem.W.mg_none_of X G z_range) C27) m29 F29.kp b29
  have C30 := cal_mk (P := l.prog) (w := w) (base := base) (ok_part F30 T (PySem.W.mg_none_of X G z_divmod)) m30 F30.kp b30
  exact ok_law FL T (PySem.W.mg_none_of X G z_range) (PySem.W.mg_none_of X G z_max) (PySem.W.mg_none_of X G z_min) (PySem.W.mg_none_of X G z_zip) (PySem.W.mg_none_of X G z_repr) C26 C29 C27 C30 C23 C28
theorem walk {l : PySem.W.OpenLaw} {q : Program} {loose : List Str} {XP : (Str → Option Value) → Heap → Prop} {YP : World → Heap → Prop} {d : DefRec} {K : Params → PySem.W.Frag} (hn : l.most = some 63) (hdf : d.params.defaults = [])
    (hY : ∀ (w : World) (h : Heap), YP w h → (K w.params).In h)
    (F : ∀ (w : World) (mg : Str → Option Value) (fa : Addr) (h : Heap), (K w.params).In h → h.Ns mainGlobals mg → mg d.name = some (.ref fa) →
      ∃ fd : FuncData, (∀ (s : Shared) (u : Value), BindsTo s fd ⟨[u], []⟩ [("_law_script", u)]) ∧ ∀ base : Heap, (K w.params).In base → base.Ns mainGlobals mg → FnOk l.prog w (K w.params) mg base CX0 63 fa fd ["_law_script"] (spLaw (K w.params))) :
    PySem.W.WalkO q loose XP YP l.row.toRowW d [] (fun f vs => PySem.call f vs) :=
  L2.walk_of (n := 63) (k := 63) (x := "_law_script") (CX := fun _ => CX0) (sp := fun w => spLaw (K w.params)) hn (by decide) hdf ⟨rfl, by decide, by decide, rfl⟩ hY F (fun _ _ a ns hl _ hS => ⟨a, ns, rfl, hS, hl, fun _ => rfl⟩) fun _ _ _ _ _ z => z
end K62
open PySem PySem.W PyProof.Rows
set_option maxRecDepth 100000 in
set_option maxHeartbeats 0 in
theorem PySem.Challenge.cw_woolyears_k62_a_shared_flock_holds : PySem.Challenge.rw_woolyears_k62_a_shared_flock.Holds := by
  w_on; o_law; k_head; (case hw => w_witness2)
  k_fill
  refine K62.walk (l := PySem.Challenge.rw_woolyears_k62_a_shared_flock) rfl rfl (fun w h Y => PySem.W.kIn_of Y) ?F
  case F =>
    intro w mg fa h KX G hmg
    refine' K62.all_mk KX G hmg ?h5 ?h6 ?h7 ?h8 ?h13 ?h14 ?h15 ?h19 ?h20 ?h21 ?h23 ?h25 ?h26 ?h27 ?h28 ?h29 ?h30 ?aL ?lL ?cL ?kL ?n0 ?n1 ?n2 ?n3 ?n4 ?z0 ?z1 ?z2 ?z3 ?z4 ?z5 ?z6 ?z7 ?z8 ?z9 ?z10 ?z11 ?z12 ?z13 ?z14
    case h5 =>
      refine' K62.has_mk ?a ?l ?c ?k
      (case a => k_is); (case l => k_is); (case c => k_is); (case k => k_is)
    case h6 =>
      refine' K62.has_mk ?a ?l ?c ?k
      (case a => k_is); (case l => k_is); (case c => k_is); (case k => k_is)
    case h7 =>
      refine' K62.has_mk ?a ?l ?c ?k
      (case a => k_is); (case l => k_is); (case c => k_is); (case k => k_is)
    case h8 =>
      refine' K62.has_mk ?a ?l ?c ?k
      (case a => k_is); (case l => k_is); (case c => k_is); (case k => k_is)
    case h13 =>
      refine' K62.has_mk ?a ?l ?c ?k
      (case a => k_is); (case l => k_is); (case c => k_is); (case k => k_is)
    case h14 =>
      refine' K62.has_mk ?a ?l ?c ?k
      (case a => k_is); (case l => k_is); (case c => k_is); (case k => k_is)
    case h15 =>
      refine' K62.has_mk ?a ?l ?c ?k
      (case a => k_is); (case l => k_is); (case c => k_is); (case k => k_is)
    case h19 =>
      refine' K62.has_mk ?a ?l ?c ?k
      (case a => k_is); (case l => k_is); (case c => k_is); (case k => k_is)
    case h20 =>
      refine' K62.has_mk ?a ?l ?c ?k
      (case a => k_is); (case l => k_is); (case c => k_is); (case k => k_is)
    case h21 =>
      refine' K62.has_mk ?a ?l ?c ?k
      (case a => k_is); (case l => k_is); (case c => k_is); (case k => k_is)
    case h23 =>
      refine' K62.has_mk ?a ?l ?c ?k
      (case a => k_is); (case l => k_is); (case c => k_is); (case k => k_is)
    case h25 =>
      refine' K62.has_mk ?a ?l ?c ?k
      (case a => k_is); (case l => k_is); (case c => k_is); (case k => k_is)
    case h26 =>
      refine' K62.has_mk ?a ?l ?c ?k
      (case a => k_is); (case l => k_is); (case c => k_is); (case k => k_is)
    case h27 =>
      refine' K62.has_mk ?a ?l ?c ?k
      (case a => k_is); (case l => k_is); (case c => k_is); (case k => k_is)
    case h28 =>
      refine' K62.has_mk ?a ?l ?c ?k
      (case a => k_is); (case l => k_is); (case c => k_is); (case k => k_is)
    case h29 =>
      refine' K62.has_mk ?a ?l ?c ?k
      (case a => k_is); (case l => k_is); (case c => k_is); (case k => k_is)
    case h30 =>
      refine' K62.has_mk ?a ?l ?c ?k
      (case a => k_is); (case l => k_is); (case c => k_is); (case k => k_is)
    (case aL => k_is); (case lL => k_is); (case cL => k_is); (case kL => k_is)
    (case n0 => k_is)
    (case n1 => k_is)
    (case n2 => k_is)
    (case n3 => k_is)
    (case n4 => k_is)
    (case z0 => k_is)
    (case z1 => k_is)
    (case z2 => k_is)
    (case z3 => k_is)
    (case z4 => k_is)
    (case z5 => k_is)
    (case z6 => k_is)
    (case z7 => k_is)
    (case z8 => k_is)
    (case z9 => k_is)
    (case z10 => k_is)
    (case z11 => k_is)
    (case z12 => k_is)
    (case z13 => k_is)
    (case z14 => k_is)

