import PyProof.Rows.All
import Wide.All
import OpenK.AllK
import Wide.FinOn
import Lean
import PyProof.EqAt
import PyProof.EqKinds
import PyProof.TupleCall
import PySem.Challenge.RW_recut_k21_area
-- CHANGE: your row's module here, as the last of these rows
set_option Elab.async false
set_option linter.all false
set_option maxRecDepth 100000
/-! THE HAND LAYER, for ints, bools, texts, own classes, LISTS and tuples (index, slices, in, append, pop ..), calls, loops. Paste it whole ahead of your own text; what your proof does not reach may be deleted. -/
namespace L2
open PySem PySem.Spec PyProof.Rows

/-- a key: an int or a str -/
abbrev Key := Sum Int Str
def keyIs : Key → Value → Bool
  | .inl k, v => Value.isInt k v
  | .inr x, v => Value.isStrOf x v
def keyH (w : World) : Key → Int
  | .inl k => hashInt k
  | .inr x => hashStr w x
theorem keyIs_shape : ∀ {k : Key} {v : Value}, keyIs k v = true → (∃ i t, k = Sum.inl i ∧ v = Value.int i t) ∨ (∃ x t, k = Sum.inr x ∧ v = Value.str x t)
  | .inl i, v, h => by
    obtain ⟨t, e⟩ := Value.isInt_shape (k := i) (v := v) h
    exact .inl ⟨i, t, rfl, e⟩
  | .inr x, v, h => by
    obtain ⟨t, e⟩ := Value.isStrOf_shape (x := x) (v := v) h
    exact .inr ⟨x, t, rfl, e⟩
theorem key_ll (a b : Int) : decide ((Sum.inl a : Key) = Sum.inl b) = (a == b) := by
  by_cases e : a = b
  · subst e; simp
  · have h : ¬ (Sum.inl a : Key) = Sum.inl b := fun q => e (Sum.inl.inj q)
    rw [decide_eq_false h]
    exact (beq_eq_false_iff_ne.mpr e).symm
theorem key_rr (a b : Str) : decide ((Sum.inr a : Key) = Sum.inr b) = decide (a = b) := by
  by_cases e : a = b
  · subst e; simp
  · have h : ¬ (Sum.inr a : Key) = Sum.inr b := fun q => e (Sum.inr.inj q)
    rw [decide_eq_false h, decide_eq_false e]
theorem key_lr (a : Int) (b : Str) : decide ((Sum.inl a : Key) = Sum.inr b) = false := decide_eq_false (fun q => nomatch q)
theorem key_rl (a : Str) (b : Int) : decide ((Sum.inr a : Key) = Sum.inl b) = false := decide_eq_false (fun q => nomatch q)

def mixKind (prog : Program) (w : World) : PySem.KeyKind prog w Key where
  is := keyIs
  hash := keyH w
  inj := fun v a b ha hb => by
    rcases keyIs_shape ha with ⟨i, t, rfl, rfl⟩ | ⟨x, t, rfl, rfl⟩
    · rcases keyIs_shape hb with ⟨j, u, rfl, e⟩ | ⟨y, u, rfl, e⟩
      · injection e with e1 _; rw [e1]
      · exact nomatch e
    · rcases keyIs_shape hb with ⟨j, u, rfl, e⟩ | ⟨y, u, rfl, e⟩
      · exact nomatch e
      · injection e with e1 _; rw [e1]
  byValue := fun k v h => by
    rcases keyIs_shape h with ⟨i, t, rfl, rfl⟩ | ⟨x, t, rfl, rfl⟩ <;> rfl
  pyHash := fun hv h => by
    rcases keyIs_shape hv with ⟨i, t, rfl, rfl⟩ | ⟨x, t, rfl, rfl⟩
    · exact wpAny_pyHash_int h
    · exact wpAny_pyHash_str h
  eqBool := fun hu hv h => by
    rcases keyIs_shape hu with ⟨i, t, rfl, rfl⟩ | ⟨x, t, rfl, rfl⟩
    · rcases keyIs_shape hv with ⟨j, u, rfl, rfl⟩ | ⟨y, u, rfl, rfl⟩
      · rw [key_ll] at h; exact wpAny_eqBool_int h
      · rw [key_lr] at h; exact SeqAt.EqAt.int_str i t y u _ _ _ _ h
    · rcases keyIs_shape hv with ⟨j, u, rfl, rfl⟩ | ⟨y, u, rfl, rfl⟩
      · rw [key_rl] at h; exact SeqAt.EqAt.str_int x t j u _ _ _ _ h
      · rw [key_rr] at h; exact wpAny_eqBool_str h
  «strs» := fun k x t v h => by
    rcases keyIs_shape h with ⟨i, u, rfl, e⟩ | ⟨y, u, rfl, e⟩
    · exact nomatch e
    · injection e with e1 _
      subst e1
      cases v <;> rfl

end L2

namespace L2
open PySem PySem.Spec PyProof.Rows

/-- a value, without the heap -/
inductive V where
  | non | bl (b : Bool) | int (i : Int) | str (x : Str) | byt (b : Array UInt8) | flt (b : UInt64) | ref (a : Addr) | ty (n : String)
  deriving DecidableEq

def RelV : V → Value → Prop
  | .non, u => u = Value.none
  | .bl b, u => u = Value.bool b
  | .int i, u => ∃ t, u = Value.int i t
  | .str x, u => ∃ t, u = Value.str x t
  | .byt b, u => ∃ t, u = Value.bytes b t
  | .flt b, u => ∃ t, u = Value.float b t
  | .ref a, u => u = Value.ref a
  | .ty n, u => u = Value.type n

abbrev Vals : List V → List Value → Prop := Paired RelV
theorem Vals.length {xs : List V} {us : List Value} (r : Vals xs us) : xs.length = us.length := Paired.length r
theorem Vals.get : ∀ {xs : List V} {us : List Value} {i : Nat} {x : V}, Vals xs us → xs[i]? = some x → ∃ u, us[i]? = some u ∧ RelV x u
  | _, _, _, _, .nil, e => by simp at e
  | _, _, 0, _, .cons r _, e => by simp at e; subst e; exact ⟨_, rfl, r⟩
  | _, _, i + 1, x, .cons _ t, e => by
    obtain ⟨u, h1, h2⟩ := Vals.get (i := i) (x := x) t (by simpa using e)
    exact ⟨u, by simpa using h1, h2⟩
theorem Vals.set {x : V} {u : Value} (r : RelV x u) : ∀ {xs : List V} {us : List Value} (i : Nat), Vals xs us → Vals (xs.set i x) (us.set i u)
  | _, _, _, .nil => .nil
  | _, _, 0, .cons _ t => .cons r t
  | _, _, i + 1, .cons q t => .cons q (Vals.set r i t)
theorem Vals.append : ∀ {xs ys : List V} {us ws : List Value}, Vals xs us → Vals ys ws → Vals (xs ++ ys) (us ++ ws)
  | _, _, _, _, .nil, s => s
  | _, _, _, _, .cons r t, s => .cons r (Vals.append t s)
theorem Vals.take : ∀ {xs : List V} {us : List Value} (n : Nat), Vals xs us → Vals (xs.take n) (us.take n)
  | _, _, 0, _ => .nil
  | _, _, _ + 1, .nil => .nil
  | _, _, n + 1, .cons r t => .cons r (Vals.take n t)
theorem Vals.drop : ∀ {xs : List V} {us : List Value} (n : Nat), Vals xs us → Vals (xs.drop n) (us.drop n)
  | _, _, 0, r => r
  | _, _, _ + 1, .nil => .nil
  | _, _, n + 1, .cons _ t => Vals.drop n t
def RelO : Option V → Option Value → Prop
  | some v, some u => RelV v u
  | none, none => True
  | _, _ => False
def KV {κ : Type} : List (κ × V) → List (κ × Value) → Prop := Paired fun (p : κ × V) (q : κ × Value) => p.1 = q.1 ∧ RelV p.2 q.2

/-- a key of a dict (00_mix): an int or a text -/
def kV : Key → V
  | .inl i => .int i
  | .inr x => .str x

/-- what stands at a tracked address -/
inductive HO where
  /-- a list -/
  | lst (xs : List V)
  /-- a tuple (never changes) -/
  | tup (xs : List V)
  /-- a dict whose keys are ints and texts; one whose keys are tuples of ints and texts (the empty one is both) -/
  | dK (kvs : List (Key × V)) | dT (kvs : List (List Key × V))
  /-- a set of ints: its members, its size -/
  | set (S : Int → Bool) (n : Nat)
  /-- an instance of the class at C, its dict at dx, its attributes -/
  | ins (C dx : Addr) (fs : List (Str × V))
  /-- the dict of the instance at x -/
  | own (x : Addr)
  /-- the dict of an exception -/
  | xd (fs : List (Str × V))
  /-- a bound method, f of x -/
  | met (f x : Addr)
  /-- a range object lo, lo + 1, .. below hi -/
  | rng (lo hi : Int)
  /-- a thing that is known to the object (the script; a dict while a loop walks it): read, never written while it is so -/
  | frz (o : Obj) (u : HO)
  /-- a code object's table -/
  | tbl (ps : Array Value)
  /-- any other thing, by what is true of its one object (a def of one's own: SetO a S n := HO.ext fun h => ..) -/
  | ext (φ : Heap → Prop)

abbrev Hp := Addr → Option HO
def upd (H : Hp) (a : Addr) (o : HO) : Hp := fun b => if b = a then some o else H b
theorem upd_same {H : Hp} {a : Addr} {o : HO} : upd H a o a = some o := by unfold upd; rw [if_pos rfl]
theorem upd_ne {H : Hp} {a b : Addr} {o : HO} (h : b ≠ a) : upd H a o b = H b := by unfold upd; rw [if_neg h]
/-- two objects of different content stand apart -/
theorem ne_of {H : Hp} {a b : Addr} {o u : HO} (h : H a = some o) (h' : H b = some u) (d : o ≠ u) : a ≠ b := by
  intro e; subst e; rw [h] at h'; exact d (Option.some.inj h')
theorem ne_of_none {H : Hp} {a b : Addr} {o : HO} (h : H a = some o) (h' : H b = none) : a ≠ b := by
  intro e; subst e; rw [h] at h'; cases h'

section
variable (P : Program) (w : World)
def ObjOk (H : Hp) (h : Heap) (a : Addr) : HO → Prop
  | .lst xs => xs.length ≤ sizeLine ∧ ∃ (its : List Value) (n : Nat), Vals xs its ∧ h.get? a = some { cls := .type "list", data := .seq its.toArray n }
  | .tup xs => xs.length ≤ sizeLine ∧ ∃ its : List Value, Vals xs its ∧ IsTup h a its.toArray
  | .dK kvs => kvs.length ≤ sizeLine ∧ (a == sysModules) = false ∧ ∃ vs, KV kvs vs ∧ h.DictOf (mixKind P w) a vs
  | .dT kvs => kvs.length ≤ sizeLine ∧ (a == sysModules) = false ∧ ∃ xs : List (List Key × Addr × Value),
      Paired (fun (p : List Key × V) (q : List Key × Addr × Value) => p.1 = q.1 ∧ H q.2.1 = some (.tup (p.1.map kV)) ∧ RelV p.2 q.2.2) kvs xs ∧
      ∃ o es ep, h.get? a = some o ∧ o.ExactDict ∧ o.data = .dict es ep ∧ es.toList = xs.map (entryOfKey (tupleKind (mixKind P w))) ∧ (xs.map (·.1)).Nodup
  | .set S n => h.SetOf (intKind P w) a S n
  | .ins C dx fs => H dx = some (.own a) ∧ fs.length ≤ 1000 ∧ dx ≠ a ∧ h.get? a = some (PySem.W.instObj C dx) ∧
      ∃ mA, h.Ns1 dx mA ∧ (∀ f, RelO (fs.lookup f) (mA f)) ∧ PySem.Within mA (fs.map (·.1))
  | .own _ => ∃ o, h.get? a = some o
  | .xd fs => ∃ mA, h.Ns1 a mA ∧ ∀ f, RelO (fs.lookup f) (mA f)
  | .rng lo hi => ∃ t u v, h.get? a = some { cls := .type "range", data := .fields #[.int lo t, .int hi u, .int 1 v] }
  | .frz o u => h.get? a = some o ∧ ObjOk H h a u
  | .tbl ps => h.get? a = some { cls := .none, data := .fields ps }
  | .met f x => h.get? a = some (PySem.W.methodObj (.ref f) (.ref x))
  | .ext φ => φ h ∧ (∃ o, h.get? a = some o) ∧ ∀ h1 h2 : Heap, φ h1 → (∀ o, h1.get? a = some o → h2.get? a = some o) → φ h2
/-- the abstract heap is held -/
def HOk (H : Hp) (h : Heap) : Prop := ∀ a o, H a = some o → ObjOk P w H h a o
end

section
variable {P : Program} {w : World} {H H' : Hp} {h h' : Heap} {a : Addr} {o : HO}
theorem ObjOk.lt (x : ObjOk P w H h a o) : a < h.objs.size := by
  cases o with
  | lst xs => obtain ⟨_, _, _, _, e⟩ := x; exact Heap.lt_size e
  | tup xs => obtain ⟨_, _, _, p⟩ := x; exact p.lt
  | dK kvs => obtain ⟨_, _, _, _, o, _, _, e, _⟩ := x; exact Heap.lt_size e
  | dT kvs => obtain ⟨_, _, _, _, o, _, _, e, _⟩ := x; exact Heap.lt_size e
  | set S n => obtain ⟨o, _, _, _, e, _⟩ := x; exact Heap.lt_size e
  | ins C dx fs => obtain ⟨_, _, _, e, _⟩ := x; exact Heap.lt_size e
  | own y => obtain ⟨_, e⟩ := x; exact Heap.lt_size e
  | xd fs => obtain ⟨_, ⟨_, _, _, e, _⟩, _⟩ := x; exact Heap.lt_size e
  | rng lo hi => obtain ⟨_, _, _, e⟩ := x; exact Heap.lt_size e
  | frz ob u => obtain ⟨e, _⟩ := x; exact Heap.lt_size e
  | tbl ps => exact Heap.lt_size (show h.get? a = some _ from x)
  | met f y => exact Heap.lt_size (show h.get? a = some _ from x)
  | ext φ => obtain ⟨_, ⟨_, e⟩, _⟩ := x; exact Heap.lt_size e
theorem Paired.mapP {α β : Type} {F G : α → β → Prop} : ∀ {l₁ : List α} {l₂ : List β}, Paired F l₁ l₂ → (∀ a b, F a b → G a b) → Paired G l₁ l₂
  | _, _, .nil, _ => .nil
  | _, _, .cons r t, f => .cons (f _ _ r) (Paired.mapP t f)
/-- what an object's description leans on: its own object, its own dict, the tuples -/
theorem ObjOk.stay (x : ObjOk P w H h a o) (k : ∀ b u, (b = a ∨ H b = some (.own a)) → h.get? b = some u → h'.get? b = some u)
    (ho : ∀ b, H b = some (.own a) → H' b = some (.own a)) (ht : ∀ b xs, H b = some (.tup xs) → H' b = some (.tup xs)) : ObjOk P w H' h' a o := by
  induction o with
  | lst xs => obtain ⟨z, its, n, r, e⟩ := x; exact ⟨z, its, n, r, k _ _ (.inl rfl) e⟩
  | tup xs => obtain ⟨z, its, r, ob, e, c⟩ := x; exact ⟨z, its, r, ob, k _ _ (.inl rfl) e, c⟩
  | dK kvs => obtain ⟨z, y, vs, r, ob, es, ep, e, c⟩ := x; exact ⟨z, y, vs, r, ob, es, ep, k _ _ (.inl rfl) e, c⟩
  | dT kvs =>
    obtain ⟨z, y, xs, r, ob, es, ep, e, c⟩ := x
    exact ⟨z, y, xs, Paired.mapP r fun p q z => ⟨z.1, ht _ _ z.2.1, z.2.2⟩, ob, es, ep, k _ _ (.inl rfl) e, c⟩
  | set S n => obtain ⟨ob, es, ep, t, e, c⟩ := x; exact ⟨ob, es, ep, t, k _ _ (.inl rfl) e, c⟩
  | ins C dx fs =>
    obtain ⟨d, z, ne, e, mA, ⟨od, es, ep, e2, c⟩, r⟩ := x
    exact ⟨ho _ d, z, ne, k _ _ (.inl rfl) e, mA, ⟨od, es, ep, k _ _ (.inr d) e2, c⟩, r⟩
  | own y => obtain ⟨ob, e⟩ := x; exact ⟨ob, k _ _ (.inl rfl) e⟩
  | xd fs => obtain ⟨mA, ⟨od, es, ep, e, c⟩, r⟩ := x; exact ⟨mA, ⟨od, es, ep, k _ _ (.inl rfl) e, c⟩, r⟩
  | rng lo hi => obtain ⟨t, u, v, e⟩ := x; exact ⟨t, u, v, k _ _ (.inl rfl) e⟩
  | frz ob u ih => obtain ⟨e, q⟩ := x; exact ⟨k _ _ (.inl rfl) e, ih q⟩
  | tbl ps =>
    have e : h.get? a = some { cls := .none, data := .fields ps } := x
    show h'.get? a = some { cls := .none, data := .fields ps }
    exact k a _ (.inl rfl) e
  | met f y =>
    have e : h.get? a = some (PySem.W.methodObj (.ref f) (.ref y)) := x
    show h'.get? a = some (PySem.W.methodObj (.ref f) (.ref y))
    exact k a _ (.inl rfl) e
  | ext φ => obtain ⟨p, ⟨o, e⟩, st⟩ := x; exact ⟨st _ _ p fun o q => k _ _ (.inl rfl) q, ⟨o, k _ _ (.inl rfl) e⟩, st⟩
theorem HOk.lt (x : HOk P w H h) (e : H a = some o) : a < h.objs.size := (x a o e).lt
theorem HOk.fresh (x : HOk P w H h) (e : h.objs.size ≤ a) : H a = none := by
  cases q : H a with
  | none => rfl
  | some u => exact absurd (Nat.lt_of_lt_of_le (x.lt q) e) (Nat.lt_irrefl _)
/-- every object of the heap is kept -/
theorem HOk.kept (x : HOk P w H h) (k : ∀ b u, h.get? b = some u → h'.get? b = some u) : HOk P w H h' := fun a o e =>
  (x a o e).stay (fun b u _ q => k b u q) (fun _ q => q) fun _ _ q => q
/-- a new object is laid and tracked -/
theorem HOk.laid (x : HOk P w H h) (k : ∀ b u, h.get? b = some u → h'.get? b = some u) (hp : h.objs.size ≤ a) (new : ObjOk P w (upd H a o) h' a o) : HOk P w (upd H a o) h' := fun b u e => by
  have hn := x.fresh hp
  by_cases hb : b = a
  · subst hb; rw [upd_same] at e; cases e; exact new
  · rw [upd_ne hb] at e
    exact (x b u e).stay (fun c v _ q => k c v q) (fun c q => by rw [upd_ne (ne_of_none q hn)]; exact q) fun c xs q => by rw [upd_ne (ne_of_none q hn)]; exact q
end

/-- what may be read as u: it is u, or a known u -/
def Rd (H : Hp) (a : Addr) (u : HO) : Prop := H a = some u ∨ ∃ o, H a = some (.frz o u)
theorem Rd.of {H : Hp} {a : Addr} {u : HO} (h : H a = some u) : Rd H a u := .inl h
theorem Rd.ok {P : Program} {w : World} {H : Hp} {h : Heap} {a : Addr} {u : HO} (r : Rd H a u) (x : HOk P w H h) : ObjOk P w H h a u := by
  rcases r with r | ⟨o, r⟩
  · exact x a u r
  · obtain ⟨_, q⟩ := x a _ r
    exact q
/-- what may be written -/
def Mut : Option HO → Prop
  | some (.lst _) => True
  | some (.dK _) => True
  | some (.dT _) => True
  | some (.set _ _) => True
  | some (.ins _ _ _) => True
  | some (.ext _) => True
  | _ => False
section
variable {P : Program} {w : World} {H : Hp} {h h' : Heap} {x e : Addr} {o' : HO}
/-- the object at e is changed: x itself, or the dict of the instance x -/
theorem HOk.write (ok : HOk P w H h) (mu : Mut (H x)) (he : e = x ∨ H e = some (.own x)) (k : ∀ b u, b ≠ e → h.get? b = some u → h'.get? b = some u) (heo : ∃ u, h'.get? e = some u)
    (new : ObjOk P w (upd H x o') h' x o') : HOk P w (upd H x o') h' := fun b u q => by
  have nown : ∀ c y, H c = some (.own y) → c ≠ x := fun c y r z => by subst z; rw [r] at mu; exact mu
  have ntup : ∀ c xs, H c = some (.tup xs) → c ≠ x := fun c xs r z => by subst z; rw [r] at mu; exact mu
  by_cases hb : b = x
  · subst hb; rw [upd_same] at q; cases q; exact new
  · rw [upd_ne hb] at q
    by_cases hbe : b = e
    · have q' : H b = some (.own x) := by
        rcases he with z | z
        · exact absurd (hbe.trans z) hb
        · rw [hbe]; exact z
      rw [q] at q'; cases q'
      obtain ⟨v, hv⟩ := heo
      exact ⟨v, by rw [hbe]; exact hv⟩
    · refine (ok b u q).stay (fun c v hc r => k c v ?_ r) (fun c r => by rw [upd_ne (nown c b r)]; exact r) fun c xs r => by rw [upd_ne (ntup c xs r)]; exact r
      rcases hc with rfl | hc
      · exact hbe
      · rintro rfl
        rcases he with z | z
        · exact nown c b hc z
        · rw [hc] at z; cases z; exact hb rfl
end

/-! ### kept unless tracked; of the frames at fs (the callers') the slots may change (an exception that passes writes there); of the records at ex (iterators) nothing is said -/
structure Un (fs ex : List Addr) (H H' : Hp) (h h' : Heap) : Prop where
  keep : ∀ b o, h.get? b = some o → H b = none → b ∉ fs → b ∉ ex → h'.get? b = some o
  slot : ∀ b o, h.get? b = some o → H b = none → b ∈ fs → b ∉ ex → ∃ sl, h'.get? b = some { o with slots := sl }
  free : ∀ b o, h.get? b = some o → H b = none → b ∉ ex → H' b = none
  there : ∀ b o, h.get? b = some o → b ∉ ex → ∃ o', h'.get? b = some o'
  tups : ∀ b xs, H b = some (.tup xs) → H' b = some (.tup xs)
  frzs : ∀ b o u, H b = some (.frz o u) → H' b = some (.frz o u)
  tbls : ∀ b ps, H b = some (.tbl ps) → ∃ more, H' b = some (.tbl (ps ++ more))
section
variable {fs fs' ex ex' : List Addr} {H H1 H2 : Hp} {h h1 h2 h' : Heap} {a x e : Addr} {o : HO}
theorem Un.any (u : Un fs ex H H1 h h1) {b : Addr} {ob : Obj} (q : h.get? b = some ob) (n : H b = none) (hx : b ∉ ex) : ∃ sl, h1.get? b = some { ob with slots := sl } := by
  by_cases hb : b ∈ fs
  · exact u.slot b ob q n hb hx
  · exact ⟨ob.slots, u.keep b ob q n hb hx⟩
theorem Un.trans (a : Un fs ex H H1 h h1) (b : Un fs ex H1 H2 h1 h2) : Un fs ex H H2 h h2 where
  keep := fun c ob q n hc hx => b.keep c ob (a.keep c ob q n hc hx) (a.free c ob q n hx) hc hx
  slot := fun c ob q n hc hx => by
    obtain ⟨sl, e1⟩ := a.slot c ob q n hc hx
    obtain ⟨sl', e2⟩ := b.slot c _ e1 (a.free c ob q n hx) hc hx
    exact ⟨sl', e2⟩
  free := fun c ob q n hx => by
    obtain ⟨o', e1⟩ := a.there c ob q hx
    exact b.free c o' e1 (a.free c ob q n hx) hx
  there := fun c ob q hx => by
    obtain ⟨o', e1⟩ := a.there c ob q hx
    exact b.there c o' e1 hx
  tups := fun c xs q => b.tups c xs (a.tups c xs q)
  frzs := fun c ob xs q => b.frzs c ob xs (a.frzs c ob xs q)
  tbls := fun c ps q => by
    obtain ⟨m1, e1⟩ := a.tbls c ps q
    obtain ⟨m2, e2⟩ := b.tbls c _ e1
    exact ⟨m1 ++ m2, by rw [e2, Array.append_assoc]⟩
theorem Un.kept (k : ∀ b u, h.get? b = some u → h'.get? b = some u) : Un fs ex H H h h' :=
  ⟨fun b ob q _ _ _ => k b ob q, fun b ob q _ _ _ => ⟨ob.slots, k b ob q⟩, fun _ _ _ n _ => n, fun b ob q _ => ⟨ob, k b ob q⟩, fun _ _ q => q, fun _ _ _ q => q, fun _ ps q => ⟨#[], by rw [q]; simp⟩⟩
theorem Un.refl : Un fs ex H H h h := Un.kept fun _ _ q => q
theorem Un.laid (k : ∀ b u, h.get? b = some u → h'.get? b = some u) (hp : h.objs.size ≤ a) (hn : H a = none) : Un fs ex H (upd H a o) h h' where
  keep := fun b u q _ _ _ => k b u q
  slot := fun b u q _ _ _ => ⟨u.slots, k b u q⟩
  free := fun b u q n _ => by rw [upd_ne (Nat.ne_of_lt (Nat.lt_of_lt_of_le (Heap.lt_size q) hp))]; exact n
  there := fun b u q _ => ⟨u, k b u q⟩
  tups := fun b xs q => by rw [upd_ne (ne_of_none q hn)]; exact q
  frzs := fun b u xs q => by rw [upd_ne (ne_of_none q hn)]; exact q
  tbls := fun b ps q => ⟨#[], by rw [upd_ne (ne_of_none q hn), q]; simp⟩
theorem Un.write (mu : Mut (H x)) (he : e = x ∨ H e = some (.own x)) (k : ∀ b u, b ≠ e → h.get? b = some u → h'.get? b = some u) (heo : ∃ u, h'.get? e = some u) : Un fs ex H (upd H x o) h h' := by
  have hx : ∀ b, H b = none → b ≠ x := fun b n z => by subst z; rw [n] at mu; exact mu
  have hb : ∀ b, H b = none → b ≠ e := fun b n z => by
    subst z
    rcases he with r | r
    · exact hx b n r
    · rw [n] at r; cases r
  have hm : ∀ b u, H b = some u → ¬ Mut (some u) → b ≠ x := fun b u q nm z => by subst z; rw [q] at mu; exact nm mu
  refine ⟨fun b u q n _ _ => k b u (hb b n) q, fun b u q n _ _ => ⟨u.slots, k b u (hb b n) q⟩, fun b u q n _ => by rw [upd_ne (hx b n)]; exact n, fun b u q _ => ?_,
    fun b xs q => by rw [upd_ne (hm b _ q fun z => z)]; exact q, fun b u xs q => by rw [upd_ne (hm b _ q fun z => z)]; exact q, fun b ps q => ⟨#[], by rw [upd_ne (hm b _ q fun z => z), q]; simp⟩⟩
  by_cases hbe : b = e
  · subst hbe; exact heo
  · exact ⟨u, k b u hbe q⟩
theorem Un.mono (u : Un fs ex H H1 h h1) (hs : ∀ b ∈ fs, b ∈ fs') (hx : ∀ b ∈ ex, b ∈ ex') : Un fs' ex' H H1 h h1 :=
  ⟨fun b ob q n hb he => u.keep b ob q n (fun z => hb (hs b z)) fun z => he (hx b z), fun _ _ q n _ he => u.any q n fun z => he (hx _ z), fun b ob q n he => u.free b ob q n fun z => he (hx b z), fun b ob q he => u.there b ob q fun z => he (hx b z), u.tups, u.frzs, u.tbls⟩
end

/-! ### the heap without what is tracked -/
def trk (h : Heap) (H : Hp) : List Addr := (List.range h.objs.size).filter fun a => (H a).isSome
def hidT (h : Heap) (H : Hp) : Heap := PySem.W.hideAll h (trk h H)
theorem hidT_size (h : Heap) (H : Hp) : (hidT h H).objs.size = h.objs.size := PySem.W.hideAll_size _ _
theorem hidT_get {h : Heap} {H : Hp} {b : Addr} {o : Obj} (e : h.get? b = some o) (n : H b = none) : (hidT h H).get? b = some o :=
  PySem.W.hideAll_get _ e fun hm => by
    have q : (H b).isSome = true := (List.mem_filter.mp hm).2
    rw [n] at q; simp at q
theorem of_hidT {h : Heap} {H : Hp} {b : Addr} {o : Obj} (e : (hidT h H).get? b = some o) : h.get? b = some o ∧ H b = none := by
  have e' : h.get? b = some o := PySem.W.of_hideAll (trk h H) e
  refine ⟨e', ?_⟩
  cases q : H b with
  | none => rfl
  | some x =>
    have hm : b ∈ trk h H := List.mem_filter.mpr ⟨List.mem_range.mpr (Heap.lt_size e'), by simp [q]⟩
    have z : (hidT h H).get? b = none := PySem.W.hideAll_none (trk h H) hm
    rw [z] at e; cases e

/-! ### OpenK's ledger, filled with every new object but one -/
def allNews (g h : Heap) (L : Addr) : List (Addr × Obj) := (List.range h.objs.size).filterMap fun a => if a = L ∨ (g.get? a).isSome = true then none else (h.get? a).map fun o => (a, o)
def rest (g h : Heap) (L d : Addr) : List (Addr × Obj) := (allNews g h L).filter fun p => decide (p.1 ≠ d)
end L2

namespace L2
open PySem PySem.Spec PyProof.Rows

/-- the module's facts, over the base: the heap at the law's entry without what is tracked there -/
structure Mod (K : PySem.W.Frag) (mg : Str → Option Value) (base : Heap) : Prop where
  kin : K.In base
  glob : base.Ns mainGlobals mg
  blt : ∃ mb, base.Ns builtinsNs mb ∧ ∀ x : Str, x ≠ "__name__" → mb x = bootBuiltins x
  nolimit : base.NoLimit

/-- the context: a def's body (or a comprehension's block) running. base: fixed through the whole law; s₀, H₀: the entry; outer: the frames whose slots others may change (a def's callers); stack: all frames that run;
   ex: iterators that were made ahead of the entry and are walked here (a comprehension's); fn: the names whose cells were made at the entry (a def: all; a comprehension's block: its own); calm: not within an except suite; pn: pins that every state bears; xe: what is wanted of an exception that leaves the code -/
structure Cx where
  prog : Program
  w : World
  K : PySem.W.Frag
  mg : Str → Option Value
  base : Heap
  A : Around
  N : List Str
  s₀ : Shared
  H₀ : Hp
  env : Env
  outer : List Env
  stack : List Env
  ex : List Addr
  fn : Str → Bool
  calm : Bool
  pn : List (Addr × Obj)
  xe : Value → Shared → Prop
/-- the callers' frames -/
def frs (l : List Env) : List Addr := l.filterMap (·.frame)
abbrev Cx.fs (X : Cx) : List Addr := frs X.outer

def Vis (sc : Scope) (x : Str) : Prop := sc.names.lookup x = some .local ∨ sc.names.lookup x = some .cell ∨ sc.names.lookup x = some .free
def Loc (sc : Scope) (x : Str) : Prop := sc.names.lookup x = some .local ∨ sc.names.lookup x = some .cell
def Look (env : Env) (h : Heap) (m : Str → Option Value) (x : Str) (u : Value) : Prop :=
  (env.kindOf x = some .local ∧ m x = some u) ∨ ((env.kindOf x = some .cell ∨ env.kindOf x = some .free) ∧ ∃ c, env.cells.lookup x = some c ∧ h.IsCell c (some u))

structure Cx.Ok (X : Cx) : Prop where
  mod : Mod X.K X.mg X.base
  kind : X.env.scope.kind = .function
  glob : X.env.globals = mainGlobals
  blt : X.env.builtins = builtinsNs
  above : X.s₀.heap.objs.size ≤ X.env.locals
  inj : ∀ x y c, X.env.cells.lookup x = some c → X.env.cells.lookup y = some c → x = y
  has : ∀ x, (X.env.kindOf x = some .cell ∨ X.env.kindOf x = some .free) → ∃ c, X.env.cells.lookup x = some c
  cab : ∀ x c, X.fn x = true → X.env.cells.lookup x = some c → X.s₀.heap.objs.size ≤ c
  hd : X.calm = true → X.A.handled = none
  frames : X.A.frames = some X.stack
  stk : X.stack = X.outer ∨ (X.stack = X.env :: X.outer ∧ X.env.frame = some X.env.locals)
  exf : ∀ b ∈ X.ex, b ≠ X.env.locals ∧ ∀ x c, X.env.cells.lookup x = some c → c ≠ b
  bs : ∀ b o, X.base.get? b = some o → X.s₀.heap.get? b = some o ∧ X.H₀ b = none
  bsz : X.base.objs.size ≤ X.s₀.heap.objs.size
  noex : ∀ b o, X.base.get? b = some o → b ∉ X.ex
  exfs : ∀ b ∈ X.ex, b ∉ X.fs
  funs : X.s₀.heap.FunFrames X.base X.outer
  frf : ∀ b ∈ X.fs, X.H₀ b = none

structure Inv (X : Cx) (pins : List (Addr × Obj)) (σ : List (Option V)) (H : Hp) (s : Shared) : Prop where
  ok : X.Ok
  os : s.os = X.s₀.os
  bare : AllBare s.gens
  base : Un X.fs X.ex X.H₀ H X.s₀.heap s.heap
  loc : ∃ m, s.heap.Ns X.env.locals m ∧ ∀ (i : Nat) (x : Str) (v : V), X.N[i]? = some x → σ[i]? = some (some v) → Vis X.env.scope x → ∃ u, RelV v u ∧ Look X.env s.heap m x u
  cell : ∀ x c, X.env.cells.lookup x = some c → ∃ v, s.heap.IsCell c v
  free : H X.env.locals = none
  freeC : ∀ x c, X.env.cells.lookup x = some c → H c = none
  pin : ∀ p ∈ X.pn ++ pins, s.heap.get? p.1 = some p.2 ∧ H p.1 = none ∧ p.1 ≠ X.env.locals ∧ p.1 ∉ X.fs ∧ ∀ v, p.2.data ≠ .cell v
  hok : HOk X.prog X.w H s.heap
  len : σ.length = X.N.length

section
variable {X : Cx} {pins : List (Addr × Obj)} {σ : List (Option V)} {H H' : Hp} {s : Shared} {h' : Heap}

theorem Cx.Ok.nofr (ok : X.Ok) {b : Addr} {o : Obj} (e : X.base.get? b = some o) : b ∉ X.fs := fun hb => by
  have := (ok.funs.mem hb).1
  rw [e] at this; cases this
theorem Inv.bs (I : Inv X pins σ H s) : ∀ b o, X.base.get? b = some o → s.heap.get? b = some o ∧ H b = none := fun b o e =>
  ⟨I.base.keep b o (I.ok.bs b o e).1 (I.ok.bs b o e).2 (I.ok.nofr e) (I.ok.noex b o e), I.base.free b o (I.ok.bs b o e).1 (I.ok.bs b o e).2 (I.ok.noex b o e)⟩
theorem Inv.bk (I : Inv X pins σ H s) : ∀ b o, X.base.get? b = some o → s.heap.get? b = some o := fun b o e => (I.bs b o e).1
theorem Inv.mod (I : Inv X pins σ H s) : Mod X.K X.mg X.base := I.ok.mod
theorem Inv.kIn (I : Inv X pins σ H s) : X.K.In s.heap := I.ok.mod.kin.keeps I.bk
theorem Inv.nolimit (I : Inv X pins σ H s) : s.heap.NoLimit := I.ok.mod.nolimit.keeps I.bk
/-- the frame over the base: for OpenK's rules (K.In X.base is I.mod.kin) -/
theorem Inv.fr (I : Inv X pins σ H s) : ∃ m, Fr X.base X.env.locals s.heap m :=
  let ⟨m, hn, _⟩ := I.loc
  ⟨m, hn, I.bk, Nat.le_trans I.ok.bsz I.ok.above⟩
theorem Inv.lt (I : Inv X pins σ H s) : X.env.locals < s.heap.objs.size := let ⟨_, hn, _⟩ := I.loc; hn.lt
theorem Inv.sz (I : Inv X pins σ H s) : X.s₀.heap.objs.size ≤ s.heap.objs.size := Nat.le_trans I.ok.above (Nat.le_of_lt I.lt)
theorem Inv.nofs (I : Inv X pins σ H s) {a : Addr} (h : s.heap.objs.size ≤ a) : a ∉ X.fs := fun hb => by
  obtain ⟨_, o, ho, _⟩ := I.ok.funs.mem hb
  exact absurd (Nat.lt_of_lt_of_le (Heap.lt_size ho) (Nat.le_trans I.sz h)) (Nat.lt_irrefl _)
theorem Inv.cne (I : Inv X pins σ H s) : ∀ x c, X.env.cells.lookup x = some c → c ≠ X.env.locals := fun x c e z => by
  obtain ⟨v, o, ho, hd⟩ := I.cell x c e
  obtain ⟨m, ⟨o', es, ep, ho', hd', _⟩, _⟩ := I.loc
  rw [z, ho'] at ho; cases ho; rw [hd'] at hd; cases hd
theorem Inv.funs (I : Inv X pins σ H s) : s.heap.FunFrames X.base X.outer := by
  have all : ∀ (l : List Env), (∀ b ∈ frs l, b ∈ X.fs) → X.s₀.heap.FunFrames X.base l → s.heap.FunFrames X.base l := by
    intro l
    induction l with
    | nil => intro _ _; trivial
    | cons env r ih =>
      intro hs hl
      obtain ⟨hk, ⟨L, o, hf, hn, ho, hd⟩, hr⟩ := hl
      have hL : L ∈ X.fs := hs L (by unfold frs; rw [List.filterMap_cons, hf]; exact List.mem_cons_self)
      obtain ⟨sl, e⟩ := I.base.slot L o ho (I.ok.frf L hL) hL fun z => I.ok.exfs L z hL
      exact ⟨hk, ⟨L, _, hf, hn, e, hd⟩, ih (fun b hb => hs b (by unfold frs; rw [List.filterMap_cons, hf]; exact List.mem_cons_of_mem _ hb)) hr⟩
  exact all X.outer (fun _ hb => hb) I.ok.funs

/-- the frames that run, for a call -/
theorem Inv.stack (I : Inv X pins σ H s) : s.heap.FunFrames X.base X.stack := by
  rcases I.ok.stk with e | ⟨e, hf⟩
  · rw [e]; exact I.funs
  · rw [e]
    obtain ⟨m, hn, _⟩ := I.loc
    refine .cons (by rw [I.ok.kind]; decide) hf hn ?_ I.funs
    exact Heap.get?_none_of_le (Nat.le_trans I.ok.bsz I.ok.above)
theorem Inv.stkSub (I : Inv X pins σ H s) : ∀ b ∈ frs X.stack, b ∈ X.env.locals :: X.fs := fun b hb => by
  rcases I.ok.stk with e | ⟨e, hf⟩
  · rw [e] at hb; exact List.mem_cons_of_mem _ hb
  · rw [e] at hb
    unfold frs at hb
    rw [List.filterMap_cons, hf] at hb
    exact hb
theorem Inv.stkFree (I : Inv X pins σ H s) : ∀ b ∈ frs X.stack, H b = none := fun b hb => by
  rcases List.mem_cons.mp (I.stkSub b hb) with e | hb
  · rw [e]; exact I.free
  · obtain ⟨_, o, ho, _⟩ := I.ok.funs.mem hb
    exact I.base.free b o ho (I.ok.frf b hb) fun z => I.ok.exfs b z hb

/-- THE STEP: the untracked objects but the frame and the records at ch are kept (the callers' frames up to slots), the frame's map is kept, the new abstract heap is held -/
theorem Inv.step {g' : Array GenState} {t' : Nat} {d' : Drawn} {ch : List Addr} (I : Inv X pins σ H s)
    (hch : ∀ b ∈ ch, (b ∈ X.ex ∨ X.s₀.heap.objs.size ≤ b) ∧ b ≠ X.env.locals ∧ (∀ x c, X.env.cells.lookup x = some c → c ≠ b) ∧ ∀ p ∈ X.pn ++ pins, p.1 ≠ b)
    (keep : ∀ b o, b ≠ X.env.locals → b ∉ X.fs → b ∉ ch → s.heap.get? b = some o → H b = none → h'.get? b = some o)
    (slot : ∀ b o, b ≠ X.env.locals → b ∈ X.fs → b ∉ ch → s.heap.get? b = some o → H b = none → ∃ sl, h'.get? b = some { o with slots := sl }) (free : ∀ b o, b ∉ ch → s.heap.get? b = some o → H b = none → H' b = none)
    (there : ∀ b o, b ∉ ch → s.heap.get? b = some o → ∃ o', h'.get? b = some o')
    (tups : ∀ b xs, H b = some (.tup xs) → H' b = some (.tup xs)) (frzs : ∀ b o u, H b = some (.frz o u) → H' b = some (.frz o u)) (tbls : ∀ b ps, H b = some (.tbl ps) → ∃ more, H' b = some (.tbl (ps ++ more)))
    (ns : ∀ m, s.heap.Ns X.env.locals m → h'.Ns X.env.locals m) (hok : HOk X.prog X.w H' h') (hg : AllBare g') :
    Inv X pins σ H' { s with heap := h', gens := g', drawn := d', toks := t' } := by
  have neL : ∀ b o, X.s₀.heap.get? b = some o → b ≠ X.env.locals := fun b o e => Nat.ne_of_lt (Nat.lt_of_lt_of_le (Heap.lt_size e) I.ok.above)
  have neC : ∀ b o, X.s₀.heap.get? b = some o → b ∉ X.ex → b ∉ ch := fun b o e hx hb => by
    rcases (hch b hb).1 with z | z
    · exact hx z
    · exact absurd (Nat.lt_of_lt_of_le (Heap.lt_size e) z) (Nat.lt_irrefl _)
  have cellK : ∀ x c, X.env.cells.lookup x = some c → ∀ v, s.heap.IsCell c v → h'.IsCell c v := fun x c e v ⟨o, ho, hd⟩ => by
    have nch : c ∉ ch := fun z => (hch c z).2.2.1 x c e rfl
    by_cases hc : c ∈ X.fs
    · obtain ⟨sl, q⟩ := slot c o (I.cne x c e) hc nch ho (I.freeC x c e)
      exact ⟨_, q, hd⟩
    · exact ⟨o, keep c o (I.cne x c e) hc nch ho (I.freeC x c e), hd⟩
  refine ⟨I.ok, I.os, hg, ⟨fun b o e n hb hx => ?_, fun b o e n hb hx => ?_, fun b o e n hx => ?_, fun b o e hx => ?_, fun b xs e => tups b xs (I.base.tups b xs e), fun b o xs e => frzs b o xs (I.base.frzs b o xs e), fun b ps e => ?_⟩, ?_, fun x c e => ?_, ?_, fun x c e => ?_, fun p hp => ?_, hok, I.len⟩
  · exact keep b o (neL b o e) hb (neC b o e hx) (I.base.keep b o e n hb hx) (I.base.free b o e n hx)
  · obtain ⟨sl, e1⟩ := I.base.slot b o e n hb hx
    obtain ⟨sl', e2⟩ := slot b _ (neL b o e) hb (neC b o e hx) e1 (I.base.free b o e n hx)
    exact ⟨sl', e2⟩
  · obtain ⟨o', e1⟩ := I.base.there b o e hx
    exact free b o' (neC b o e hx) e1 (I.base.free b o e n hx)
  · obtain ⟨o', e1⟩ := I.base.there b o e hx
    exact there b o' (neC b o e hx) e1
  · obtain ⟨m1, e1⟩ := I.base.tbls b ps e
    obtain ⟨m2, e2⟩ := tbls b _ e1
    exact ⟨m1 ++ m2, by rw [e2, Array.append_assoc]⟩
  · obtain ⟨m, hn, hl⟩ := I.loc
    refine ⟨m, ns m hn, fun i x v e1 e2 e3 => ?_⟩
    obtain ⟨u, r, l⟩ := hl i x v e1 e2 e3
    refine ⟨u, r, ?_⟩
    rcases l with l | ⟨k, c, e, z⟩
    · exact .inl l
    · exact .inr ⟨k, c, e, cellK x c e _ z⟩
  · obtain ⟨v, z⟩ := I.cell x c e
    exact ⟨v, cellK x c e v z⟩
  · obtain ⟨m, ⟨o, _, _, ho, _⟩, _⟩ := I.loc
    exact free _ o (fun z => (hch _ z).2.1 rfl) ho I.free
  · obtain ⟨v, o, ho, hd⟩ := I.cell x c e
    exact free c o (fun z => (hch c z).2.2.1 x c e rfl) ho (I.freeC x c e)
  · obtain ⟨e, n, ne, nf, d⟩ := I.pin p hp
    have nch : p.1 ∉ ch := fun z => (hch p.1 z).2.2.2 p hp rfl
    exact ⟨keep p.1 p.2 ne nf nch e n, free p.1 p.2 nch e n, ne, nf, d⟩
/-- .. where the frame's own object is kept too -/
theorem Inv.un {t' : Nat} (I : Inv X pins σ H s) (u : Un X.fs [] H H' s.heap h') (hok : HOk X.prog X.w H' h') : Inv X pins σ H' { s with heap := h', toks := t' } := by
  obtain ⟨m, ⟨o, es, ep, ho, r⟩, _⟩ := id I.loc
  obtain ⟨sl, hL⟩ := u.any ho I.free (by simp)
  exact I.step (g' := s.gens) (d' := s.drawn) (ch := []) (fun _ z => nomatch z) (fun b o _ hb _ e n => u.keep b o e n hb (by simp)) (fun b o _ hb _ e n => u.slot b o e n hb (by simp)) (fun b o _ e n => u.free b o e n (by simp)) (fun b o _ e => u.there b o e (by simp)) u.tups u.frzs u.tbls (fun m' hm => by
    obtain ⟨o', es', ep', ho', r'⟩ := hm
    rw [ho] at ho'; cases ho'
    exact ⟨_, es', ep', hL, r'⟩) hok I.bare
/-- behind a call (or a comprehension's block): the slots of this frame may have changed too, the records at ch may have turned -/
theorem Inv.call {g' : Array GenState} {t' : Nat} {d' : Drawn} {ch : List Addr} (I : Inv X pins σ H s) (u : Un (frs X.stack) ch H H' s.heap h') (hok : HOk X.prog X.w H' h') (hg : AllBare g')
    (hch : ∀ b ∈ ch, (b ∈ X.ex ∨ X.s₀.heap.objs.size ≤ b) ∧ b ≠ X.env.locals ∧ (∀ x c, X.env.cells.lookup x = some c → c ≠ b) ∧ ∀ p ∈ X.pn ++ pins, p.1 ≠ b) :
    Inv X pins σ H' { s with heap := h', gens := g', drawn := d', toks := t' } := by
  obtain ⟨m, ⟨o, es, ep, ho, r⟩, _⟩ := id I.loc
  obtain ⟨sl, hL⟩ := u.any ho I.free fun z => (hch _ z).2.1 rfl
  exact I.step (ch := ch) hch (fun b o hL hb hc e n => u.keep b o e n (fun z => (List.mem_cons.mp (I.stkSub b z)).elim hL hb) hc) (fun b o _ _ hc e n => u.any e n hc) (fun b o hc e n => u.free b o e n hc) (fun b o hc e => u.there b o e hc) u.tups u.frzs u.tbls (fun m' hm => by
    obtain ⟨o', es', ep', ho', r'⟩ := hm
    rw [ho] at ho'; cases ho'
    exact ⟨_, es', ep', hL, r'⟩) hok hg
/-- an untracked record of ours (an iterator) has turned -/
theorem Inv.turned {t' : Nat} {it : Addr} (I : Inv X pins σ H s) (k : ∀ b o, b ≠ it → s.heap.get? b = some o → h'.get? b = some o) (hn : H it = none) (hL : it ≠ X.env.locals)
    (h1 : it ∈ X.ex ∨ X.s₀.heap.objs.size ≤ it) (h2 : ∀ x c, X.env.cells.lookup x = some c → c ≠ it) (h3 : ∀ p ∈ X.pn ++ pins, p.1 ≠ it) : Inv X pins σ H { s with heap := h', toks := t' } := by
  have nit : ∀ b u, H b = some u → b ≠ it := fun b u e z => by rw [z, hn] at e; cases e
  refine I.step (g' := s.gens) (d' := s.drawn) (ch := [it]) (fun b hb => ?_) (fun b o _ _ hc e _ => k b o (fun z => hc (by simp [z])) e) (fun b o _ _ hc e _ => ⟨o.slots, k b o (fun z => hc (by simp [z])) e⟩) (fun _ _ _ _ n => n)
    (fun b o hc e => ⟨o, k b o (fun z => hc (by simp [z])) e⟩) (fun _ _ e => e) (fun _ _ _ e => e) (fun b ps e => ⟨#[], by rw [e]; simp⟩) (fun m hm => ?_) (fun b u e => ?_) I.bare
  · have e : b = it := by simpa using hb
    subst e
    exact ⟨h1, hL, h2, h3⟩
  · obtain ⟨o, es, ep, ho, r⟩ := hm
    exact ⟨o, es, ep, k _ o (Ne.symm hL) ho, r⟩
  · refine (I.hok b u e).stay (fun c v hc q => k c v ?_ q) (fun _ q => q) fun _ _ q => q
    rcases hc with z | z
    · rw [z]; exact nit b u e
    · exact nit c _ z
theorem Inv.tok (I : Inv X pins σ H s) (t : Nat) : Inv X pins σ H { s with toks := t } := I.un (h' := s.heap) (t' := t) Un.refl I.hok
/-- all objects kept -/
theorem Inv.kept {t' : Nat} (I : Inv X pins σ H s) (k : ∀ b u, s.heap.get? b = some u → h'.get? b = some u) : Inv X pins σ H { s with heap := h', toks := t' } := I.un (Un.kept k) (I.hok.kept k)
/-- a new object laid and tracked -/
theorem Inv.laid {a : Addr} {o : HO} {t' : Nat} (I : Inv X pins σ H s) (k : ∀ b u, s.heap.get? b = some u → h'.get? b = some u) (hp : s.heap.objs.size ≤ a) (new : ObjOk X.prog X.w (upd H a o) h' a o) :
    Inv X pins σ (upd H a o) { s with heap := h', toks := t' } := I.un (Un.laid k hp (I.hok.fresh hp)) (I.hok.laid k hp new)
/-- an object written -/
theorem Inv.write {x e : Addr} {o : HO} {t' : Nat} (I : Inv X pins σ H s) (mu : Mut (H x)) (he : e = x ∨ H e = some (.own x)) (k : ∀ b u, b ≠ e → s.heap.get? b = some u → h'.get? b = some u) (heo : ∃ u, h'.get? e = some u)
    (new : ObjOk X.prog X.w (upd H x o) h' x o) : Inv X pins σ (upd H x o) { s with heap := h', toks := t' } := I.un (Un.write mu he k heo) (I.hok.write mu he k heo new)
theorem Inv.pins_of {pins' : List (Addr × Obj)} (I : Inv X pins σ H s) (h : ∀ p ∈ pins', s.heap.get? p.1 = some p.2 ∧ H p.1 = none ∧ p.1 ≠ X.env.locals ∧ p.1 ∉ X.fs ∧ ∀ v, p.2.data ≠ .cell v) : Inv X pins' σ H s :=
  ⟨I.ok, I.os, I.bare, I.base, I.loc, I.cell, I.free, I.freeC, fun p hp => (List.mem_append.mp hp).elim (fun z => I.pin p (List.mem_append_left _ z)) (h p), I.hok, I.len⟩

theorem nodup_ix {N : List Str} (hN : N.Nodup) {i j : Nat} {x : Str} (a : N[i]? = some x) (b : N[j]? = some x) : i = j := by
  obtain ⟨h1, e1⟩ := List.getElem?_eq_some_iff.mp a
  obtain ⟨h2, e2⟩ := List.getElem?_eq_some_iff.mp b
  exact (List.getElem_inj hN).mp (e1.trans e2.symm)

/-- a name is stored; what changed -/
theorem store_ok2 {M : Model} {A : Around} {E : Value → Shared → Prop} {i : Nat} {x : Str} {v : V} {u : Value} {Q : Unit → Shared → Prop} (I : Inv X pins σ H s) (hN : X.N.Nodup) (hi : X.N[i]? = some x) (hx : Loc X.env.scope x) (r : RelV v u)
    (h : ∀ s', Inv X pins (σ.set i (some v)) H s' → (∃ a, Heap.SameBut a s.heap s'.heap ∧ (a = X.env.locals ∨ X.env.cells.lookup x = some a)) → Q () s') (hf : X.fn x = true ∨ X.env.scope.names.lookup x = some .local := by first | exact .inl rfl | exact .inr rfl | assumption) : wpAny M A (storeName X.env x u) Q E s := by
  obtain ⟨m, hn, hl⟩ := id I.loc
  have hcls : (X.env.scope.kind == .class || (X.env.scope.kind == .module && X.env.locals != X.env.globals)) = false := by rw [I.ok.kind]; rfl
  have hiσ : i < σ.length := by rw [I.len]; exact (List.getElem?_eq_some_iff.mp hi).1
  have cne := I.cne
  have tracked : ∀ {a : Addr} {h' : Heap}, (∃ o, s.heap.get? a = some o ∧ H a = none) → Heap.SameBut a s.heap h' → HOk X.prog X.w H h' := fun {a h'} ha hs b ob e => by
    obtain ⟨_, _, hfree⟩ := ha
    refine (I.hok b ob e).stay (fun c w' hc q => (hs.2 c ?_).trans q) (fun _ q => q) fun _ _ q => q
    rintro rfl
    rcases hc with rfl | hc
    · rw [hfree] at e; cases e
    · rw [hfree] at hc; cases hc
  rcases hx with hk | hk
  · refine wpAny_storeName_local hk hn (fun h' hn' hs => ?_) hcls
    obtain ⟨oL, _, _, hoL, _⟩ := id hn
    refine h _ ⟨I.ok, I.os, I.bare, ⟨fun b o e n hb hx => ?_, fun b o e n hb hx => ?_, I.base.free, fun b o e hx => ?_, I.base.tups, I.base.frzs, I.base.tbls⟩, ⟨_, hn', fun j y v' e1 e2 e3 => ?_⟩, fun y c e => ?_, I.free, I.freeC, fun p hp => ?_, tracked ⟨oL, hoL, I.free⟩ hs, by simpa using I.len⟩ ⟨_, hs, .inl rfl⟩
    · exact (hs.2 b (Nat.ne_of_lt (Nat.lt_of_lt_of_le (Heap.lt_size e) I.ok.above))).trans (I.base.keep b o e n hb hx)
    · obtain ⟨sl, e1⟩ := I.base.slot b o e n hb hx
      exact ⟨sl, (hs.2 b (Nat.ne_of_lt (Nat.lt_of_lt_of_le (Heap.lt_size e) I.ok.above))).trans e1⟩
    · obtain ⟨o', e1⟩ := I.base.there b o e hx
      exact ⟨o', (hs.2 b (Nat.ne_of_lt (Nat.lt_of_lt_of_le (Heap.lt_size e) I.ok.above))).trans e1⟩
    · by_cases hj : j = i
      · subst hj
        rw [hi] at e1; cases e1
        rw [List.getElem?_set_self hiσ] at e2
        cases e2
        exact ⟨u, r, .inl ⟨hk, by simp⟩⟩
      · rw [List.getElem?_set_ne (Ne.symm hj)] at e2
        obtain ⟨u', r', q⟩ := hl j y v' e1 e2 e3
        refine ⟨u', r', ?_⟩
        rcases q with ⟨k, e⟩ | ⟨k, c, e, z⟩
        · refine .inl ⟨k, ?_⟩
          have : y ≠ x := fun e => hj (nodup_ix hN e1 (e ▸ hi))
          simp [this, e]
        · exact .inr ⟨k, c, e, z.sameBut hs (cne y c e)⟩
    · obtain ⟨w', z⟩ := I.cell y c e
      exact ⟨w', z.sameBut hs (cne y c e)⟩
    · obtain ⟨e, n, ne, nf, d⟩ := I.pin p hp
      exact ⟨(hs.2 p.1 ne).trans e, n, ne, nf, d⟩
  · have hfn : X.fn x = true := by
      rcases hf with z | z
      · exact z
      · rw [z] at hk; cases hk
    obtain ⟨c, hc⟩ := I.ok.has x (.inl hk)
    obtain ⟨w', z⟩ := I.cell x c hc
    refine wpAny_storeName_cell I.ok.kind hk hc z (fun h' hc' hs => ?_)
    obtain ⟨oc, hoc, hocd⟩ := id z
    refine h { s with heap := h' } ⟨I.ok, I.os, I.bare, ⟨fun b o e n hb hx => ?_, fun b o e n hb hx => ?_, I.base.free, fun b o e hx => ?_, I.base.tups, I.base.frzs, I.base.tbls⟩, ⟨m, hn.sameBut hs (Ne.symm (cne x c hc)), fun j y v' e1 e2 e3 => ?_⟩, fun y c' e => ?_, I.free, I.freeC, fun p hp => ?_, tracked ⟨oc, hoc, I.freeC x c hc⟩ hs, by simpa using I.len⟩ ⟨c, hs, .inr hc⟩
    · exact (hs.2 b (Nat.ne_of_lt (Nat.lt_of_lt_of_le (Heap.lt_size e) (I.ok.cab x c hfn hc)))).trans (I.base.keep b o e n hb hx)
    · obtain ⟨sl, e1⟩ := I.base.slot b o e n hb hx
      exact ⟨sl, (hs.2 b (Nat.ne_of_lt (Nat.lt_of_lt_of_le (Heap.lt_size e) (I.ok.cab x c hfn hc)))).trans e1⟩
    · obtain ⟨o', e1⟩ := I.base.there b o e hx
      exact ⟨o', (hs.2 b (Nat.ne_of_lt (Nat.lt_of_lt_of_le (Heap.lt_size e) (I.ok.cab x c hfn hc)))).trans e1⟩
    · by_cases hj : j = i
      · subst hj
        rw [hi] at e1; cases e1
        rw [List.getElem?_set_self hiσ] at e2
        cases e2
        exact ⟨u, r, .inr ⟨.inl hk, c, hc, hc'⟩⟩
      · rw [List.getElem?_set_ne (Ne.symm hj)] at e2
        obtain ⟨u', r', q⟩ := hl j y v' e1 e2 e3
        refine ⟨u', r', ?_⟩
        rcases q with q | ⟨k, c', e, z'⟩
        · exact .inl q
        · refine .inr ⟨k, c', e, z'.sameBut hs ?_⟩
          rintro rfl
          exact hj (nodup_ix hN e1 (I.ok.inj _ _ _ e hc ▸ hi))
    · by_cases hcc : c' = c
      · subst hcc; exact ⟨_, hc'⟩
      · obtain ⟨w2, z2⟩ := I.cell y c' e
        exact ⟨w2, z2.sameBut hs hcc⟩
    · obtain ⟨e, n, ne, nf, d⟩ := I.pin p hp
      refine ⟨(hs.2 p.1 ?_).trans e, n, ne, nf, d⟩
      intro q
      rw [q, hoc] at e
      have q' : oc = p.2 := Option.some.inj e
      exact d w' (by rw [← q']; exact hocd)
theorem store_ok {M : Model} {A : Around} {E : Value → Shared → Prop} {i : Nat} {x : Str} {v : V} {u : Value} {Q : Unit → Shared → Prop} (I : Inv X pins σ H s) (hN : X.N.Nodup) (hi : X.N[i]? = some x) (hx : Loc X.env.scope x) (r : RelV v u)
    (h : ∀ s', Inv X pins (σ.set i (some v)) H s' → Q () s') (hf : X.fn x = true ∨ X.env.scope.names.lookup x = some .local := by first | exact .inl rfl | exact .inr rfl | assumption) : wpAny M A (storeName X.env x u) Q E s :=
  store_ok2 I hN hi hx r (fun s' I' _ => h s' I') hf
/-- behind a call or a block, the state as it is -/
theorem Inv.call' {s' : Shared} {ch : List Addr} (I : Inv X pins σ H s) (ho : s'.os = s.os) (u : Un (frs X.stack) ch H H' s.heap s'.heap) (hok : HOk X.prog X.w H' s'.heap) (hg : AllBare s'.gens)
    (hch : ∀ b ∈ ch, (b ∈ X.ex ∨ X.s₀.heap.objs.size ≤ b) ∧ b ≠ X.env.locals ∧ (∀ x c, X.env.cells.lookup x = some c → c ≠ b) ∧ ∀ p ∈ X.pn ++ pins, p.1 ≠ b) : Inv X pins σ H' s' := by
  obtain ⟨h', g', d', t', o'⟩ := s'
  have e : o' = s.os := ho
  subst e
  exact I.call (g' := g') (t' := t') (d' := d') u hok hg hch
end

/-! ### the judgements -/
/-- an exception: its class, its own dict's address (where it has one), the abstract heap behind it -/
abbrev XK := Value → Option Addr → Hp → Prop
abbrev St := List (Option V)
abbrev VK := V → Hp → Prop
/-- an expression's reading; a test's; an argument list's -/
abbrev TE := St → Hp → VK → Prop
abbrev TT := St → Hp → (Bool → Hp → Prop) → Prop
abbrev TA := St → Hp → (List V → Hp → Prop) → Prop
/-- what is wanted behind a statement -/
structure Ends where
  nx : St → Hp → Prop
  rt : VK
  bk : St → Hp → Prop := fun _ _ => False
  ct : St → Hp → Prop := fun _ _ => False
abbrev TS := Ends → St → Hp → Prop

def EP (X : Cx) (pins : List (Addr × Obj)) (σ : St) (Q : VK) (u : Value) (s' : Shared) : Prop := ∃ v H', Inv X pins σ H' s' ∧ RelV v u ∧ Q v H'
def TP (X : Cx) (pins : List (Addr × Obj)) (σ : St) (Q : Bool → Hp → Prop) (b : Bool) (s' : Shared) : Prop := ∃ H', Inv X pins σ H' s' ∧ Q b H'
def AP (X : Cx) (pins : List (Addr × Obj)) (σ : St) (Q : List V → Hp → Prop) (us : List Value) (s' : Shared) : Prop := ∃ vs H', Inv X pins σ H' s' ∧ Vals vs us ∧ Q vs H'
def SP (X : Cx) (pins : List (Addr × Obj)) (D : Ends) (f : Flow) (s' : Shared) : Prop :=
  match f with
  | .next => ∃ σ' H', Inv X pins σ' H' s' ∧ D.nx σ' H'
  | .brk => ∃ σ' H', Inv X pins σ' H' s' ∧ D.bk σ' H'
  | .cont => ∃ σ' H', Inv X pins σ' H' s' ∧ D.ct σ' H'
  | .ret u => ∃ v σ' H', Inv X pins σ' H' s' ∧ RelV v u ∧ D.rt v H'

def PE (X : Cx) (e : Expr) (t : TE) : Prop :=
  ∀ (pins : List (Addr × Obj)) (s : Shared) (σ : St) (H : Hp) (Q : VK), Inv X pins σ H s → t σ H Q → wpAny (model X.prog X.w) X.A (eval e X.env) (EP X pins σ Q) X.xe s
def PT (X : Cx) (e : Expr) (t : TT) : Prop :=
  ∀ (pins : List (Addr × Obj)) (s : Shared) (σ : St) (H : Hp) (Q : Bool → Hp → Prop), Inv X pins σ H s → t σ H Q → wpAny (model X.prog X.w) X.A (isTrue e X.env (eval e X.env)) (TP X pins σ Q) X.xe s
/-- a test whatever its 'whole' is (and, or) -/
def PW (X : Cx) (e : Expr) (t : TT) : Prop :=
  ∀ (whole : Sem Value) (pins : List (Addr × Obj)) (s : Shared) (σ : St) (H : Hp) (Q : Bool → Hp → Prop), Inv X pins σ H s → t σ H Q → wpAny (model X.prog X.w) X.A (isTrue e X.env whole) (TP X pins σ Q) X.xe s
theorem PW.pt {X : Cx} {e : Expr} {t : TT} (h : PW X e t) : PT X e t := h _
/-- an argument list (no star), from the left -/
def PA (X : Cx) (es : List Expr) (t : TA) : Prop :=
  ∀ (pos : Pos) (pins : List (Addr × Obj)) (s : Shared) (σ : St) (H : Hp) (Q : List V → Hp → Prop), Inv X pins σ H s → t σ H Q → wpAny (model X.prog X.w) X.A (spliced (backTo pos (starEach es X.env))) (AP X pins σ Q) X.xe s
def PS (X : Cx) (st : Stmt) (t : TS) : Prop :=
  ∀ (pins : List (Addr × Obj)) (s : Shared) (σ : St) (H : Hp) (D : Ends), Inv X pins σ H s → t D σ H → wpAny (model X.prog X.w) X.A (exec st X.env) (SP X pins D) X.xe s
def PSs (X : Cx) (st : List Stmt) (t : TS) : Prop :=
  ∀ (pins : List (Addr × Obj)) (s : Shared) (σ : St) (H : Hp) (D : Ends), Inv X pins σ H s → t D σ H → wpAny (model X.prog X.w) X.A (execs st X.env) (SP X pins D) X.xe s
/-- weaken the end -/
theorem thn {α : Type} {t : Sem α} {Q Q' : α → Shared → Prop} {M : Model} {A : Around} {E : Value → Shared → Prop} {s : Shared} (h : wpAny M A t Q E s) (hQ : ∀ a s, Q a s → Q' a s) : wpAny M A t Q' E s := wpAny_mono h hQ fun _ _ x => x
end L2

namespace L2
open PySem PySem.Spec PyProof.Rows
section
variable {X : Cx}

/-! ### names and constants -/
def tVar (i : Nat) : TE := fun σ H Q => ∃ v, σ[i]? = some (some v) ∧ Q v H
def tC (v : V) : TE := fun _ H Q => Q v H
theorem pe_var {i : Nat} {x : Str} {pos : Pos} (hN : X.N[i]? = some x) (hv : Vis X.env.scope x) (hd : (x == ("__debug__" : Str)) = false := by decide) (hcd : (x == ("__classdict__" : Str)) = false := by decide) : PE X (.Name x pos) (tVar i) := by
  intro pins s σ H Q I h
  obtain ⟨v, e, h⟩ := h
  obtain ⟨m, hn, hl⟩ := I.loc
  obtain ⟨u, r, l⟩ := hl i x v hN e hv
  have fin : EP X pins σ Q u s := ⟨v, H, I, r, h⟩
  rcases l with ⟨hk, hm⟩ | ⟨hk, c, hc, hcell⟩
  · exact wpAny_Name (wpAny_loadName_local I.ok.kind hk hn hm fin) hd
  · rcases hk with hk | hk
    · exact wpAny_Name (wpAny_loadName_cell I.ok.kind hk hc hcell fin) hd
    · exact wpAny_Name (wpAny_loadName_free I.ok.kind hk hc hcell fin hcd) hd
theorem pe_int {i j pos} : PE X (.Constant (.int i) j pos) (tC (.int i)) := fun _ _ _ H _ I h => wpAny_Constant_int ⟨.int i, H, I.tok _, ⟨_, rfl⟩, h⟩
theorem pe_bl {b j pos} : PE X (.Constant (.bool b) j pos) (tC (.bl b)) := fun _ _ _ H _ I h => Constant_bool ⟨.bl b, H, I, rfl, h⟩
/-- a global name of the def -/
def Gl (X : Cx) (x : Str) : Prop := X.env.kindOf x = some .globalImplicit
theorem ld_glob {E : Value → Shared → Prop} {pins : List (Addr × Obj)} {s : Shared} {σ : St} {H : Hp} {x : Str} {u : Value} {pos : Pos} {Q : Value → Shared → Prop} (I : Inv X pins σ H s) (hg : Gl X x) (hm : X.mg x = some u) (h : Q u s)
    (hd : (x == ("__debug__" : Str)) = false := by decide) : wpAny (model X.prog X.w) X.A (eval (.Name x pos) X.env) Q E s :=
  Calls.Name_function_global I.ok.kind hg (Calls.loadGlobal_global (by rw [I.ok.glob]; exact I.mod.glob.keeps I.bk) hm h) hd
theorem ld_blt {E : Value → Shared → Prop} {pins : List (Addr × Obj)} {s : Shared} {σ : St} {H : Hp} {x : Str} {u : Value} {pos : Pos} {Q : Value → Shared → Prop} (I : Inv X pins σ H s) (hg : Gl X x) (hm : X.mg x = none) (hv : bootBuiltins x = some u) (h : Q u s)
    (hn : x ≠ "__name__" := by decide) (hd : (x == ("__debug__" : Str)) = false := by decide) : wpAny (model X.prog X.w) X.A (eval (.Name x pos) X.env) Q E s := by
  obtain ⟨mb, h1, h2⟩ := I.mod.blt
  exact Calls.Name_function_global I.ok.kind hg (Calls.loadGlobal_builtin (by rw [I.ok.glob]; exact I.mod.glob.keeps I.bk) hm (by rw [I.ok.blt]; exact h1.keeps I.bk) ((h2 x hn).trans hv) h) hd
theorem pe_bltn {x : Str} {v : V} {u : Value} {pos : Pos} (hg : Gl X x) (hm : X.mg x = none) (hv : bootBuiltins x = some u) (r : RelV v u) (hn : x ≠ "__name__" := by decide) (hd : (x == ("__debug__" : Str)) = false := by decide) : PE X (.Name x pos) (tC v) :=
  fun _ _ _ H _ I h => ld_blt I hg hm hv ⟨v, H, I, r, h⟩ hn hd

/-! ### arithmetic -/
variable {a b : Expr} {ta tb : TE} {pos : Pos}
/-! ### comparisons -/
/-- a comparison as a value, as a test -/
def tB (t : TE) : TT := fun σ H Q => t σ H fun x H1 => ∃ c, x = .bl c ∧ Q c H1
/-- an expression whose value is a bool, as a test -/
theorem pt_val {e : Expr} {t : TE} (h : PE X e t) (he : ∀ whole, isTrue e X.env whole = (do let v ← whole; standAt e.pos; holding [v] (truthy v)) := by intro _; rfl) : PT X e (tB t) := by
  intro pins s σ H Q I hw
  refine isTrue_plain (thn (h pins s σ H _ I hw) fun v s1 ⟨x, H1, I1, r1, q1⟩ => ?_) (he _)
  obtain ⟨d, rfl, q⟩ := q1
  cases r1
  exact wpAny_truthy_bool ⟨H1, I1, q⟩

/-! ### and, or, not -/
variable {tA tB' : TT} {rest : List Expr}
def tAnd (t u : TT) : TT := fun σ H Q => t σ H fun c H1 => if c = true then u σ H1 Q else Q false H1
def tOr (t u : TT) : TT := fun σ H Q => t σ H fun c H1 => if c = true then Q true H1 else u σ H1 Q
def tNot (t : TT) : TT := fun σ H Q => t σ H fun c H1 => Q (!c) H1
theorem pw_and1 (ha : PT X a tA) : PW X (.BoolOp .And [a] pos) tA := by
  intro wh pins s σ H Q I h
  refine isTrue_and (thn (ha pins s σ H Q I h) fun c s1 e => ?_)
  cases c with
  | true => exact isTrue_and_nil e
  | false => exact e
theorem pw_or1 (ha : PT X a tA) : PW X (.BoolOp .Or [a] pos) tA := by
  intro wh pins s σ H Q I h
  refine isTrue_or (thn (ha pins s σ H Q I h) fun c s1 e => ?_)
  cases c with
  | false => exact isTrue_or_nil e
  | true => exact e
theorem pw_and (ha : PT X a tA) (hb : PW X (.BoolOp .And (b :: rest) pos) tB') : PW X (.BoolOp .And (a :: b :: rest) pos) (tAnd tA tB') := by
  intro wh pins s σ H Q I h
  refine isTrue_and (thn (ha pins s σ H _ I h) fun c s1 ⟨H1, I1, q1⟩ => ?_)
  cases c with
  | true => exact hb wh pins s1 σ H1 Q I1 q1
  | false => exact ⟨H1, I1, q1⟩
theorem pw_or (ha : PT X a tA) (hb : PW X (.BoolOp .Or (b :: rest) pos) tB') : PW X (.BoolOp .Or (a :: b :: rest) pos) (tOr tA tB') := by
  intro wh pins s σ H Q I h
  refine isTrue_or (thn (ha pins s σ H _ I h) fun c s1 ⟨H1, I1, q1⟩ => ?_)
  cases c with
  | true => exact ⟨H1, I1, q1⟩
  | false => exact hb wh pins s1 σ H1 Q I1 q1
theorem pt_not (ha : PT X a tA) : PT X (.UnaryOp .Not a pos) (tNot tA) := by
  intro pins s σ H Q I h
  exact isTrue_not (ha pins s σ H (fun c H1 => Q (!c) H1) I h)
/-- .. as values (bools) -/
def tAndV (ta tb : TE) : TE := fun σ H Q => ta σ H fun x H1 => ∃ c, x = .bl c ∧ if c = true then tb σ H1 Q else Q (.bl false) H1
def tNotV (ta : TE) : TE := fun σ H Q => ta σ H fun x H1 => ∃ c, x = .bl c ∧ Q (.bl (!c)) H1
theorem pe_one {op} {t : TE} (h : PE X a t) : PE X (.BoolOp op [a] pos) t := fun pins s σ H Q I hw => BoolOp_one (h pins s σ H Q I hw)
theorem pe_and (ha : PE X a ta) (hb : PE X (.BoolOp .And (b :: rest) pos) tb) : PE X (.BoolOp .And (a :: b :: rest) pos) (tAndV ta tb) := by
  intro pins s σ H Q I h
  refine BoolOp_and (thn (ha pins s σ H _ I h) fun v s1 ⟨x, H1, I1, r1, q1⟩ => ?_)
  obtain ⟨c, rfl, q1⟩ := q1
  cases r1
  refine wpAny_truthy_bool ?_
  cases c with
  | true => exact hb pins s1 σ H1 Q I1 q1
  | false => exact ⟨.bl false, H1, I1, rfl, q1⟩
theorem pe_not (ha : PE X a ta) : PE X (.UnaryOp .Not a pos) (tNotV ta) := by
  intro pins s σ H Q I h
  refine UnaryOp_ (thn (ha pins s σ H _ I h) fun v s1 ⟨x, H1, I1, r1, q1⟩ => ?_)
  obtain ⟨c, rfl, q1⟩ := q1
  cases r1
  exact not_of (wpAny_truthy_bool ⟨.bl (!c), H1, I1, rfl, q1⟩)
end
end L2

namespace L2
open PySem PySem.Spec PyProof.Rows

/-! ### a list, a tuple that is read: tracked, frozen, or an object of the module -/
def SqL (K : PySem.W.Frag) (H : Hp) (a : Addr) (xs : List V) : Prop :=
  Rd H a (.lst xs) ∨
    ∃ (o : Obj) (its : Array Value) (n : Nat), K.lookup a = some o ∧ o.cls = .type "list" ∧ o.dict = none ∧ o.data = .seq its n ∧ its.size ≤ sizeLine ∧ Vals xs its.toList
def SqT (K : PySem.W.Frag) (H : Hp) (a : Addr) (xs : List V) : Prop :=
  Rd H a (.tup xs) ∨
    ∃ (o : Obj) (its : Array Value) (n : Nat), K.lookup a = some o ∧ o.cls = .type "tuple" ∧ o.data = .seq its n ∧ its.size ≤ sizeLine ∧ Vals xs its.toList
def absV : Value → Option V
  | .none => some .non
  | .bool b => some (.bl b)
  | .int i _ => some (.int i)
  | .str x _ => some (.str x)
  | .bytes b _ => some (.byt b)
  | .float b _ => some (.flt b)
  | .ref a => some (.ref a)
  | .type n => some (.ty n)
  | _ => none
theorem RelV.abs {x : V} {u : Value} (r : RelV x u) : absV u = some x := by
  cases x with
  | non => cases r; rfl
  | bl _ => cases r; rfl
  | int _ => obtain ⟨t, rfl⟩ := r; rfl
  | str _ => obtain ⟨t, rfl⟩ := r; rfl
  | byt _ => obtain ⟨t, rfl⟩ := r; rfl
  | flt _ => obtain ⟨t, rfl⟩ := r; rfl
  | ref _ => cases r; rfl
  | ty _ => cases r; rfl
theorem RelV.inj {x y : V} {u : Value} (r : RelV x u) (q : RelV y u) : x = y := Option.some.inj (r.abs.symm.trans q.abs)
theorem Vals.inj : ∀ {xs ys : List V} {us : List Value}, Vals xs us → Vals ys us → xs = ys
  | _, _, _, .nil, .nil => rfl
  | _, _, _, .cons r t, .cons r' t' => by rw [r.inj r', Vals.inj t t']
section
variable {X : Cx} {pins : List (Addr × Obj)} {σ : St} {H : Hp} {s : Shared} {a : Addr} {xs ys : List V}
theorem SqL.of {K : PySem.W.Frag} (h : H a = some (.lst xs)) : SqL K H a xs := .inl (.inl h)
theorem SqT.of {K : PySem.W.Frag} (h : H a = some (.tup xs)) : SqT K H a xs := .inl (.inl h)
theorem Inv.list (I : Inv X pins σ H s) (h : SqL X.K H a xs) : ∃ its : List Value, Vals xs its ∧ PlainL s.heap a its.toArray ∧ xs.length ≤ sizeLine := by
  rcases h with h | ⟨o, its, n, hk, hc, hd, hs, hz, r⟩
  · obtain ⟨z, its, n, r, e⟩ := h.ok I.hok
    exact ⟨its, r, ⟨_, n, e, rfl, rfl, rfl⟩, z⟩
  · refine ⟨its.toList, r, ⟨o, n, I.kIn a o hk, hc, hd, by simpa using hs⟩, ?_⟩
    have e := r.length
    simp only [Array.length_toList] at e
    omega
theorem Inv.tuple (I : Inv X pins σ H s) (h : SqT X.K H a xs) : ∃ its : List Value, Vals xs its ∧ IsTup s.heap a its.toArray ∧ xs.length ≤ sizeLine := by
  rcases h with h | ⟨o, its, n, hk, hc, hs, hz, r⟩
  · obtain ⟨z, its, r, p⟩ := h.ok I.hok
    exact ⟨its, r, p, z⟩
  · refine ⟨its.toList, r, ⟨o, I.kIn a o hk, hc, n, by simpa using hs⟩, ?_⟩
    have e := r.length
    simp only [Array.length_toList] at e
    omega
theorem Inv.list_inj (I : Inv X pins σ H s) (h : SqL X.K H a xs) (h' : SqL X.K H a ys) : xs = ys := by
  obtain ⟨its, r, ⟨o, n, e, _, _, d⟩, _⟩ := I.list h
  obtain ⟨its', r', ⟨o', n', e', _, _, d'⟩, _⟩ := I.list h'
  rw [e] at e'; cases e'
  rw [d] at d'
  injection d' with d1 _
  have : its = its' := by simpa using congrArg Array.toList d1
  subst this
  exact r.inj r'
end

/-! ### another wish about exceptions -/
abbrev Cx.wish (X : Cx) (E : Value → Shared → Prop) : Cx := { X with xe := E }
/-- no exception leaves -/
abbrev Cx.nox (X : Cx) : Cx := X.wish fun _ _ => False
theorem Cx.Ok.wish {X : Cx} (ok : X.Ok) (E : Value → Shared → Prop) : (X.wish E).Ok :=
  ⟨ok.mod, ok.kind, ok.glob, ok.blt, ok.above, ok.inj, ok.has, ok.cab, ok.hd, ok.frames, ok.stk, ok.exf, ok.bs, ok.bsz, ok.noex, ok.exfs, ok.funs, ok.frf⟩
theorem Cx.Ok.unwish {X : Cx} {E : Value → Shared → Prop} (ok : (X.wish E).Ok) : X.Ok :=
  ⟨ok.mod, ok.kind, ok.glob, ok.blt, ok.above, ok.inj, ok.has, ok.cab, ok.hd, ok.frames, ok.stk, ok.exf, ok.bs, ok.bsz, ok.noex, ok.exfs, ok.funs, ok.frf⟩
section
variable {X : Cx} {pins : List (Addr × Obj)} {σ : St} {H : Hp} {s : Shared} {E : Value → Shared → Prop}
theorem Inv.wish (I : Inv X pins σ H s) (E : Value → Shared → Prop) : Inv (X.wish E) pins σ H s := ⟨I.ok.wish E, I.os, I.bare, I.base, I.loc, I.cell, I.free, I.freeC, I.pin, I.hok, I.len⟩
theorem Inv.unwish (I : Inv (X.wish E) pins σ H s) : Inv X pins σ H s := ⟨I.ok.unwish, I.os, I.bare, I.base, I.loc, I.cell, I.free, I.freeC, I.pin, I.hok, I.len⟩
theorem SP.unwish {D : Ends} {f : Flow} {s' : Shared} (h : SP (X.wish E) pins D f s') : SP X pins D f s' := by
  cases f with
  | next => obtain ⟨σ', H', I, q⟩ := h; exact ⟨σ', H', I.unwish, q⟩
  | brk => obtain ⟨σ', H', I, q⟩ := h; exact ⟨σ', H', I.unwish, q⟩
  | cont => obtain ⟨σ', H', I, q⟩ := h; exact ⟨σ', H', I.unwish, q⟩
  | ret u => obtain ⟨v, σ', H', I, r, q⟩ := h; exact ⟨v, σ', H', I.unwish, r, q⟩
theorem PE.nox {e : Expr} {t : TE} (h : PE X.nox e t) : PE X e t := fun pins s σ H Q I hw =>
  wpAny_mono (h pins s σ H Q (I.wish _) hw) (fun _ _ ⟨v, H', I', r, q⟩ => ⟨v, H', I'.unwish, r, q⟩) fun _ _ z => False.elim z
theorem PT.nox {e : Expr} {t : TT} (h : PT X.nox e t) : PT X e t := fun pins s σ H Q I hw =>
  wpAny_mono (h pins s σ H Q (I.wish _) hw) (fun _ _ ⟨H', I', q⟩ => ⟨H', I'.unwish, q⟩) fun _ _ z => False.elim z
theorem PSs.nox {st : List Stmt} {t : TS} (h : PSs X.nox st t) : PSs X st t := fun pins s σ H D I hw =>
  wpAny_mono (h pins s σ H D (I.wish _) hw) (fun _ _ q => q.unwish) fun _ _ z => False.elim z
end

/-! ### blocks and small statements -/
section
variable {X : Cx} {st : Stmt} {rest : List Stmt} {t u : TS} {e : Expr} {te : TE} {pos : Pos}
def tNext : TS := fun D σ H => D.nx σ H
def tSeq (t u : TS) : TS := fun D σ H => t { D with nx := u D } σ H
theorem pss_nil : PSs X [] tNext := fun _ _ σ H _ I h => wpAny_execs_nil ⟨σ, H, I, h⟩
theorem pss_cons (h1 : PS X st t) (h2 : PSs X rest u) : PSs X (st :: rest) (tSeq t u) := by
  intro pins s σ H D I h
  refine wpAny_execs_cons (thn (h1 pins s σ H { D with nx := u D } I h) fun f s1 q => ?_)
  cases f with
  | next =>
    obtain ⟨σ', H', I', q⟩ := q
    exact h2 pins s1 σ' H' D I' q
  | ret v => exact q
  | brk => exact q
  | cont => exact q
theorem pss_one (h1 : PS X st t) : PSs X [st] t := by
  intro pins s σ H D I h
  refine wpAny_execs_cons (thn (h1 pins s σ H D I h) fun f s1 q => ?_)
  cases f with
  | next => exact wpAny_execs_nil q
  | ret v => exact q
  | brk => exact q
  | cont => exact q
/-- in a def's body nothing is shown -/
theorem Inv.quiet {pins : List (Addr × Obj)} {σ : St} {H : Hp} {s : Shared} (I : Inv X pins σ H s) : interactive X.env = false := by simp [interactive, I.ok.kind]
/-- an expression whose value is dropped -/
def tDrop (te : TE) : TS := fun D σ H => te σ H fun _ H1 => D.nx σ H1
theorem ps_expr (he : PE X e te) (hs : swapsWith e none pos.line X.env = pure false := by rfl) : PS X (.Expr e pos) (tDrop te) := by
  intro pins s σ H D I h
  exact wpAny_Expr_any (thn (he pins s σ H _ I h) fun v s1 ⟨x, H1, I1, r1, q1⟩ => ⟨σ, H1, I1, q1⟩) I.quiet hs
def tRet (te : TE) : TS := fun D σ H => te σ H D.rt
theorem ps_ret (he : PE X e te) : PS X (.Return (some e) pos) (tRet te) := by
  intro pins s σ H D I h
  exact wpAny_Return_some (thn (he pins s σ H _ I h) fun v s1 ⟨x, H1, I1, r1, q1⟩ => ⟨x, σ, H1, I1, r1, q1⟩)
def tIfS (c : TT) (t u : TS) : TS := fun D σ H => c σ H fun b H1 => if b = true then t D σ H1 else u D σ H1
theorem ps_if {c : Expr} {a b : List Stmt} {tc : TT} (hc : PT X c tc) (ha : PSs X a t) (hb : PSs X b u) : PS X (.If c a b pos) (tIfS tc t u) := by
  intro pins s σ H D I h
  refine wpAny_If (thn (hc pins s σ H _ I h) fun d s1 ⟨H1, I1, q1⟩ => ?_)
  cases d with
  | true => exact ha pins s1 σ H1 D I1 q1
  | false => exact hb pins s1 σ H1 D I1 q1
/-- code that the proof never comes to -/
def tNever : TS := fun _ _ _ => False
theorem ps_never : PS X st tNever := fun _ _ _ _ _ _ h => h.elim
end

/-! ### targets -/
abbrev TG := V → St → Hp → (St → Hp → Prop) → Prop
abbrev TGs := List V → St → Hp → (St → Hp → Prop) → Prop
def PG (X : Cx) (target : Expr) (t : TG) : Prop :=
  ∀ (pins : List (Addr × Obj)) (s : Shared) (σ : St) (H : Hp) (v : V) (u : Value) (Q : St → Hp → Prop), Inv X pins σ H s → RelV v u → t v σ H Q →
    wpAny (model X.prog X.w) X.A (assign target X.env u) (fun _ s' => ∃ σ' H', Inv X pins σ' H' s' ∧ Q σ' H') X.xe s
/-- several targets, one after another -/
def PGs (X : Cx) (ts : List Expr) (t : TGs) : Prop :=
  ∀ (pins : List (Addr × Obj)) (s : Shared) (σ : St) (H : Hp) (vs : List V) (us : List Value) (Q : St → Hp → Prop), Inv X pins σ H s → Vals vs us → t vs σ H Q →
    wpAny (model X.prog X.w) X.A (assignInOrder ((assignEach ts X.env).map (·.2)) us) (fun _ s' => ∃ σ' H', Inv X pins σ' H' s' ∧ Q σ' H') X.xe s
section
variable {X : Cx} {pos : Pos}
def gName (i : Nat) : TG := fun v σ H Q => Q (σ.set i (some v)) H
theorem pg_name {i : Nat} {x : Str} (hN : X.N.Nodup) (hi : X.N[i]? = some x) (hx : Loc X.env.scope x) (hf : X.fn x = true ∨ X.env.scope.names.lookup x = some .local := by first | exact .inl rfl | exact .inr rfl | assumption) : PG X (.Name x pos) (gName i) := by
  intro pins s σ H v u Q I r h
  exact wpAny_assign_Name (store_ok I hN hi hx r (fun s' I' => ⟨_, H, I', h⟩) hf)
def gNil : TGs := fun vs σ H Q => vs = [] ∧ Q σ H
def gCons (t : TG) (u : TGs) : TGs := fun vs σ H Q => ∃ v r, vs = v :: r ∧ t v σ H fun σ' H' => u r σ' H' Q
theorem pgs_nil : PGs X [] gNil := by
  intro pins s σ H vs us Q I r h
  obtain ⟨e, h⟩ := h
  subst e
  cases r
  exact assignInOrder_nil ⟨σ, H, I, h⟩
theorem pgs_cons {e : Expr} {es : List Expr} {t : TG} {u : TGs} (h1 : PG X e t) (h2 : PGs X es u)
    (hs : (assignEach (e :: es) X.env).map (·.2) = assign e X.env :: (assignEach es X.env).map (·.2) := by rfl) : PGs X (e :: es) (gCons t u) := by
  intro pins s σ H vs us Q I r h
  obtain ⟨v, vr, e1, h⟩ := h
  subst e1
  cases r with
  | cons r rr =>
    rw [hs]
    refine assignInOrder_cons (thn (h1 pins s σ H _ _ _ I r h) fun _ s1 ⟨σ1, H1, I1, q1⟩ => ?_)
    exact h2 pins s1 σ1 H1 _ _ Q I1 rr q1
/-- (a, b, ..) = a tuple of that length -/
def gTup (K : PySem.W.Frag) (n : Nat) (t : TGs) : TG := fun v σ H Q => ∃ a xs, v = .ref a ∧ SqT K H a xs ∧ xs.length = n ∧ t xs σ H Q
theorem pg_tup {es : List Expr} {k : Nat} {t : TGs} {n : Nat} (hc : X.calm = true) (h : PGs X es t)
    (hn : (assignEach es X.env).length = n := by rfl) (hst : (assignEach es X.env).findIdx? (·.1) = none := by rfl) : PG X (.Tuple es k pos) (gTup X.K n t) := by
  intro pins s σ H v u Q I r hw
  obtain ⟨a, xs, e1, hq, hl, hw⟩ := hw
  subst e1
  cases r
  obtain ⟨its, rv, ht, hz⟩ := I.tuple hq
  refine assign_Tuple_tuple (I.ok.hd hc) ht (by simp [hn, ← hl, rv.length]) hst fun h' hx => ?_
  have I1 : Inv X pins σ H { s with heap := h' } := I.kept (t' := s.toks) fun b o e => hx b o (Nat.ne_of_lt (Heap.lt_size e)) e
  exact h pins _ σ H xs _ Q I1 (by simpa using rv) hw
/-- target = value -/
def tAsg (te : TE) (g : TG) : TS := fun D σ H => te σ H fun x H1 => g x σ H1 D.nx
theorem ps_asg {tg e : Expr} {te : TE} {g : TG} (he : PE X e te) (hg : PG X tg g) (hs : swapsWithSole [tg] e pos.line X.env = pure false := by rfl) (hw : swappedStores [tg] e X.env = pure none := by rfl)
    (h1 : (assignEach [tg] X.env).map (·.2) = [assign tg X.env] := by rfl) : PS X (.Assign [tg] e pos) (tAsg te g) := by
  intro pins s σ H D I h
  refine wpAny_Assign_stores (thn (he pins s σ H _ I h) fun v s1 ⟨x, H1, I1, r1, q1⟩ => ?_) hs hw
  rw [h1]
  exact thn (hg pins s1 σ H1 x v _ I1 r1 q1) fun _ s2 q => q
/-- name = value -/
theorem ps_set {i : Nat} {x : Str} {e : Expr} {te : TE} {pos' : Pos} (hN : X.N.Nodup) (hi : X.N[i]? = some x) (hx : Loc X.env.scope x) (he : PE X e te) (hs : swapsWith e (some (.Name x pos')) pos.line X.env = pure false := by rfl) (hf : X.fn x = true ∨ X.env.scope.names.lookup x = some .local := by first | exact .inl rfl | exact .inr rfl | assumption) :
    PS X (.Assign [.Name x pos'] e pos) (tAsg te (gName i)) := by
  intro pins s σ H D I h
  refine wpAny_Assign_Name (thn (he pins s σ H _ I h) fun v s1 ⟨y, H1, I1, r1, q1⟩ => ?_) hs
  exact store_ok I1 hN hi hx r1 (fun s2 I2 => ⟨_, H1, I2, q1⟩) hf
/-- a, b = x, y with plain local names: stored from the right; the pair itself is not tracked (the opening rows as in PyProof/Rows/TupAssign.lean:23) -/
def tPar (i j : Nat) (ta : TA) : TS := fun D σ H => ta σ H fun vs H1 => ∃ v w, vs = [v, w] ∧ D.nx ((σ.set i (some v)).set j (some w)) H1
theorem ps_par {i j : Nat} {x y : Str} {a b : Expr} {ta : TA} {px py pt : Pos} {kt k2 pt2} (hc : X.calm = true) (hN : X.N.Nodup) (hi : X.N[i]? = some x) (hj : X.N[j]? = some y) (hij : i ≠ j)
    (hx : X.env.scope.names.lookup x = some .local) (hy : X.env.scope.names.lookup y = some .local) (ha : PA X [a, b] ta)
    (hw : swappedStores [.Tuple [.Name x px, .Name y py] kt pt] (.Tuple [a, b] k2 pt2) X.env = pure (some [x, y]))
    (hs : swapsWithSole [.Tuple [.Name x px, .Name y py] kt pt] (.Tuple [a, b] k2 pt2) pos.line X.env = pure false := by rfl) :
    PS X (.Assign [.Tuple [.Name x px, .Name y py] kt pt] (.Tuple [a, b] k2 pt2) pos) (tPar i j ta) := by
  intro pins s σ H D I h
  rw [exec_Assign_arm]
  refine wpAny_bind (wpAny_standAt ?_)
  rw [hs]
  refine wpAny_bind (wpAny_pure ?_)
  rw [if_neg (by decide)]
  refine wpAny_bind (Tuple_ (thn (ha _ pins s σ H _ I h) fun us s1 ⟨vs, H1, I1, r1, q1⟩ => ?_))
  obtain ⟨v, w, e1, q1⟩ := q1
  subst e1
  obtain ⟨u1, u2, rfl, rv, rw'⟩ : ∃ u1 u2, us = [u1, u2] ∧ RelV v u1 ∧ RelV w u2 := by
    cases r1 with
    | cons p q =>
      cases q with
      | cons p' q' =>
        cases q'
        exact ⟨_, _, rfl, p, p'⟩
  refine wpAny_newObj_type ?_ (by show 2 ≤ sizeLine; decide)
  have I2 : Inv X pins σ H1 { s1 with heap := s1.heap.push { cls := .type "tuple", data := .seq [u1, u2].toArray } } := I1.kept (t' := s1.toks) fun b o e => Heap.get?_push_of_some _ e
  rw [hw]
  refine wpAny_bind (wpAny_pure ?_)
  show wpAny (model X.prog X.w) X.A (do rule "assign.swapped-stores"; let items ← unpackItems (.ref s1.heap.objs.size) 2 none; assignInOrder [fun v => bindName X.env y v, fun v => bindName X.env x v] items.reverse; pure Flow.next) _ _ _
  refine wpAny_bind (wpAny_rule (wpAny_bind (unpackItems_tuple (items := #[u1, u2]) (I.ok.hd hc) (IsTup.new s1.heap _) fun h' hx' => ?_)))
  have I3 := I2.kept (h' := h') (t' := s1.toks) fun b o e => hx' b o (Nat.ne_of_lt (Heap.lt_size e)) e
  show wpAny _ _ (assignInOrder [fun v => bindName X.env y v, fun v => bindName X.env x v] [u2, u1] >>= fun _ => pure Flow.next) _ _ _
  refine wpAny_bind (assignInOrder_cons (wpAny_bindName (store_ok I3 hN hj (.inl hy) rw' (fun s2 I4 => ?_) (.inr hy))))
  refine assignInOrder_cons (wpAny_bindName (store_ok I4 hN hi (.inl hx) rv (fun s3 I5 => assignInOrder_nil (wpAny_pure ?_)) (.inr hx)))
  rw [List.set_comm _ _ (Ne.symm hij)] at I5
  exact ⟨_, H1, I5, q1⟩
end

/-! ### while -/
section
variable {X : Cx} {pos : Pos}
/-- the invariant W with its measure -/
def tWhile (c : TT) (tb : TS) : TS := fun D σ H => ∃ W : Nat → St → Hp → Prop, (∃ m, W m σ H) ∧ ∀ m σ H, W m σ H →
  c σ H fun b H1 => if b = true then ∃ N : St → Hp → Prop, (∀ σ' H', N σ' H' → ∃ m', m' < m ∧ W m' σ' H') ∧ tb { D with nx := N, ct := N, bk := D.nx } σ H1 else D.nx σ H1
theorem ps_while {c : Expr} {body : List Stmt} {tc : TT} {tb : TS} (hp : PassesOwn (model X.prog X.w) X.A X.env X.xe) (hc : PT X c tc) (hb : PSs X body tb) : PS X (.While c body [] pos) (tWhile tc tb) := by
  intro pins s σ H D I h
  obtain ⟨W, ⟨m0, w0⟩, turn⟩ := h
  refine wpAny_While (codeAny_whileLoop (fun n s' => ∃ σ' H', Inv X pins σ' H' s' ∧ W n σ' H') ?_ m0 ⟨σ, H, I, w0⟩)
  rintro n s1 ⟨σ1, H1, I1, w1⟩
  refine wpAny_passesOwn hp (thn (hc pins s1 σ1 H1 _ I1 (turn n σ1 H1 w1)) fun b s2 ⟨H2, I2, q2⟩ => ?_)
  cases b with
  | true =>
    obtain ⟨N, hN, q2⟩ := q2
    rw [if_pos rfl]
    refine wpAny_passesOwn hp (thn (hb pins s2 σ1 H2 _ I2 q2) fun f s3 q3 => ?_)
    cases f with
    | next =>
      obtain ⟨σ3, H3, I3, n3⟩ := q3
      obtain ⟨m', hm, w3⟩ := hN σ3 H3 n3
      exact ⟨m', hm, σ3, H3, I3, w3⟩
    | cont =>
      obtain ⟨σ3, H3, I3, n3⟩ := q3
      obtain ⟨m', hm, w3⟩ := hN σ3 H3 n3
      exact ⟨m', hm, σ3, H3, I3, w3⟩
    | brk => exact q3
    | ret v => exact q3
  | false =>
    rw [if_neg Bool.false_ne_true]
    exact wpAny_execs_nil ⟨σ1, H2, I2, q2⟩
end

/-! ### what a loop or a comprehension walks -/
/-- at turn i: it yields x (the heap may grow), or it stops -/
structure It where
  go : Nat → Hp → Prop
  yld : Nat → Hp → V → Hp → Prop
  stop : Nat → Hp → Prop
/-- the iterator's own objects may turn: they are not the frame's, not pinned, younger than the entry (or a comprehension's own) -/
def FpOk (X : Cx) (pins : List (Addr × Obj)) (H : Hp) (b : Addr) : Prop :=
  H b = none ∧ b ≠ X.env.locals ∧ b ∉ X.fs ∧ (b ∈ X.ex ∨ X.s₀.heap.objs.size ≤ b) ∧ (∀ x c, X.env.cells.lookup x = some c → c ≠ b) ∧ ∀ p ∈ X.pn ++ pins, p.1 ≠ b
theorem Inv.fpOk {X : Cx} {pins : List (Addr × Obj)} {σ : St} {H H' : Hp} {s : Shared} {b : Addr} (I : Inv X pins σ H s) (hb : s.heap.objs.size ≤ b) (hn : H' b = none) : FpOk X pins H' b := by
  refine ⟨hn, Nat.ne_of_gt (Nat.lt_of_lt_of_le I.lt hb), I.nofs hb, .inr (Nat.le_trans I.sz hb), fun x c e z => ?_, fun p hp z => ?_⟩
  · obtain ⟨v, q⟩ := I.cell x c e
    exact absurd (Nat.lt_of_lt_of_le q.lt (by rw [z]; exact hb)) (Nat.lt_irrefl _)
  · exact absurd (Nat.lt_of_lt_of_le (Heap.lt_size (I.pin p hp).1) (by rw [z]; exact hb)) (Nat.lt_irrefl _)
structure Turn (P : Program) (w : World) (K : PySem.W.Frag) (tg : Expr) (J : It) (fp : List Addr) (it : Addr) (tn : Nat → Heap → Prop) : Prop where
  mem : it ∈ fp
  obj : ∀ i h, tn i h → ∀ b ∈ fp, ∃ o, h.get? b = some o ∧ ∀ v, o.data ≠ .cell v
  keep : ∀ i h h', tn i h → (∀ b ∈ fp, ∀ o, h.get? b = some o → h'.get? b = some o) → tn i h'
  item : ∀ (X : Cx), X.prog = P → X.w = w → X.K = K → X.calm = true → ∀ (i : Nat) (pins : List (Addr × Obj)) (s : Shared) (σ : St) (H : Hp) (E : Value → Shared → Prop), Inv X pins σ H s → (∀ b ∈ fp, FpOk X pins H b) → tn i s.heap → J.go i H →
    wpAny (model P w) X.A (pyNext (.ref it)) (fun r s1 => ∃ u, r = some u ∧
      wpAny (model P w) X.A (letOwnedTupleGo tg (.ref it) u) (fun _ s2 => ∃ x H', Inv X pins σ H' s2 ∧ RelV x u ∧ J.yld i H x H' ∧ tn (i + 1) s2.heap ∧ ∀ b ∈ fp, H' b = none) E s1) E s
  done : ∀ (X : Cx), X.prog = P → X.w = w → X.K = K → X.calm = true → ∀ (i : Nat) (pins : List (Addr × Obj)) (s : Shared) (σ : St) (H : Hp) (E : Value → Shared → Prop), Inv X pins σ H s → (∀ b ∈ fp, FpOk X pins H b) → tn i s.heap → J.stop i H →
    wpAny (model P w) X.A (pyNext (.ref it)) (fun r s1 => r = none ∧ Inv X pins σ H s1) E s
  self : ∀ (A : Around) (i : Nat) (s : Shared) (Q : Value → Shared → Prop) (E : Value → Shared → Prop), tn i s.heap → Q (.ref it) s → wpAny (model P w) A (pyIter (.ref it)) Q E s
abbrev TI := St → Hp → (It → Hp → Prop) → Prop
/-- an iterator has come -/
def PIE (X : Cx) (pins : List (Addr × Obj)) (σ : St) (tg : Expr) (R : It → Hp → Prop) (itv : Value) (s2 : Shared) : Prop :=
  ∃ (it : Addr) (fp : List Addr) (tn : Nat → Heap → Prop) (J : It) (H' : Hp), itv = .ref it ∧ Inv X pins σ H' s2 ∧ Turn X.prog X.w X.K tg J fp it tn ∧ tn 0 s2.heap ∧ (∀ b ∈ fp, FpOk X pins H' b) ∧ R J H'
def PI (X : Cx) (tg iter : Expr) (wi : TI) : Prop :=
  ∀ (pins : List (Addr × Obj)) (s : Shared) (σ : St) (H : Hp) (R : It → Hp → Prop), Inv X pins σ H s → wi σ H R →
    wpAny (model X.prog X.w) X.A (eval iter X.env) (fun v s1 => wpAny (model X.prog X.w) X.A (pyIter v) (PIE X pins σ tg R) X.xe s1) X.xe s

/-- the step ahead of the store is nothing for an iterator that keeps no tuple -/
theorem go_of {M : Model} {A : Around} {E : Value → Shared → Prop} {s : Shared} {tg : Expr} {it : Addr} {u : Value} {o : Obj} {n : String} {vs : Array Value} {Q : Unit → Shared → Prop} (ho : s.heap.get? it = some o) (hc : o.cls = .type n) (hd : o.data = .fields vs)
    (hn : ["enumerate", "zip", "dict_itemiterator", "dict_reverseitemiterator", "odict_iterator", "itertools.zip_longest", "itertools.pairwise"].contains n = false) (hQ : Q () s) : wpAny M A (letOwnedTupleGo tg (.ref it) u) Q E s := by
  unfold letOwnedTupleGo
  cases tg <;> first
    | exact wpAny_pure hQ
    | (cases u <;> first
        | exact wpAny_pure hQ
        | (refine wpAny_bind (wpAny_load ho ?_)
           rw [hc, hd]
           show wpAny M A (if (["enumerate", "zip", "dict_itemiterator", "dict_reverseitemiterator", "odict_iterator", "itertools.zip_longest", "itertools.pairwise"].contains n && vs[0]? == some (rawInt _)) = true then _ else _) Q E s
           rw [if_neg (by intro h; rw [hn, Bool.false_and] at h; cases h)]
           exact wpAny_pure hQ))

/-- the list at a, as it stands at each turn (a loop may append to it) -/
def Itl (K : PySem.W.Frag) (a : Addr) : It :=
  ⟨fun i H => ∃ xs x, SqL K H a xs ∧ xs[i]? = some x, fun i H x H' => H' = H ∧ ∀ xs, SqL K H a xs → xs[i]? = some x, fun i H => ∃ xs, SqL K H a xs ∧ xs.length ≤ i⟩
/-- lo, lo + 1, .. (n of them) -/
def Itr (lo : Int) (n : Nat) : It := ⟨fun i _ => i < n, fun i H x H' => H' = H ∧ x = .int (lo + i), fun i _ => n ≤ i⟩
theorem turn_list {P : Program} {w : World} {K : PySem.W.Frag} {tg : Expr} (a it : Addr) : Turn P w K tg (Itl K a) [it] it (fun i h => h.IsListIter it a i) where
  mem := by simp
  obj := fun i h st b hb => by
    have e : b = it := by simpa using hb
    subst e
    obtain ⟨o, e, c, d⟩ := st
    exact ⟨o, e, fun v z => by rw [d] at z; cases z⟩
  keep := fun i h h' st k => st.at fun o e => k it (by simp) o e
  item := by
    intro X hP hw hK hc i pins s σ H E I hf st hg
    subst hP hw hK
    obtain ⟨xs, x, hq, hx⟩ := hg
    obtain ⟨its, rv, p, hz⟩ := I.list hq
    obtain ⟨u, hu, ru⟩ := rv.get hx
    obtain ⟨f0, f1, f2, f3, f4, f5⟩ := hf it (by simp)
    refine wpAny_pyNext_list_item st p.isList (x := u) (by simpa using hu) fun h' st' sb => ?_
    have I1 : Inv X pins σ H { s with heap := h' } := I.turned (t' := s.toks) (fun b o hb e => (sb.2 b hb).trans e) f0 f1 f3 f4 f5
    obtain ⟨o, e, c, d⟩ := id st'
    exact ⟨u, rfl, go_of (s := { s with heap := h' }) e c d (by decide) ⟨x, H, I1, ru, ⟨rfl, fun ys hy => by rw [I.list_inj hy hq]; exact hx⟩, st', fun b hb => (hf b hb).1⟩⟩
  done := by
    intro X hP hw hK hc i pins s σ H E I hf st hg
    subst hP hw hK
    obtain ⟨xs, hq, hx⟩ := hg
    obtain ⟨its, rv, p, hz⟩ := I.list hq
    obtain ⟨f0, f1, f2, f3, f4, f5⟩ := hf it (by simp)
    have hl := rv.length
    exact wpAny_pyNext_list_end (I.ok.hd hc) st p.isList (by simp; omega) fun h' eb => ⟨rfl, I.turned (t' := s.toks) (fun b o hb e => eb b o hb e) f0 f1 f3 f4 f5⟩
  self := fun _ _ _ _ _ st h => wpAny_pyIter_listiter st h
theorem turn_range {P : Program} {w : World} {K : PySem.W.Frag} {tg : Expr} (it : Addr) (lo : Int) (n : Nat) : Turn P w K tg (Itr lo n) [it] it (fun i h => IsRangeIter h it (lo + (i : Nat) * 1) ((n : Int) - (i : Nat)) 1) where
  mem := by simp
  obj := fun i h st b hb => by
    have e : b = it := by simpa using hb
    subst e
    exact ⟨_, st, fun v z => by
      have z' : Data.fields _ = Data.cell v := z
      cases z'⟩
  keep := fun i h h' st k => k it (by simp) _ st
  item := by
    intro X hP hw hK hc i pins s σ H E I hf st hg
    subst hP hw hK
    obtain ⟨f0, f1, f2, f3, f4, f5⟩ := hf it (by simp)
    have W := Walks.range (prog := X.prog) (w := X.w) (I.ok.hd hc) it lo 1 n
    refine W.item i s _ _ hg st fun v h' tk hv st' kk => ?_
    obtain ⟨t, rfl⟩ := hv
    have I1 : Inv X pins σ H { s with heap := h', toks := tk } := I.turned (fun b o hb e => kk b o (by simpa using hb) e) f0 f1 f3 f4 f5
    refine ⟨_, rfl, go_of (s := { s with heap := h', toks := tk }) (n := "range_iterator") st' rfl rfl (by decide) ⟨.int (lo + i), H, I1, ⟨t, ?_⟩, ⟨rfl, rfl⟩, st', fun b hb => (hf b hb).1⟩⟩
    rw [Int.mul_one]
  done := by
    intro X hP hw hK hc i pins s σ H E I hf st hg
    subst hP hw hK
    obtain ⟨f0, f1, f2, f3, f4, f5⟩ := hf it (by simp)
    exact wpAny_pyNext_range_end (I.ok.hd hc) st (by have : n ≤ i := hg; omega) fun h' eb => ⟨rfl, I.turned (t' := s.toks) (fun b o hb e => eb b o hb e) f0 f1 f3 f4 f5⟩
  self := fun _ _ _ _ _ st h => wpAny_pyIter_rangeiter st h
end L2

namespace L2
open PySem PySem.Spec PyProof.Rows
section
variable {X : Cx} {tg : Expr}
def iList (K : PySem.W.Frag) (tl : TE) : TI := fun σ H R => tl σ H fun x H1 => ∃ a, x = .ref a ∧ (∃ xs, SqL K H1 a xs) ∧ R (Itl K a) H1
theorem pi_list {l : Expr} {tl : TE} (hl : PE X l tl) : PI X tg l (iList X.K tl) := by
  intro pins s σ H R I h
  refine thn (hl pins s σ H _ I h) fun v s1 ⟨x, H1, I1, r1, q1⟩ => ?_
  obtain ⟨a, e, ⟨xs, hq⟩, q⟩ := q1
  subst e
  cases r1
  obtain ⟨its, rv, p, hz⟩ := I1.list hq
  refine wpAny_pyIter_list p.isList ?_
  refine ⟨s1.heap.objs.size, [s1.heap.objs.size], _, _, H1, rfl, I1.kept (t' := s1.toks) fun b o e => Heap.get?_push_of_some _ e, turn_list a _, ⟨_, Heap.get?_push_size _ rfl, rfl, rfl⟩, fun b hb => ?_, q⟩
  have e : b = s1.heap.objs.size := by simpa using hb
  subst e
  exact I1.fpOk (Nat.le_refl _) (I1.hok.fresh (Nat.le_refl _))
/-- a range object just made, walked -/
theorem range_it {pins : List (Addr × Obj)} {σ : St} {H : Hp} {s : Shared} {R : It → Hp → Prop} {E : Value → Shared → Prop} {lo hi : Int} {t u v : Tok} {tk : Nat} (I : Inv X pins σ H s) (h1 : -(2 ^ 62) ≤ lo) (h2 : lo < 2 ^ 62) (h3 : -(2 ^ 62) ≤ hi) (h4 : hi < 2 ^ 62)
    (q : R (Itr lo (hi - lo).toNat) H) : wpAny (model X.prog X.w) X.A (pyIter (.ref s.heap.objs.size)) (PIE X pins σ tg R) E { s with heap := s.heap.push { cls := .type "range", data := .fields #[.int lo t, .int hi u, .int 1 v] }, toks := tk } := by
  refine wpAny_pyIter_range (IsRange.new ..) (small_one h1 h2 h3 h4) ?_
  have I1 : Inv X pins σ H { s with heap := s.heap.push { cls := .type "range", data := .fields #[.int lo t, .int hi u, .int 1 v] }, toks := tk } := I.kept fun b o e => Heap.get?_push_of_some _ e
  refine ⟨(s.heap.push { cls := .type "range", data := .fields #[.int lo t, .int hi u, .int 1 v] }).objs.size, [(s.heap.push { cls := .type "range", data := .fields #[.int lo t, .int hi u, .int 1 v] }).objs.size], _, _, H, rfl,
    I1.kept (t' := tk) fun b o e => Heap.get?_push_of_some _ e, turn_range _ lo (hi - lo).toNat, ?_, fun b hb => ?_, q⟩
  · have e1 : lo + ((0 : Nat) : Int) * 1 = lo := by simp
    have e2 : (((hi - lo).toNat : Nat) : Int) - ((0 : Nat) : Int) = Builtin.Range.rangeSize lo hi 1 := by rw [rangeSize_one]; split <;> omega
    show IsRangeIter _ _ (lo + ((0 : Nat) : Int) * 1) ((((hi - lo).toNat : Nat) : Int) - ((0 : Nat) : Int)) 1
    rw [e1, e2]
    exact Heap.get?_push_size _ rfl
  · have e : b = (s.heap.push { cls := .type "range", data := .fields #[.int lo t, .int hi u, .int 1 v] }).objs.size := by simpa using hb
    subst e
    exact I1.fpOk (Nat.le_refl _) (I1.hok.fresh (Nat.le_refl _))
def iRng1 (ta : TA) : TI := fun σ H R => ta σ H fun vs H1 => ∃ j : Int, vs = [.int j] ∧ -(2 ^ 62) ≤ j ∧ j < 2 ^ 62 ∧ R (Itr 0 j.toNat) H1
def iRng2 (ta : TA) : TI := fun σ H R => ta σ H fun vs H1 => ∃ i j : Int, vs = [.int i, .int j] ∧ (-(2 ^ 62) ≤ i ∧ i < 2 ^ 62 ∧ -(2 ^ 62) ≤ j ∧ j < 2 ^ 62) ∧ R (Itr i (j - i).toNat) H1
theorem pi_range1 {a : Expr} {ta : TA} {p pos : Pos} (hg : Gl X "range") (hm : X.mg "range" = none) (ha : PA X [a] ta) (hs : starEach [a] X.env = [(false, eval a X.env)] := by rfl) : PI X tg (.Call (.Name "range" p) [a] [] pos) (iRng1 ta) := by
  intro pins s σ H R I h
  refine Call_ (ld_blt I hg hm boot_range (PyProof.Rows.callWith_type1 (thn (ha pos pins s σ H _ I h) fun us s1 ⟨vs, H1, I1, r1, q1⟩ => ?_) hs rfl))
  obtain ⟨j, e, q1, q2, q⟩ := q1
  subst e
  cases r1 with
  | cons r rr =>
    cases rr
    obtain ⟨t, rfl⟩ := r
    exact call_range_1 (range_it I1 (by omega) (by omega) q1 q2 (by simpa using q))
theorem pi_range2 {a b : Expr} {ta : TA} {p pos : Pos} (hg : Gl X "range") (hm : X.mg "range" = none) (ha : PA X [a, b] ta) (hs : starEach [a, b] X.env = [(false, eval a X.env), (false, eval b X.env)] := by rfl) (hs2 : starEach [b] X.env = [(false, eval b X.env)] := by rfl) :
    PI X tg (.Call (.Name "range" p) [a, b] [] pos) (iRng2 ta) := by
  intro pins s σ H R I h
  refine Call_ (ld_blt I hg hm boot_range (PyProof.Rows.callWith_type1 (thn (ha pos pins s σ H _ I h) fun us s1 ⟨vs, H1, I1, r1, q1⟩ => ?_) (by rw [hs, hs2]) (by rw [hs2]; rfl)))
  obtain ⟨i, j, e, ⟨q1, q2, q3, q4⟩, q⟩ := q1
  subst e
  cases r1 with
  | cons r rr =>
    cases rr with
    | cons r' rr =>
      cases rr
      obtain ⟨t, rfl⟩ := r
      obtain ⟨t', rfl⟩ := r'
      exact call_range_2 (range_it I1 q1 q2 q3 q4 q)

/-! ### for -/
/-- W: the invariant by the turn and a measure; N: what the body is to reach -/
def tFor (wi : TI) (g : TG) (tb : TS) : TS := fun D σ H => wi σ H fun J H1 => ∃ W : Nat → Nat → St → Hp → Prop, (∃ m, W 0 m σ H1) ∧ ∀ i m σ H, W i m σ H →
  (J.stop i H ∧ D.nx σ H) ∨ (J.go i H ∧ ∃ N : St → Hp → Prop, (∀ σ' H', N σ' H' → ∃ m', m' < m ∧ W (i + 1) m' σ' H') ∧ ∀ x H', J.yld i H x H' → g x σ H' fun σ2 H2 => tb { D with nx := N, ct := N, bk := D.nx } σ2 H2)
/-- the records at fp as they stand -/
def pinsAt (fp : List Addr) (h : Heap) : List (Addr × Obj) := fp.filterMap fun b => (h.get? b).map fun o => (b, o)
theorem mem_pinsAt {fp : List Addr} {h : Heap} {b : Addr} {o : Obj} (hb : b ∈ fp) (e : h.get? b = some o) : (b, o) ∈ pinsAt fp h := List.mem_filterMap.mpr ⟨b, hb, by rw [e]; rfl⟩
theorem of_pinsAt {fp : List Addr} {h : Heap} {p : Addr × Obj} (hp : p ∈ pinsAt fp h) : p.1 ∈ fp ∧ h.get? p.1 = some p.2 := by
  obtain ⟨b, hb, e⟩ := List.mem_filterMap.mp hp
  cases q : h.get? b with
  | none => rw [q] at e; cases e
  | some o =>
    rw [q] at e
    have e' : (b, o) = p := Option.some.inj e
    subst e'
    exact ⟨hb, q⟩
theorem Inv.pinned {pins : List (Addr × Obj)} {σ : St} {H : Hp} {s : Shared} {fp : List Addr} (I : Inv X pins σ H s) (hf : ∀ b ∈ fp, FpOk X pins H b) (ho : ∀ b ∈ fp, ∃ o, s.heap.get? b = some o ∧ ∀ v, o.data ≠ .cell v) : Inv X (pins ++ pinsAt fp s.heap) σ H s :=
  I.pins_of fun p hp => (List.mem_append.mp hp).elim (fun z => I.pin p (List.mem_append_right _ z)) fun z => by
    obtain ⟨hb, e⟩ := of_pinsAt z
    obtain ⟨f0, f1, f2, _⟩ := hf p.1 hb
    obtain ⟨o, e', d⟩ := ho p.1 hb
    rw [e] at e'; cases e'
    exact ⟨e, f0, f1, f2, d⟩
theorem Inv.unpinned {pins pl : List (Addr × Obj)} {σ : St} {H : Hp} {s : Shared} (I : Inv X (pins ++ pl) σ H s) : Inv X pins σ H s := I.pins_of fun p hp => I.pin p (List.mem_append_right _ (List.mem_append_left _ hp))
theorem ps_for {iter : Expr} {body : List Stmt} {wi : TI} {g : TG} {tb : TS} {pos : Pos} (hp : PassesOwn (model X.prog X.w) X.A X.env X.xe) (hc : X.calm = true) (hi : PI X tg iter wi) (hg : PG X tg g) (hb : PSs X body tb)
    (hs : ∀ x, foldedSetIterable iter X.env x = pure x := by intro _; rfl) : PS X (.For tg iter body [] pos) (tFor wi g tb) := by
  intro pins s σ H D I h
  refine wpAny_For (thn (hi pins s σ H _ I h) fun v s1 h1 => thn h1 fun itv s2 h2 => ?_) hs
  obtain ⟨it, fp, tn, J, H2, e, I2, T, st2, f2, W, ⟨m0, w0⟩, turn⟩ := h2
  subst e
  -- what stays true of the iterator's objects through the loop
  have stat : ∀ {H' : Hp}, (∀ b ∈ fp, H' b = none) → ∀ b ∈ fp, FpOk X pins H' b := fun hn b hb => ⟨hn b hb, (f2 b hb).2⟩
  refine codeAny_forLoop_any (fun n s' => ∃ i σ' H', Inv X pins σ' H' s' ∧ tn i s'.heap ∧ (∀ b ∈ fp, H' b = none) ∧ W i n σ' H') ?_ m0 ⟨0, σ, H2, I2, st2, fun b hb => (f2 b hb).1, w0⟩
  rintro n s3 ⟨i, σ3, H3, I3, st3, fr3, w3⟩
  rcases turn i n σ3 H3 w3 with ⟨stop, qn⟩ | ⟨go, N, hN, step⟩
  · refine wpAny_passesOwn hp (thn (T.done X rfl rfl rfl hc i pins s3 σ3 H3 X.xe I3 (stat fr3) st3 stop) fun r s4 ⟨hr, I4⟩ => ?_)
    subst hr
    exact wpAny_execs_nil ⟨σ3, H3, I4, qn⟩
  · refine wpAny_passesOwn hp (thn (T.item X rfl rfl rfl hc i pins s3 σ3 H3 X.xe I3 (stat fr3) st3 go) fun r s4 ⟨u, hr, h4⟩ => ?_)
    subst hr
    refine wpAny_passesOwn hp (thn h4 fun _ s5 ⟨x, H5, I5, r5, y5, st5, fr5⟩ => ?_)
    have I5' := I5.pinned (stat fr5) (T.obj _ _ st5)
    refine wpAny_passesOwn hp (thn (hg _ s5 σ3 H5 x u _ I5' r5 (step x H5 y5)) fun _ s6 ⟨σ6, H6, I6, q6⟩ => ?_)
    refine wpAny_passesOwn hp (thn (hb _ s6 σ6 H6 _ I6 q6) fun f s7 q7 => ?_)
    have again : ∀ {σ7 : St} {H7 : Hp}, Inv X (pins ++ pinsAt fp s5.heap) σ7 H7 s7 → N σ7 H7 → ∃ m, m < n ∧ ∃ i σ' H', Inv X pins σ' H' s7 ∧ tn i s7.heap ∧ (∀ b ∈ fp, H' b = none) ∧ W i m σ' H' := fun {σ7 H7} I7 n7 => by
      obtain ⟨m', hm, w7⟩ := hN σ7 H7 n7
      refine ⟨m', hm, i + 1, σ7, H7, I7.unpinned, T.keep _ _ _ st5 fun b hb o e => (I7.pin (b, o) (List.mem_append_right _ (List.mem_append_right _ (mem_pinsAt hb e)))).1, fun b hb => ?_, w7⟩
      obtain ⟨o, e, d⟩ := T.obj _ _ st5 b hb
      exact (I7.pin (b, o) (List.mem_append_right _ (List.mem_append_right _ (mem_pinsAt hb e)))).2.1
    cases f with
    | next => obtain ⟨σ7, H7, I7, n7⟩ := q7; exact again I7 n7
    | cont => obtain ⟨σ7, H7, I7, n7⟩ := q7; exact again I7 n7
    | brk => obtain ⟨σ7, H7, I7, q7⟩ := q7; exact ⟨σ7, H7, I7.unpinned, q7⟩
    | ret v => obtain ⟨x7, σ7, H7, I7, r7, q7⟩ := q7; exact ⟨x7, σ7, H7, I7.unpinned, r7, q7⟩
end

/-! ### the forms one uses -/
/-- over a list that the body leaves as it is -/
theorem for_list {K : PySem.W.Frag} {a : Addr} {xs : List V} {g : TG} {tb : TS} {D : Ends} {σ : St} {H : Hp} (Pv : Nat → St → Hp → Prop) (h0 : Pv 0 σ H) (hl : ∀ i σ H, i ≤ xs.length → Pv i σ H → SqL K H a xs)
    (hs : ∀ i x σ H, xs[i]? = some x → Pv i σ H → g x σ H fun σ2 H2 => tb { D with nx := Pv (i + 1), ct := Pv (i + 1), bk := D.nx } σ2 H2) (hd : ∀ σ H, Pv xs.length σ H → D.nx σ H) :
    ∃ W : Nat → Nat → St → Hp → Prop, (∃ m, W 0 m σ H) ∧ ∀ i m σ H, W i m σ H →
      ((Itl K a).stop i H ∧ D.nx σ H) ∨ ((Itl K a).go i H ∧ ∃ N : St → Hp → Prop, (∀ σ' H', N σ' H' → ∃ m', m' < m ∧ W (i + 1) m' σ' H') ∧ ∀ x H', (Itl K a).yld i H x H' → g x σ H' fun σ2 H2 => tb { D with nx := N, ct := N, bk := D.nx } σ2 H2) := by
  refine ⟨fun i m σ H => m = xs.length - i ∧ i ≤ xs.length ∧ Pv i σ H, ⟨xs.length, by simp, Nat.zero_le _, h0⟩, ?_⟩
  rintro i m σ H ⟨rfl, hi, p⟩
  have q := hl i σ H hi p
  by_cases hlt : i < xs.length
  · refine .inr ⟨⟨xs, xs[i], q, by simp [hlt]⟩, Pv (i + 1), fun σ' H' p' => ⟨xs.length - (i + 1), by omega, rfl, hlt, p'⟩, fun x H' y => ?_⟩
    obtain ⟨e, y⟩ := y
    subst e
    exact hs i x σ _ (y xs q) p
  · have e : i = xs.length := by omega
    subst e
    exact .inl ⟨⟨xs, q, Nat.le_refl _⟩, hd σ H p⟩
end L2

namespace L2
open PySem PySem.Spec PyProof.Rows

abbrev R2 := V → V → Hp → VK → Prop
/-- a two-place operation on values: f is binaryOp op, inplaceOp op or compareOp op -/
def OpR (X : Cx) (f : Value → Value → Sem Value) (r : R2) : Prop :=
  ∀ (pins : List (Addr × Obj)) (s : Shared) (σ : St) (H : Hp) (x y : V) (v u : Value) (Q : VK), Inv X pins σ H s → RelV x v → RelV y u → r x y H Q →
    wpAny (model X.prog X.w) X.A (f v u) (EP X pins σ Q) X.xe s
/-- a one-place operation -/
def UnR (X : Cx) (f : Value → Sem Value) (r : V → Hp → VK → Prop) : Prop :=
  ∀ (pins : List (Addr × Obj)) (s : Shared) (σ : St) (H : Hp) (x : V) (v : Value) (Q : VK), Inv X pins σ H s → RelV x v → r x H Q →
    wpAny (model X.prog X.w) X.A (f v) (EP X pins σ Q) X.xe s
/-- a call of a value that is known (a builtin, a type) with values -/
def CallR (X : Cx) (f : Value) (r : List V → Hp → VK → Prop) : Prop :=
  ∀ (pins : List (Addr × Obj)) (s : Shared) (σ : St) (H : Hp) (xs : List V) (us : List Value) (Q : VK), Inv X pins σ H s → Vals xs us → r xs H Q →
    wpAny (model X.prog X.w) X.A (call f us) (EP X pins σ Q) X.xe s
def tOp (r : R2) (ta tb : TE) : TE := fun σ H Q => ta σ H fun x H1 => tb σ H1 fun y H2 => r x y H2 Q
def tUn (r : V → Hp → VK → Prop) (ta : TE) : TE := fun σ H Q => ta σ H fun x H1 => r x H1 Q
/-- ints in, under C, and a value out -/
def rI (C : Int → Int → Prop) (g : Int → Int → V) : R2 := fun x y H Q => ∃ i j, x = .int i ∧ y = .int j ∧ C i j ∧ Q (g i j) H
def rI0 (g : Int → Int → V) : R2 := fun x y H Q => ∃ i j, x = .int i ∧ y = .int j ∧ Q (g i j) H
def rU (g : Int → V) : V → Hp → VK → Prop := fun x H Q => ∃ i, x = .int i ∧ Q (g i) H

section
variable {X : Cx} {a b c : Expr} {ta tb tc : TE} {pos : Pos}

theorem binT (ha : PE X a ta) (hb : PE X b tb) {pins : List (Addr × Obj)} {s : Shared} {σ : St} {H : Hp} {R : V → V → Hp → Prop} (I : Inv X pins σ H s)
    (h : ta σ H fun x H1 => tb σ H1 fun y H2 => R x y H2) {Q : Value → Shared → Prop} {f : Value → Value → Sem Value}
    (hf : ∀ v u s2 x y H2, Inv X pins σ H2 s2 → RelV x v → RelV y u → R x y H2 → wpAny (model X.prog X.w) X.A (f v u) Q X.xe s2) :
    wpAny (model X.prog X.w) X.A (eval a X.env) (fun v s₁ => wpAny (model X.prog X.w) X.A (eval b X.env) (fun u s₂ => wpAny (model X.prog X.w) X.A (f v u) Q X.xe s₂) X.xe s₁) X.xe s := by
  refine thn (ha pins s σ H _ I h) fun v s1 ⟨x, H1, I1, r1, q1⟩ => ?_
  refine thn (hb pins s1 σ H1 _ I1 q1) fun u s2 ⟨y, H2, I2, r2, q2⟩ => ?_
  exact hf v u s2 x y H2 I2 r1 r2 q2

theorem pe_op {op : Operator} {r : R2} (ho : OpR X (binaryOp op) r) (ha : PE X a ta) (hb : PE X b tb) : PE X (.BinOp a op b pos) (tOp r ta tb) := by
  intro pins s σ H Q I h
  exact wpAny_BinOp (binT ha hb I h fun v u s2 x y H2 I2 rx ry q => ho pins s2 σ H2 x y v u Q I2 rx ry q)
theorem pe_un {op : UnaryOp} {r : V → Hp → VK → Prop} (ho : UnR X (unaryOp op) r) (ha : PE X a ta) : PE X (.UnaryOp op a pos) (tUn r ta) := by
  intro pins s σ H Q I h
  exact UnaryOp_ (thn (ha pins s σ H _ I h) fun v s1 ⟨x, H1, I1, r1, q1⟩ => ho pins s1 σ H1 x v Q I1 r1 q1)
/-! ### ints -/
theorem opI {f : Value → Value → Sem Value} {C : Int → Int → Prop} {g : Int → Int → Int}
    (rule : ∀ (i j : Int) (t u : Tok) (s : Shared) (Q : Value → Shared → Prop) (E : Value → Shared → Prop), C i j → Q (.int (g i j) s.toks) { s with toks := s.toks + 1 } → wpAny (model X.prog X.w) X.A (f (.int i t) (.int j u)) Q E s) :
    OpR X f (rI C fun i j => .int (g i j)) := by
  intro pins s σ H x y v u Q I rx ry h
  obtain ⟨i, j, rfl, rfl, hc, q⟩ := h
  obtain ⟨t, rfl⟩ := rx
  obtain ⟨t', rfl⟩ := ry
  exact rule i j t t' s _ _ hc ⟨.int (g i j), H, I.tok _, ⟨_, rfl⟩, q⟩
theorem opB0 {f : Value → Value → Sem Value} {g : Int → Int → Bool}
    (rule : ∀ (i j : Int) (t u : Tok) (s : Shared) (Q : Value → Shared → Prop) (E : Value → Shared → Prop), Q (.bool (g i j)) s → wpAny (model X.prog X.w) X.A (f (.int i t) (.int j u)) Q E s) :
    OpR X f (rI0 fun i j => .bl (g i j)) := by
  intro pins s σ H x y v u Q I rx ry h
  obtain ⟨i, j, rfl, rfl, q⟩ := h
  obtain ⟨t, rfl⟩ := rx
  obtain ⟨t', rfl⟩ := ry
  exact rule i j t t' s _ _ ⟨.bl (g i j), H, I, rfl, q⟩

def CMul (i j : Int) : Prop := (-(2 ^ 64) < i ∧ i < 2 ^ 64) ∨ (-(2 ^ 64) < j ∧ j < 2 ^ 64)
theorem CMul.ok {i j : Int} (h : CMul i j) : IntMulOk i j := by
  rcases h with ⟨h1, h2⟩ | ⟨h1, h2⟩
  · exact .of_left (intBits_le_64 h1 h2)
  · exact .of_right (intBits_le_64 h1 h2)
theorem unI {f : Value → Sem Value} {g : Int → Int}
    (rule : ∀ (i : Int) (t : Tok) (s : Shared) (Q : Value → Shared → Prop) (E : Value → Shared → Prop), Q (.int (g i) s.toks) { s with toks := s.toks + 1 } → wpAny (model X.prog X.w) X.A (f (.int i t)) Q E s) :
    UnR X f (rU fun i => .int (g i)) := by
  intro pins s σ H x v Q I rx h
  obtain ⟨i, rfl, q⟩ := h
  obtain ⟨t, rfl⟩ := rx
  exact rule i t s _ _ ⟨.int (g i), H, I.tok _, ⟨_, rfl⟩, q⟩
theorem un_neg : UnR X (unaryOp .USub) (rU fun i => .int (-i)) := unI fun _ _ _ _ _ q => neg_int q
/-! ### bools among ints: n += (a < b) -/
end

/-! ### comparisons -/
/-- the scalars that == tells apart as data does -/
def scal : V → V → Bool
  | .non, .non => true | .non, .int _ => true | .int _, .non => true | .non, .bl _ => true | .bl _, .non => true | .non, .str _ => true | .str _, .non => true
  | .int _, .int _ => true | .bl _, .bl _ => true | .str _, .str _ => true | .byt _, .byt _ => true
  | .int _, .str _ => true | .str _, .int _ => true | .bl _, .str _ => true | .str _, .bl _ => true
  | _, _ => false
def rEq : R2 := fun x y H Q => scal x y = true ∧ Q (.bl (decide (x = y))) H
def rNe : R2 := fun x y H Q => scal x y = true ∧ Q (.bl (!decide (x = y))) H

theorem dec_int {i j : Int} : decide (V.int i = V.int j) = (i == j) := by
  rw [Bool.eq_iff_iff]
  simp
theorem dec_bl {i j : Bool} : decide (V.bl i = V.bl j) = (i == j) := by
  rw [Bool.eq_iff_iff]
  simp
theorem dec_str {i j : Str} : decide (V.str i = V.str j) = (i == j) := by
  rw [Bool.eq_iff_iff]
  simp
theorem dec_byt {i j : Array UInt8} : decide (V.byt i = V.byt j) = (i.toList == j.toList) := by
  rw [Bool.eq_iff_iff]
  cases i
  cases j
  simp

section
variable {X : Cx} {a b c : Expr} {ta tb tc : TE} {pos : Pos}
theorem fin_bl {pins : List (Addr × Obj)} {σ : St} {H : Hp} {s : Shared} {Q : VK} {k k' : Bool} (I : Inv X pins σ H s) (q : Q (.bl k) H) (e : k = k') : EP X pins σ Q (.bool k') s := by
  subst e
  exact ⟨.bl k, H, I, rfl, q⟩
theorem op_eq : OpR X (compareOp .Eq) rEq := by
  intro pins s σ H x y v u Q I rx ry h
  obtain ⟨hs, q⟩ := h
  cases x with
  | non =>
    cases rx
    cases y with
    | non => cases ry; exact PySem.EqNone.eq_none_none (fin_bl I q (by simp))
    | bl j => cases ry; exact PySem.EqNone.eq_none_bool (fin_bl I q (by simp))
    | int j => obtain ⟨t', rfl⟩ := ry; exact PySem.EqNone.eq_none_int (fin_bl I q (by simp))
    | str j => obtain ⟨t', rfl⟩ := ry; exact PySem.EqNone.eq_none_str (fin_bl I q (by simp))
    | _ => exact absurd (show false = true from hs) Bool.false_ne_true
  | bl i =>
    cases rx
    cases y with
    | non => cases ry; exact PySem.EqNone.eq_bool_none (fin_bl I q (by simp))
    | bl j => cases ry; exact eq_bool (fin_bl I q dec_bl)
    | str j => obtain ⟨t', rfl⟩ := ry; exact PySem.EqMixed.eq_bool_str (fin_bl I q (by simp))
    | _ => exact absurd (show false = true from hs) Bool.false_ne_true
  | int i =>
    obtain ⟨t, rfl⟩ := rx
    cases y with
    | non => cases ry; exact PySem.EqNone.eq_int_none (fin_bl I q (by simp))
    | int j => obtain ⟨t', rfl⟩ := ry; exact eq_int (fin_bl I q dec_int)
    | str j => obtain ⟨t', rfl⟩ := ry; exact PySem.EqMixed.eq_int_str (fin_bl I q (by simp))
    | _ => exact absurd (show false = true from hs) Bool.false_ne_true
  | str i =>
    obtain ⟨t, rfl⟩ := rx
    cases y with
    | non => cases ry; exact PySem.EqNone.eq_str_none (fin_bl I q (by simp))
    | bl j => cases ry; exact PySem.EqMixed.eq_str_bool (fin_bl I q (by simp))
    | int j => obtain ⟨t', rfl⟩ := ry; exact PySem.EqMixed.eq_str_int (fin_bl I q (by simp))
    | str j => obtain ⟨t', rfl⟩ := ry; exact eq_str (fin_bl I q dec_str)
    | _ => exact absurd (show false = true from hs) Bool.false_ne_true
  | byt i =>
    obtain ⟨t, rfl⟩ := rx
    cases y with
    | byt j => obtain ⟨t', rfl⟩ := ry; exact PySem.W.eq_bytes (fin_bl I q dec_byt)
    | _ => exact absurd (show false = true from hs) Bool.false_ne_true
  | _ => cases y <;> exact absurd (show false = true from hs) Bool.false_ne_true
theorem op_ne : OpR X (compareOp .NotEq) rNe := by
  intro pins s σ H x y v u Q I rx ry h
  obtain ⟨hs, q⟩ := h
  cases x with
  | non =>
    cases rx
    cases y with
    | non => cases ry; exact PySem.EqNone.ne_none_none (fin_bl I q (by simp))
    | bl j => cases ry; exact PySem.EqNone.ne_none_bool (fin_bl I q (by simp))
    | int j => obtain ⟨t', rfl⟩ := ry; exact PySem.EqNone.ne_none_int (fin_bl I q (by simp))
    | str j => obtain ⟨t', rfl⟩ := ry; exact PySem.EqNone.ne_none_str (fin_bl I q (by simp))
    | _ => exact absurd (show false = true from hs) Bool.false_ne_true
  | bl i =>
    cases rx
    cases y with
    | non => cases ry; exact PySem.EqNone.ne_bool_none (fin_bl I q (by simp))
    | bl j => cases ry; exact ne_bool (fin_bl I q (congrArg not dec_bl))
    | str j => obtain ⟨t', rfl⟩ := ry; exact PySem.EqMixed.ne_bool_str (fin_bl I q (by simp))
    | _ => exact absurd (show false = true from hs) Bool.false_ne_true
  | int i =>
    obtain ⟨t, rfl⟩ := rx
    cases y with
    | non => cases ry; exact PySem.EqNone.ne_int_none (fin_bl I q (by simp))
    | int j => obtain ⟨t', rfl⟩ := ry; exact ne_int (fin_bl I q (congrArg not dec_int))
    | str j => obtain ⟨t', rfl⟩ := ry; exact PySem.EqMixed.ne_int_str (fin_bl I q (by simp))
    | _ => exact absurd (show false = true from hs) Bool.false_ne_true
  | str i =>
    obtain ⟨t, rfl⟩ := rx
    cases y with
    | non => cases ry; exact PySem.EqNone.ne_str_none (fin_bl I q (by simp))
    | bl j => cases ry; exact PySem.EqMixed.ne_str_bool (fin_bl I q (by simp))
    | int j => obtain ⟨t', rfl⟩ := ry; exact PySem.EqMixed.ne_str_int (fin_bl I q (by simp))
    | str j => obtain ⟨t', rfl⟩ := ry; exact ne_str (fin_bl I q (congrArg not dec_str))
    | _ => exact absurd (show false = true from hs) Bool.false_ne_true
  | byt i =>
    obtain ⟨t, rfl⟩ := rx
    cases y with
    | byt j => obtain ⟨t', rfl⟩ := ry; exact PySem.W.ne_bytes (fin_bl I q (congrArg not dec_byt))
    | _ => exact absurd (show false = true from hs) Bool.false_ne_true
  | _ => cases y <;> exact absurd (show false = true from hs) Bool.false_ne_true

theorem op_lt : OpR X (compareOp .Lt) (rI0 fun i j => .bl (decide (i < j))) := opB0 fun _ _ _ _ _ _ _ q => lt_int q
theorem op_gt : OpR X (compareOp .Gt) (rI0 fun i j => .bl (decide (j < i))) := opB0 fun _ _ _ _ _ _ _ q => gt_int q
/-- two rules for one operation: by cases -/
theorem OpR.or {f : Value → Value → Sem Value} {r r' : R2} (h : OpR X f r) (h' : OpR X f r') : OpR X f (fun x y H Q => r x y H Q ∨ r' x y H Q) := by
  intro pins s σ H x y v u Q I rx ry q
  rcases q with q | q
  · exact h pins s σ H x y v u Q I rx ry q
  · exact h' pins s σ H x y v u Q I rx ry q

theorem nomark (b : Expr) {op : CmpOp} (h : op ≠ .In := by decide) (h2 : op ≠ .NotIn := by decide) : behindInMarks op b = false := by
  have e1 : (op == CmpOp.In) = false := by cases op <;> first | rfl | exact absurd rfl h
  have e2 : (op == CmpOp.NotIn) = false := by cases op <;> first | rfl | exact absurd rfl h2
  cases b <;> simp [behindInMarks, e1, e2]
/-- a comparison as a value; hm: nomark b, or (for in, not in) by with_unfolding_all rfl -/
theorem pe_cmpR {op : CmpOp} {r : R2} (ho : OpR X (compareOp op) r) (ha : PE X a ta) (hb : PE X b tb) (hm : behindInMarks op b = false) : PE X (.Compare a [op] [b] pos) (tOp r ta tb) := by
  intro pins s σ H Q I h
  exact wpAny_Compare1 (binT ha hb I h fun v u s2 x y H2 I2 rx ry q => ho pins s2 σ H2 x y v u Q I2 rx ry q) hm
/-- a reading of a value as a test -/
def tTest (t : TE) : TT := fun σ H Q => t σ H fun x H' => ∃ k, x = .bl k ∧ Q k H'
theorem pt_cmpR {op : CmpOp} {r : R2} (ho : OpR X (compareOp op) r) (ha : PE X a ta) (hb : PE X b tb) (hm : behindInMarks op b = false) : PT X (.Compare a [op] [b] pos) (tTest (tOp r ta tb)) := by
  intro pins s σ H Q I h
  refine wpAny_isTrue_Compare1 (thn (ha pins s σ H _ I h) fun v s1 ⟨x, H1, I1, r1, q1⟩ => thn (hb pins s1 σ H1 _ I1 q1) fun u s2 ⟨y, H2, I2, r2, q2⟩ =>
    thn (ho pins s2 σ H2 x y v u _ I2 r1 r2 q2) fun c s3 ⟨z, H3, I3, r3, k, e, q3⟩ => ?_) hm
  subst e
  cases r3
  exact wpAny_truthy_bool ⟨H3, I3, q3⟩
/-! ### truth -/
theorem line63 : (sizeLine : Nat) < 2 ^ 63 := by rw [sizeLine_eq]; decide
/-! ### strs and bytes -/
/-! ### scalar builtins, by CallR -/
theorem vals1 {x : V} {us : List Value} (r : Vals [x] us) : ∃ u, us = [u] ∧ RelV x u := by
  cases r with
  | cons r1 r2 => cases r2; exact ⟨_, rfl, r1⟩
theorem vals2 {x y : V} {us : List Value} (r : Vals [x, y] us) : ∃ u w', us = [u, w'] ∧ RelV x u ∧ RelV y w' := by
  cases r with
  | cons r1 r2 =>
    cases r2 with
    | cons r3 r4 => cases r4; exact ⟨_, _, rfl, r1, r3⟩
theorem call_abs : CallR X (.builtin "abs") (fun xs H Q => ∃ i, xs = [.int i] ∧ Q (.int (if i < 0 then -i else i)) H) := by
  intro pins s σ H xs us Q I r h
  obtain ⟨i, rfl, q⟩ := h
  obtain ⟨u, rfl, t, rfl⟩ := vals1 r
  exact call_abs_int fun u tk => ⟨.int (if i < 0 then -i else i), H, I.tok _, ⟨_, rfl⟩, q⟩
theorem call_min2 (hc : X.calm = true) : CallR X (.builtin "min") (fun xs H Q => ∃ i j, xs = [.int i, .int j] ∧ Q (.int (if j < i then j else i)) H) := by
  intro pins s σ H xs us Q I r h
  obtain ⟨i, j, rfl, q⟩ := h
  obtain ⟨u, w', rfl, ⟨t, rfl⟩, ⟨t', rfl⟩⟩ := vals2 r
  refine min_two_ints (I.ok.hd hc) fun h' tk k => ⟨_, H, I.kept k, ?_, q⟩
  by_cases hj : j < i
  · rw [if_pos hj, if_pos hj]; exact ⟨_, rfl⟩
  · rw [if_neg hj, if_neg hj]; exact ⟨_, rfl⟩
end
end L2

namespace L2
open PySem PySem.Spec PyProof.Rows

/-! ### an instance, its attributes a map -/
structure ObjM (h : Heap) (x dx C : Addr) (mA : Str → Option Value) : Prop where
  obj : h.get? x = some (PySem.W.instObj C dx)
  ns : h.Ns1 dx mA
  ne : dx ≠ x

theorem lookIn_ns {h : Heap} {dx : Addr} {mA : Str → Option Value} (n : h.Ns1 dx mA) : ∃ od, h.get? dx = some od ∧ ∀ name, PySem.W.lookIn name od = some (mA name) := by
  obtain ⟨o, es, ep, ho, hd, hk, _, hm⟩ := n
  refine ⟨o, ho, fun name => ?_⟩
  have e := hm name
  unfold nsFind findBy at e
  rw [← Array.find?_toList] at e
  unfold PySem.W.lookIn
  rw [hd]
  dsimp only
  split
  · rename_i y q
    rw [q] at e
    exact congrArg some e
  · rename_i q
    rw [q] at e
    have a : es.toList.any (·.refKey) = false := by
      rw [List.any_eq_false]
      intro y hy
      obtain ⟨z, t, hkey⟩ := hk y (Array.mem_toList_iff.mp hy)
      simp [DictEntry.refKey, hkey]
    have a' : ¬ es.toList.any (·.refKey) = true := by rw [a]; exact Bool.false_ne_true
    rw [if_neg a']
    exact congrArg some e

theorem ObjM.look {h : Heap} {x dx C : Addr} {mA : Str → Option Value} (I : ObjM h x dx C mA) : ∃ od, PySem.W.InstAt h x (PySem.W.instObj C dx) C (some od) ∧ ∀ name, PySem.W.lookIn name od = some (mA name) :=
  let ⟨od, ho, hl⟩ := lookIn_ns I.ns
  ⟨od, ⟨I.obj, rfl, rfl, ho⟩, hl⟩

section
variable {prog : Program} {w : World} {A : Around} {E : Value → Shared → Prop} {s : Shared} {K : PySem.W.Frag} {x dx C f : Addr} {mA : Str → Option Value} {name : Str} {v : Value}

end

/-! ### the attributes as a list of pairs -/
section
variable {P : Program} {w : World} {H H' : Hp} {h h' : Heap} {a C dx : Addr} {fs fs' : List (Str × V)}
theorem ins_get (hok : HOk P w H h) (e : H a = some (.ins C dx fs)) : ∃ mA, ObjM h a dx C mA ∧ (∀ f, RelO (fs.lookup f) (mA f)) ∧ PySem.Within mA (fs.map (·.1)) ∧ fs.length ≤ 1000 ∧ H dx = some (.own a) := by
  obtain ⟨d, z, ne, ob, mA, n, r, q⟩ := (show ObjOk P w H h a (.ins C dx fs) from hok a _ e)
  exact ⟨mA, ⟨ob, n, ne⟩, r, q, z, d⟩
end

/-! ### what of the text a class must have -/
structure Cls (K : PySem.W.Frag) (C : Addr) : Prop where
  pg : PySem.W.plainGet K C Str.empty = true
  hd : PySem.W.hasDictIn K C = true
  po : PySem.W.plainOver K C = true
  sa : PySem.W.findIn K (.ref C) "__setattr__" = some (some (.builtin "object.__setattr__"))
theorem Cls.get {K : PySem.W.Frag} {C : Addr} (c : Cls K C) (f : Str) : PySem.W.plainGet K C f = true := c.pg
/-- a constant of the class -/
structure Con (K : PySem.W.Frag) (C : Addr) (f : Str) (v : V) (u : Value) : Prop where
  at_ : PySem.W.findIn K (.ref C) f = some (some u)
  rel : RelV v u
  get : PySem.W.specialIn K u "__get__" = some none
  cp : PySem.W.copiedNames.contains f = false
/-- a method: a plain def of the class or of one above it -/
structure Meth (K : PySem.W.Frag) (C : Addr) (m : Str) (f : Addr) : Prop where
  at_ : PySem.W.findIn K (.ref C) m = some (some (.ref f))
  fn : PySem.W.isFn K (.ref f) = true
  kp : PySem.W.keepIn K (.ref f) = true

section
variable {X : Cx} {pins : List (Addr × Obj)} {σ : St} {H : Hp} {s : Shared} {a C dx : Addr} {fs : List (Str × V)} {f : Str} {v : V} {A : Around} {E : Value → Shared → Prop}

/-- a new instance, tracked, without attributes -/
theorem Inv.made (I : Inv X pins σ H s) : Inv X pins σ (upd (upd H s.heap.objs.size (.own (s.heap.objs.size + 1))) (s.heap.objs.size + 1) (.ins C s.heap.objs.size []))
    { s with heap := (s.heap.push PySem.W.emptyDict).push (PySem.W.instObj C s.heap.objs.size) } := by
  have e1 : (s.heap.push PySem.W.emptyDict).get? s.heap.objs.size = some PySem.W.emptyDict := Heap.get?_push_size s.heap rfl
  have e2 : ((s.heap.push PySem.W.emptyDict).push (PySem.W.instObj C s.heap.objs.size)).get? (s.heap.objs.size + 1) = some (PySem.W.instObj C s.heap.objs.size) := by
    have := Heap.get?_push_size (s.heap.push PySem.W.emptyDict) (o := PySem.W.instObj C s.heap.objs.size) rfl
    rwa [Heap.size_push] at this
  have e3 : (s.heap.push PySem.W.emptyDict).Ns s.heap.objs.size (fun _ => none) := ⟨PySem.W.emptyDict, #[], _, e1, rfl, (fun e he => absurd he (by simp)), fun _ => rfl⟩
  have I1 := I.laid (a := s.heap.objs.size) (o := .own (s.heap.objs.size + 1)) (h' := s.heap.push PySem.W.emptyDict) (t' := s.toks) (fun b u q => Heap.get?_push_of_some _ q) (Nat.le_refl _) ⟨_, e1⟩
  refine I1.laid (a := s.heap.objs.size + 1) (o := .ins C s.heap.objs.size []) (t' := s.toks) (fun b u q => Heap.get?_push_of_some _ q) (Nat.le_of_eq (Heap.size_push _ _)) ?_
  have ne : s.heap.objs.size ≠ s.heap.objs.size + 1 := Nat.ne_of_lt (Nat.lt_succ_self _)
  refine ⟨by rw [upd_ne ne, upd_same], Nat.zero_le _, ne, e2, fun _ => none, (Heap.Ns1.of_empty e3).at fun o q => Heap.get?_push_of_some _ q, fun _ => True.intro, fun y hy => absurd rfl hy⟩

end

/-! ### readings and rules -/
section
variable {X : Cx} {o e value : Expr} {f : Str} {pos pos' tpos : Pos} {ta tv : TE}
end

/-! ### isinstance -/
section
variable {X : Cx} {pins : List (Addr × Obj)} {σ : St} {H : Hp} {s : Shared} {A : Around} {E : Value → Shared → Prop} {Q : Value → Shared → Prop} {c : Value} {b : Bool}
/-- the type of a value, as the fragment's deciders take it; for an instance its class -/
inductive TyOf (K : PySem.W.Frag) (H : Hp) : V → Value → Prop where
  | non : TyOf K H .non (.type "NoneType")
  | bl (x : Bool) : TyOf K H (.bl x) (.type "bool")
  | int (i : Int) : TyOf K H (.int i) (.type "int")
  | str (x : Str) : TyOf K H (.str x) (.type "str")
  | flt (x : UInt64) : TyOf K H (.flt x) (.type "float")
  | lst {a : Addr} {xs : List V} (e : H a = some (.lst xs)) : TyOf K H (.ref a) (.type "list")
  | frz {a : Addr} {o : Obj} {xs : List V} (e : H a = some (.frz o (.lst xs))) : TyOf K H (.ref a) (.type "list")
  | tup {a : Addr} {xs : List V} (e : H a = some (.tup xs)) : TyOf K H (.ref a) (.type "tuple")
  | dK {a : Addr} {kvs : List (Key × V)} (e : H a = some (.dK kvs)) : TyOf K H (.ref a) (.type "dict")
  | dT {a : Addr} {kvs : List (List Key × V)} (e : H a = some (.dT kvs)) : TyOf K H (.ref a) (.type "dict")
  | ins {a C dx : Addr} {fs : List (Str × V)} (e : H a = some (.ins C dx fs)) (cl : Cls K C) (ha : PySem.W.findIn K (.ref C) "__class__" = some (some (.builtin "object.__class__")))
      (hn : PySem.W.specialIn K (.builtin "object.__class__") "__get__" = some (some (.builtin "getset_descriptor.__get__"))) (htk : PySem.W.takesIn K (.builtin "object.__class__") = some true)
      (hm : PySem.W.mroIn K C (.type "object") = some true) : TyOf K H (.ref a) (.ref C)
/-- isinstance(x, c) for one class c, a built-in or an own one: kitOne's answer -/
theorem isinst_ok {x : V} {u t : Value} (I : Inv X pins σ H s) (rx : RelV x u) (ty : TyOf X.K H x t) (e : PySem.W.kitOne X.K t c = some b) (h : ∀ tk, Q (.bool b) { s with toks := tk }) :
    wpAny (model X.prog X.w) A (call (.builtin "isinstance") [u, c]) Q E s := by
  cases ty with
  | non => cases (show u = Value.none from rx); exact PySem.W.kia_one PySem.W.kitx_none I.kIn True.intro e (fun z => nomatch z) h
  | bl y => cases (show u = Value.bool y from rx); exact PySem.W.kia_one PySem.W.kitx_bool I.kIn True.intro e (fun z => nomatch z) h
  | int i => obtain ⟨t, q⟩ := (show ∃ t, u = Value.int i t from rx); cases q; exact PySem.W.kia_one PySem.W.kitx_int I.kIn True.intro e (fun z => nomatch z) h
  | str y => obtain ⟨t, q⟩ := (show ∃ t, u = Value.str y t from rx); cases q; exact PySem.W.kia_one PySem.W.kitx_str I.kIn True.intro e (fun z => nomatch z) h
  | flt y => obtain ⟨t, q⟩ := (show ∃ t, u = Value.float y t from rx); cases q; exact PySem.W.kia_one PySem.W.kitx_float I.kIn True.intro e (fun z => nomatch z) h
  | @lst a xs ea =>
    cases (show u = Value.ref a from rx)
    obtain ⟨_, _, n, _, h1⟩ := (show ObjOk X.prog X.w H s.heap a (.lst xs) from I.hok a _ ea)
    exact PySem.W.kia_one PySem.W.kitx_list I.kIn ⟨_, h1, rfl⟩ e (fun z => nomatch z) h
  | @frz a ob xs ea =>
    cases (show u = Value.ref a from rx)
    obtain ⟨_, _, _, n, _, h1⟩ := (show ObjOk X.prog X.w H s.heap a (.frz ob (.lst xs)) from I.hok a _ ea)
    exact PySem.W.kia_one PySem.W.kitx_list I.kIn ⟨_, h1, rfl⟩ e (fun z => nomatch z) h
  | @tup a xs ea =>
    cases (show u = Value.ref a from rx)
    obtain ⟨_, _, _, p⟩ := (show ObjOk X.prog X.w H s.heap a (.tup xs) from I.hok a _ ea)
    obtain ⟨o, h1, h2, _⟩ := p
    exact PySem.W.kia_one PySem.W.kitx_tuple I.kIn ⟨o, h1, h2⟩ e (fun z => nomatch z) h
  | @dK a kvs ea =>
    cases (show u = Value.ref a from rx)
    obtain ⟨_, _, vs, _, p⟩ := (show ObjOk X.prog X.w H s.heap a (.dK kvs) from I.hok a _ ea)
    obtain ⟨o, es, ep, h1, h2, _⟩ := p
    exact PySem.W.kia_one PySem.W.kitx_dict I.kIn ⟨o, h1, h2.1⟩ e (fun z => nomatch z) h
  | @dT a kvs ea =>
    cases (show u = Value.ref a from rx)
    obtain ⟨_, _, xs, _, o, es, ep, h1, h2, _⟩ := (show ObjOk X.prog X.w H s.heap a (.dT kvs) from I.hok a _ ea)
    exact PySem.W.kia_one PySem.W.kitx_dict I.kIn ⟨o, h1, h2.1⟩ e (fun z => nomatch z) h
  | @ins a C dx fs ea cl ha hn htk hm =>
    cases (show u = Value.ref a from rx)
    obtain ⟨mA, O, _⟩ := ins_get I.hok ea
    obtain ⟨od, J, _⟩ := O.look
    exact PySem.W.kia_one (PySem.W.kitx_own (cl.get _) cl.hd ha hn htk hm) I.kIn J e (fun z => nomatch z) h
end
end L2

namespace L2
open PySem PySem.Spec PyProof.Rows

/-! ### room -/
structure Room (k : Nat) (A : Around) : Prop where
  hd : A.handled = none
  dp : A.depth + 3 * k + 5 < recursionLimit
  un : A.units + 16 * k + 200 < cLine
theorem Room.mono {j k : Nat} {A : Around} (r : Room k A) (h : j ≤ k) : Room j A := ⟨r.hd, by have := r.dp; omega, by have := r.un; omega⟩
theorem Room.deeper {k : Nat} {A : Around} (r : Room (k + 1) A) (env : Env) : Room k (A.deeper env) :=
  ⟨r.hd, by have := r.dp; show A.depth + 1 + 3 * k + 5 < _; omega, by have := r.un; show A.units + 3 + 16 * k + 200 < _; omega⟩
theorem Room.in1 {k : Nat} {A : Around} (r : Room (k + 1) A) : Room k A.in1 :=
  ⟨r.hd, by have := r.dp; show A.depth + 3 * k + 5 < _; omega, by have := r.un; show A.units + 1 + 16 * k + 200 < _; omega⟩
theorem Room.depth {k : Nat} {A : Around} (r : Room k A) : A.depth < recursionLimit := by have := r.dp; omega
theorem Room.units {k : Nat} {A : Around} (r : Room k A) : A.units + 64 < cLine := by have := r.un; omega
/-! ### argument lists and displays -/
def tNil : TA := fun _ H Q => Q [] H
def tCons (ta : TE) (tr : TA) : TA := fun σ H Q => ta σ H fun x H1 => tr σ H1 fun xs H2 => Q (x :: xs) H2
section
variable {X : Cx} {e : Expr} {es : List Expr} {te : TE} {t : TA} {pos : Pos}
theorem pa_nil : PA X [] tNil := fun _ _ _ _ H Q I h => Calls.spliced_nil ⟨[], H, I, .nil, h⟩
theorem pa_cons (ha : PE X e te) (hr : PA X es t) (hs : starEach (e :: es) X.env = (false, eval e X.env) :: starEach es X.env := by rfl) : PA X (e :: es) (tCons te t) := by
  intro pos pins s σ H Q I h
  rw [hs]
  show wpAny _ _ (spliced ((false, eval e X.env) :: backTo pos (starEach es X.env))) _ _ s
  refine Calls.spliced_cons (thn (ha pins s σ H _ I h) fun u s1 ⟨x, H1, I1, r1, q1⟩ => ?_)
  exact thn (hr pos pins s1 σ H1 _ I1 q1) fun us s2 ⟨xs, H2, I2, r2, q2⟩ => ⟨x :: xs, H2, I2, .cons r1 r2, q2⟩

/-- a tuple, a list of written items -/
def tTup (t : TA) : TE := fun σ H Q => t σ H fun xs H1 => xs.length ≤ sizeLine ∧ ∀ p, H1 p = none → Q (.ref p) (upd H1 p (.tup xs))
def tLst (t : TA) : TE := fun σ H Q => t σ H fun xs H1 => xs.length ≤ sizeLine ∧ ∀ p, H1 p = none → Q (.ref p) (upd H1 p (.lst xs))
theorem pe_tup {x1} (h : PA X es t) : PE X (.Tuple es x1 pos) (tTup t) := by
  intro pins s σ H Q I hq
  refine wpAny_Tuple_spliced (thn (h pos pins s σ H _ I hq) fun us s1 ⟨xs, H1, I1, r, z, q⟩ => ⟨by rw [← r.length]; exact z, ?_⟩)
  have hf : H1 s1.heap.objs.size = none := I1.hok.fresh (Nat.le_refl _)
  refine ⟨.ref s1.heap.objs.size, upd H1 s1.heap.objs.size (.tup xs), I1.laid (t' := s1.toks) (fun b u e => Heap.get?_push_of_some _ e) (Nat.le_refl _) ?_, rfl, q _ hf⟩
  exact ⟨z, us, r, ⟨_, Heap.get?_push_size _ rfl, rfl, _, rfl⟩⟩
theorem pe_lst (h : PA X es t) : PE X (.List es pos) (tLst t) := by
  intro pins s σ H Q I hq
  refine wpAny_List_spliced (thn (h pos pins s σ H _ I hq) fun us s1 ⟨xs, H1, I1, r, z, q⟩ => ⟨by rw [← r.length]; exact z, ?_⟩)
  have hf : H1 s1.heap.objs.size = none := I1.hok.fresh (Nat.le_refl _)
  refine ⟨.ref s1.heap.objs.size, upd H1 s1.heap.objs.size (.lst xs), I1.laid (t' := s1.toks) (fun b u e => Heap.get?_push_of_some _ e) (Nat.le_refl _) ?_, rfl, q _ hf⟩
  exact ⟨z, us, 0, r, Heap.get?_push_size _ rfl⟩
end

/-! ### what a def promises -/
/-- a def's promise: the bound arguments in the parameters' order, the heap, the wanted end, the wanted exception -/
abbrev Sp := List V → Hp → VK → XK → Prop
/-- how an exception lies behind a call (file 08 gives it): the callers' frames, abstract heap and state ahead of the call, the wish, the exception, the state -/
abbrev CXT := List Env → Hp → Shared → XK → Value → Shared → Prop

/-- the state at a call -/
structure Env0 (P : Program) (w : World) (K : PySem.W.Frag) (mg : Str → Option Value) (base : Heap) (A : Around) (outer : List Env) (s : Shared) (H : Hp) : Prop where
  frames : A.frames = some outer
  mod : Mod K mg base
  bs : ∀ b o, base.get? b = some o → s.heap.get? b = some o ∧ H b = none
  bsz : base.objs.size ≤ s.heap.objs.size
  funs : s.heap.FunFrames base outer
  frf : ∀ b ∈ frs outer, H b = none
  hok : HOk P w H s.heap
  bare : AllBare s.gens
/-- a call's end -/
def CE (outer : List Env) (P : Program) (w : World) (H : Hp) (s : Shared) (Q : VK) (u : Value) (s' : Shared) : Prop :=
  ∃ v H', s'.os = s.os ∧ AllBare s'.gens ∧ Un (frs outer) [] H H' s.heap s'.heap ∧ HOk P w H' s'.heap ∧ RelV v u ∧ Q v H'
def CR (CX : CXT) (outer : List Env) (P : Program) (w : World) (H : Hp) (s : Shared) (Q : VK) (E : XK) (r : Result) (s' : Shared) : Prop :=
  match r with
  | .ok (.ret u) => CE outer P w H s Q u s'
  | .ok _ => False
  | .error e => CX outer H s E e s'
structure FnOk (P : Program) (w : World) (K : PySem.W.Frag) (mg : Str → Option Value) (base : Heap) (CX : CXT) (k : Nat) (f : Addr) (fd : FuncData) (ps : List Str) (sp : Sp) : Prop where
  len : ∀ vs H Q E, sp vs H Q E → vs.length = ps.length
  run : ∀ (A : Around) (outer : List Env) (s : Shared) (H : Hp) (args : Args) (us : List Value) (vs : List V) (Q : VK) (E : XK), Room k A → Env0 P w K mg base A outer s H → BindsTo s fd args (ps.zip us) → Vals vs us → sp vs H Q E →
    codeAny (model P w) A (.call (.ref f) args) (CR CX outer P w H s Q E) s
theorem FnOk.mono {P : Program} {w : World} {K : PySem.W.Frag} {mg : Str → Option Value} {base : Heap} {CX : CXT} {j k : Nat} {f : Addr} {fd : FuncData} {ps : List Str} {sp : Sp} (F : FnOk P w K mg base CX j f fd ps sp) (h : j ≤ k) :
    FnOk P w K mg base CX k f fd ps sp := ⟨F.len, fun A outer s H args us vs Q E hr => F.run A outer s H args us vs Q E (hr.mono h)⟩
theorem Env0.in1 {P : Program} {w : World} {K : PySem.W.Frag} {mg : Str → Option Value} {base : Heap} {A : Around} {outer : List Env} {s : Shared} {H : Hp} (e : Env0 P w K mg base A outer s H) :
    Env0 P w K mg base A.in1 outer s H := ⟨e.frames, e.mod, e.bs, e.bsz, e.funs, e.frf, e.hok, e.bare⟩

section
variable {X : Cx} {pins : List (Addr × Obj)} {σ : St} {H : Hp} {s s' : Shared}
/-- from a body: what a callee wants -/
theorem Inv.env0 (I : Inv X pins σ H s) : Env0 X.prog X.w X.K X.mg X.base X.A X.stack s H :=
  ⟨I.ok.frames, I.ok.mod, I.bs, Nat.le_trans I.ok.bsz I.sz, I.stack, I.stkFree, I.hok, I.bare⟩
/-- behind a call -/
theorem Inv.after {Q : VK} {u : Value} (I : Inv X pins σ H s) (h : CE X.stack X.prog X.w H s Q u s') : EP X pins σ Q u s' := by
  obtain ⟨v, H', os, bare, un, hok, r, q⟩ := h
  obtain ⟨hh, g, d, t, os'⟩ := s'
  obtain rfl : os' = s.os := os
  exact ⟨v, H', I.call (h' := hh) (g' := g) (d' := d) (t' := t) (ch := []) un hok bare (fun b z => absurd z (by simp)), r, q⟩
end

/-! ### calls -/
/-- f(..): the written arguments, then the defaults dvs; E: what is wanted of an exception -/
def tCall (sp : Sp) (dvs : List V) (E : XK) (t : TA) : TE := fun σ H Q => t σ H fun vs H1 => sp (vs ++ dvs) H1 Q E
/-- how the parameters are bound: us the positional arguments, kw the keywords' values by name, ds the defaults that fill up -/
def Binds (K : PySem.W.Frag) (fd : FuncData) (ps : List Str) (ds : List Value) : Prop :=
  ∀ (s : Shared) (us : List Value), K.In s.heap → (us ++ ds).length = ps.length → BindsTo s fd ⟨us, []⟩ (ps.zip (us ++ ds))
/-- every parameter is given -/
theorem Binds.all {K : PySem.W.Frag} {fd : FuncData} {ps : List Str} (h : ∀ us : List Value, us.length = ps.length → bindArgs fd ⟨us, []⟩ = pure (ps.zip us)) : Binds K fd ps [] := fun s us _ hl => by
  rw [List.append_nil] at hl ⊢
  exact .of_eq (h us hl)

/-- an exception of a callee reaches what this body wants of exceptions -/
def Passes (CX : CXT) (X : Cx) (E : XK) : Prop := ∀ (pins : List (Addr × Obj)) (σ : St) (H : Hp) (s : Shared) (e : Value) (s' : Shared), Inv X pins σ H s → CX X.stack H s E e s' → X.xe e s'

section
variable {X : Cx} {CX : CXT} {k : Nat} {f C : Addr} {fd : FuncData} {ps : List Str} {sp : Sp} {dvs : List V} {ds : List Value} {E : XK} {x m : Str} {p pos apos : Pos} {e o : Expr} {es : List Expr} {ta : TE} {t : TA}

/-- the callee runs -/
theorem run_fn {pins : List (Addr × Obj)} {σ : St} {H : Hp} {s : Shared} {Q : VK} {us : List Value} {vs : List V} (F : FnOk X.prog X.w X.K X.mg X.base CX k f fd ps sp) (hr : Room k X.A) (hb : Binds X.K fd ps ds) (hd : Vals dvs ds) (hx : Passes CX X E)
    (I : Inv X pins σ H s) (r : Vals vs us) (h : sp (vs ++ dvs) H Q E) : wpAny (model X.prog X.w) X.A (call (.ref f) us) (EP X pins σ Q) X.xe s := by
  have r2 : Vals (vs ++ dvs) (us ++ ds) := r.append hd
  have hl : (us ++ ds).length = ps.length := by rw [← r2.length]; exact F.len _ _ _ _ h
  refine wpAny_call (codeAny_mono (F.run X.A X.stack s H ⟨us, []⟩ (us ++ ds) (vs ++ dvs) Q E hr I.env0 (hb s us I.kIn hl) r2 h) fun r s' hq => ?_)
  cases r with
  | error e => exact hx pins σ H s e s' I hq
  | ok fl =>
    cases fl with
    | ret u => exact I.after hq
    | next => exact False.elim hq
    | brk => exact False.elim hq
    | cont => exact False.elim hq

theorem pe_call (F : FnOk X.prog X.w X.K X.mg X.base CX k f fd ps sp) (hr : Room k X.A) (hg : Gl X x) (hm : X.mg x = some (.ref f)) (hk : PySem.W.keepIn X.K (.ref f) = true) (hb : Binds X.K fd ps ds) (hd : Vals dvs ds) (hx : Passes CX X E)
    (ha : PA X (e :: es) t) (hdb : (x == ("__debug__" : Str)) = false := by decide) (he : starEach (e :: es) X.env = (false, eval e X.env) :: starEach es X.env := by rfl) (hpl : (backTo pos (starEach es X.env)).any (·.1) = false := by rfl) :
    PE X (.Call (.Name x p) (e :: es) [] pos) (tCall sp dvs E t) := by
  intro pins s σ H Q I h
  refine wpAny_Call_Name_kw (ld_glob I hg hm ?_ hdb)
  refine PySem.W.callWith_K (h₀ := X.base) I.ok.mod.kin hk (thn (ha pos pins s σ H _ I h) fun us s1 ⟨vs, H1, I1, r, q⟩ => ⟨I1.kIn, ?_⟩) he hpl
  exact run_fn F hr hb hd hx I1 r q
/-- what a class must have to be made -/
structure Mk (K : PySem.W.Frag) (C f : Addr) : Prop where
  makes : PySem.W.makesIn K C = true
  init : PySem.W.findIn K (.ref C) "__init__" = some (some (.ref f))
  fn : PySem.W.isFn K (.ref f) = true
  kp : PySem.W.keepIn K (.ref C) = true

end

/-! ### keywords -/
section
variable {X : Cx} {CX : CXT} {k : Nat} {f C : Addr} {fd : FuncData} {ps ks : List Str} {sp : Sp} {E : XK} {x m : Str} {p pos apos kpos : Pos} {e o : Expr} {es : List Expr} {kws : List Keyword} {te ta : TE} {t tk : TA} {nm : Option Str}
/-- how a call with keywords binds: g puts the positional values us and the keywords' values ws (names ks) in the parameters' order, defaults among them -/
structure KBinds (K : PySem.W.Frag) (fd : FuncData) (ps ks : List Str) (g : List Value → List Value → List Value) (gV : List V → List V → List V) : Prop where
  to : ∀ (s : Shared) (us ws : List Value), K.In s.heap → (g us ws).length = ps.length → BindsTo s fd ⟨us, ks.zip ws⟩ (ps.zip (g us ws))
  rel : ∀ {vs : List V} {us : List Value} {zs : List V} {ws : List Value}, Vals vs us → Vals zs ws → Vals (gV vs zs) (g us ws)
variable {g : List Value → List Value → List Value} {gV : List V → List V → List V}
end

/-! ### a def's body keeps its promise -/
/-- names: the parameters first -/
structure FnScope (N P : List Str) (sc : Scope) : Prop where
  kind : sc.kind = .function
  co : sc.isCoroutine = false
  gen : sc.isGenerator = false
  nd : N.Nodup
  pre : N.take P.length = P
  par : ∀ x ∈ P, sc.names.lookup x = some .local ∨ sc.names.lookup x = some .cell
  nofree : ∀ y ∈ sc.names, y.2 ≠ .free

theorem bindL_out {kindOf : Str → Option NameKind} {x : Str} : ∀ {binds : List (Str × Value)} {m : Str → Option Value}, (∀ v, (x, v) ∉ binds) → bindL kindOf binds m x = m x
  | [], _, _ => rfl
  | (n, v) :: r, m, h => by
    unfold bindL
    rw [bindL_out fun w hw => h w (List.mem_cons_of_mem _ hw)]
    split
    · have : x ≠ n := by rintro rfl; exact h v List.mem_cons_self
      simp [this]
    · rfl
theorem bindC_out {kindOf : Str → Option NameKind} {x : Str} : ∀ {binds : List (Str × Value)} {m : Str → Option Value}, (∀ v, (x, v) ∉ binds) → bindC kindOf binds m x = m x
  | [], _, _ => rfl
  | (n, v) :: r, m, h => by
    unfold bindC
    rw [bindC_out fun w hw => h w (List.mem_cons_of_mem _ hw)]
    split
    · rfl
    · have : x ≠ n := by rintro rfl; exact h v List.mem_cons_self
      simp [this]
theorem bindL_get {kindOf : Str → Option NameKind} {x : Str} {v : Value} : ∀ {P : List Str} {vs : List Value} {i : Nat} {m : Str → Option Value}, P.Nodup → P[i]? = some x → vs[i]? = some v → kindOf x = some .local →
    bindL kindOf (P.zip vs) m x = some v
  | [], _, _, _, _, h, _, _ => by simp at h
  | _ :: _, [], _, _, _, _, h, _ => by simp at h
  | p :: P, w :: vs, 0, m, nd, h1, h2, hk => by
    simp at h1 h2; subst h1; subst h2
    show bindL kindOf ((p, w) :: P.zip vs) m p = _
    unfold bindL
    rw [bindL_out fun v hv => (List.nodup_cons.mp nd).1 (List.of_mem_zip hv).1, if_pos hk]
    simp
  | p :: P, w :: vs, i + 1, m, nd, h1, h2, hk => by
    show bindL kindOf ((p, w) :: P.zip vs) m x = _
    unfold bindL
    exact bindL_get (i := i) (List.nodup_cons.mp nd).2 (by simpa using h1) (by simpa using h2) hk
theorem bindC_get {kindOf : Str → Option NameKind} {x : Str} {v : Value} : ∀ {P : List Str} {vs : List Value} {i : Nat} {m : Str → Option Value}, P.Nodup → P[i]? = some x → vs[i]? = some v → kindOf x ≠ some .local →
    bindC kindOf (P.zip vs) m x = some v
  | [], _, _, _, _, h, _, _ => by simp at h
  | _ :: _, [], _, _, _, _, h, _ => by simp at h
  | p :: P, w :: vs, 0, m, nd, h1, h2, hk => by
    simp at h1 h2; subst h1; subst h2
    show bindC kindOf ((p, w) :: P.zip vs) m p = _
    unfold bindC
    rw [bindC_out fun v hv => (List.nodup_cons.mp nd).1 (List.of_mem_zip hv).1, if_neg hk]
    simp
  | p :: P, w :: vs, i + 1, m, nd, h1, h2, hk => by
    show bindC kindOf ((p, w) :: P.zip vs) m x = _
    unfold bindC
    exact bindC_get (i := i) (List.nodup_cons.mp nd).2 (by simpa using h1) (by simpa using h2) hk

/-- the names' values at the entry -/
def start (N : List Str) (vs : List V) : St := vs.map some ++ List.replicate (N.length - vs.length) none

/-- the context of a def's body, at its entry; an exception leaves the frame, then lies as CX says -/
def cxOf (CX : CXT) (P : Program) (w : World) (K : PySem.W.Frag) (mg : Str → Option Value) (base : Heap) (N : List Str) (qual : Str) (scope : Scope) (f : Addr) (cd : Value) (A : Around) (outer : List Env) (s : Shared) (H : Hp) (E : XK) : Cx where
  prog := P
  w := w
  K := K
  mg := mg
  base := base
  A := A.deeper (envOfC qual scope s.heap.objs.size f cd)
  N := N
  s₀ := s
  H₀ := H
  env := envOfC qual scope s.heap.objs.size f cd
  outer := outer
  stack := envOfC qual scope s.heap.objs.size f cd :: outer
  ex := []
  calm := true
  fn := fun _ => true
  pn := []
  xe := fun e s' => wpAny (model P w) (A.deeper (envOfC qual scope s.heap.objs.size f cd)) (leaving (envOfC qual scope s.heap.objs.size f cd) e) (fun _ s'' => CX outer H s E e s'') (fun e' s'' => CX outer H s E e' s'') s'

theorem cell_has {sc : Scope} {n : Nat} {x : Str} (h : sc.names.lookup x = some .cell) : ∃ c, (cellsFrom n sc.names []).lookup x = some c := by
  have q := PySem.W.cellsFrom_some sc.names n [] (.inl h)
  exact Option.isSome_iff_exists.mp q

theorem inv_start {CX : CXT} {P : Program} {w : World} {K : PySem.W.Frag} {mg : Str → Option Value} {base : Heap} {N ps : List Str} {qual : Str} {scope : Scope} {f : Addr} {cd : Value} {A : Around} {outer : List Env} {s s1 : Shared} {H : Hp} {E : XK} {us : List Value} {vs : List V}
    (S : FnScope N ps scope) (hd : A.handled = none) (e0 : Env0 P w K mg base A outer s H) (hl : vs.length = ps.length) (r : Vals vs us)
    (x : InCallC s s.heap.objs.size (bindL (envOfC qual scope s.heap.objs.size f cd).kindOf (ps.zip us) fun _ => none) (cellsFrom (s.heap.objs.size + 1) scope.names []) (bindC (envOfC qual scope s.heap.objs.size f cd).kindOf (ps.zip us) fun _ => none) s1) :
    Inv (cxOf CX P w K mg base N qual scope f cd A outer s H E) [] (start N vs) H s1 := by
  have hpl : ps.length ≤ N.length := by have := congrArg List.length S.pre; rw [List.length_take] at this; omega
  obtain ⟨h1, tk, rfl, hk⟩ := x.done
  have noA : ∀ b : Addr, b ∉ (cxOf CX P w K mg base N qual scope f cd A outer s H E).ex := fun b z => absurd (show b ∈ ([] : List Addr) from z) (by simp)
  refine ⟨⟨e0.mod, S.kind, rfl, rfl, Nat.le_refl _, fun y z c h1 h2 => ?_, fun y hy => ?_, fun y c _ h => ?_, fun _ => hd, Around.frames_deeper e0.frames, .inr ⟨rfl, rfl⟩, fun b z => absurd z (noA b), e0.bs, e0.bsz, fun b _ _ => noA b, fun b z => absurd z (noA b), e0.funs, e0.frf⟩,
    rfl, e0.bare, Un.kept hk, ⟨_, x.toInCall.ns, fun i y v h1 h2 h3 => ?_⟩, fun y c h => ⟨_, x.cell y c h⟩, e0.hok.fresh (Nat.le_refl _), fun y c h => ?_, fun p hp => absurd (show p ∈ ([] : List (Addr × Obj)) from hp) (by simp), e0.hok.kept hk, ?_⟩
  · exact name_of_addr x.apart (PySem.mem_of_lookup h1) (PySem.mem_of_lookup h2)
  · have hy : scope.names.lookup y = some .cell ∨ scope.names.lookup y = some .free := hy
    rcases hy with hy | hy
    · exact cell_has hy
    · exact absurd rfl (S.nofree _ (PySem.mem_of_lookup hy))
  · exact Nat.le_of_lt (x.above y c (PySem.mem_of_lookup h))
  · have hi : i < vs.length := by
      unfold start at h2
      by_cases hi : i < vs.length
      · exact hi
      · rw [List.getElem?_append_right (by simpa using hi)] at h2
        rw [List.getElem?_replicate] at h2
        split at h2 <;> cases h2
    have ha : vs[i]? = some v := by
      unfold start at h2
      rw [List.getElem?_append_left (by simpa using hi), List.getElem?_map] at h2
      cases e : vs[i]? with
      | none => rw [e] at h2; cases h2
      | some a => rw [e] at h2; cases h2; rfl
    obtain ⟨u, hu, rv⟩ := r.get ha
    have hp : ps[i]? = some y := by
      rw [← S.pre, List.getElem?_take_of_lt (by omega)]; exact h1
    have ndP : ps.Nodup := by rw [← S.pre]; exact S.nd.sublist (List.take_sublist _ _)
    refine ⟨u, rv, ?_⟩
    rcases S.par y (List.mem_of_getElem? hp) with k | k
    · exact .inl ⟨k, bindL_get ndP hp hu k⟩
    · obtain ⟨c, e⟩ := cell_has (n := s.heap.objs.size + 1) k
      refine .inr ⟨.inl k, c, e, ?_⟩
      have q := x.cell y c e
      rw [bindC_get ndP hp hu (by show scope.names.lookup y ≠ _; rw [k]; decide)] at q
      exact q
  · exact e0.hok.fresh (Nat.le_of_lt (x.above y c (PySem.mem_of_lookup h)))
  · unfold start
    show _ = N.length
    rw [List.length_append, List.length_map, List.length_replicate]
    omega

/-- THE RULE: a def (or a method) of the text, by its body. The body's reading t is chosen for each entry; it is run at the parameters' values -/
theorem fn_of {CX : CXT} {P : Program} {w : World} {K : PySem.W.Frag} {mg : Str → Option Value} {base : Heap} {k : Nat} {f : Addr} {name qual : Str} {params : Arguments} {body : List Stmt} {scope : Scope} {dV kV doc pm cdv ct oc : Value} {an od : Option Addr}
    {osl : Array (Option Value)} {N ps : List Str} {sp : Sp} (lk : K.lookup f = some ⟨oc, od, .func (PySem.W.fnOf name qual params body scope dV kV doc pm an cdv ct), osl⟩) (hcd : PySem.W.codeIn K cdv qual = true) (S : FnScope N ps scope)
    (len : ∀ vs H Q E, sp vs H Q E → vs.length = ps.length)
    (hbody : ∀ (A : Around) (outer : List Env) (s : Shared) (H : Hp) (vs : List V) (Q : VK) (E : XK), Room k (A.deeper (envOfC qual scope s.heap.objs.size f cdv)) → sp vs H Q E →
      ∃ t, PSs (cxOf CX P w K mg base N qual scope f cdv A outer s H E) body t ∧ t { nx := fun _ H' => Q .non H', rt := Q } (start N vs) H) :
    FnOk P w K mg base CX (k + 1) f (PySem.W.fnOf name qual params body scope dV kV doc pm an cdv ct) ps sp := by
  refine ⟨len, fun A outer s H args us vs Q E hr e0 hb r hsp => ?_⟩
  have hl := len _ _ _ _ hsp
  have KX : K.In s.heap := e0.mod.kin.keeps fun b o e => (e0.bs b o e).1
  have lim : s.heap.NoLimit := e0.mod.nolimit.keeps fun b o e => (e0.bs b o e).1
  have hkind : ∀ y ∈ ps.zip us, scope.names.lookup y.1 = some .local ∨ (scope.names.lookup y.1 = some .cell ∧ ((cellsFrom (s.heap.objs.size + 1) scope.names []).lookup y.1).isSome = true) := fun ⟨n, v⟩ hy => by
    rcases S.par n (List.of_mem_zip hy).1 with q | q
    · exact .inl q
    · exact .inr ⟨q, PySem.W.cellsFrom_some _ _ _ (.inl q)⟩
  refine codeAny_call_function hr.depth (KX _ _ lk) rfl S.co S.gen rfl (PySem.W.codeRec_of KX hcd) (hb _ _ _ _ ?_)
  refine wpAny_newFunctionEnv_cells S.kind hkind fun env he s1 x => ?_
  subst he
  refine ⟨lim.keeps x.toInCall.keep, codeAny_func ?_⟩
  obtain ⟨t, ht, hq⟩ := hbody A outer s H vs Q E (hr.deeper _) hsp
  have I : Inv (cxOf CX P w K mg base N qual scope f cdv A outer s H E) [] (start N vs) H s1 := inv_start S hr.hd e0 hl r x
  refine wpAny_mono (ht [] s1 (start N vs) H _ I hq) (fun fl s' hs => ?_) fun e s' hs => hs
  have fin : ∀ {σ' : St} {H' : Hp} {v : V} {u : Value}, Inv (cxOf CX P w K mg base N qual scope f cdv A outer s H E) [] σ' H' s' → RelV v u → Q v H' → CE outer P w H s Q u s' :=
    fun {σ' H' v u} J rv q => ⟨v, H', J.os, J.bare, J.base, J.hok, rv, q⟩
  cases fl with
  | ret u =>
    obtain ⟨v, σ', H', J, rv, q⟩ := hs
    exact fin J rv q
  | next =>
    obtain ⟨σ', H', J, q⟩ := hs
    exact fin (v := V.non) (u := Value.none) J rfl q
  | brk =>
    obtain ⟨_, _, _, q⟩ := hs
    exact False.elim q
  | cont =>
    obtain ⟨_, _, _, q⟩ := hs
    exact False.elim q
end L2

namespace L2
open PySem PySem.Spec PyProof.Rows
section
variable {X : Cx} {x : Str} {p pos : Pos} {e : Expr} {es : List Expr} {t : TA} {id T : String} {r : List V → Hp → VK → Prop}

def tCB (r : List V → Hp → VK → Prop) (t : TA) : TE := fun σ H Q => t σ H fun vs H1 => r vs H1 Q
/-- f(e, ..), f a built-in function -/
theorem pe_callB (hc : CallR X (.builtin id) r) (hg : Gl X x) (hm : X.mg x = none) (hv : bootBuiltins x = some (.builtin id)) (ha : PA X (e :: es) t) (hn : x ≠ "__name__" := by decide) (hdb : (x == ("__debug__" : Str)) = false := by decide)
    (he : starEach (e :: es) X.env = (false, eval e X.env) :: starEach es X.env := by rfl) (hpl : (backTo pos (starEach es X.env)).any (·.1) = false := by rfl) : PE X (.Call (.Name x p) (e :: es) [] pos) (tCB r t) := by
  intro pins s σ H Q I h
  refine wpAny_Call_Name_kw (ld_blt I hg hm hv ?_ hn hdb)
  exact PyProof.Rows.callWith_builtin1 (thn (ha pos pins s σ H _ I h) fun us s1 ⟨vs, H1, I1, r1, q1⟩ => hc pins s1 σ H1 vs us Q I1 r1 q1) he hpl
/-- T(e, ..), T a built-in type -/
theorem pe_callTy (hc : CallR X (.type T) r) (hg : Gl X x) (hm : X.mg x = none) (hv : bootBuiltins x = some (.type T)) (ha : PA X (e :: es) t) (hn : x ≠ "__name__" := by decide) (hdb : (x == ("__debug__" : Str)) = false := by decide)
    (he : starEach (e :: es) X.env = (false, eval e X.env) :: starEach es X.env := by rfl) (hpl : (backTo pos (starEach es X.env)).any (·.1) = false := by rfl) : PE X (.Call (.Name x p) (e :: es) [] pos) (tCB r t) := by
  intro pins s σ H Q I h
  refine wpAny_Call_Name_kw (ld_blt I hg hm hv ?_ hn hdb)
  exact PyProof.Rows.callWith_type1 (thn (ha pos pins s σ H _ I h) fun us s1 ⟨vs, H1, I1, r1, q1⟩ => hc pins s1 σ H1 vs us Q I1 r1 q1) he hpl
end
end L2

namespace HT
open PySem PyProof.Rows

/-- t < u of tuples of ints -/
def lexLt : List Int → List Int → Bool
  | [], [] => false
  | [], _ :: _ => true
  | _ :: _, [] => false
  | x :: xs, y :: ys => if x = y then lexLt xs ys else decide (x < y)
section
open PySem.SeqAt
open PySem.AutoSeq1 (wpAny_loadPart')
open PySem.MeetsSeq PySem.MeetsSeq2 PySem.MeetsSeq3

end

section
variable {prog : Program} {w : World} {A : Around} {E : Value → Shared → Prop} {s : Shared}

/-! ### t[a:b], not the whole -/
/-- a slice's bound as a place among n (d where it is left out) -/
def sIx (n d : Nat) : Option Int → Nat
  | none => d
  | some v => if v < 0 then (v + (n : Int)).toNat else min v.toNat n
end
end HT

namespace L2
open PySem PySem.Spec PyProof.Rows

/-! ### the parts of a slice -/
abbrev TO := St → Hp → (Option Int → Hp → Prop) → Prop
section
variable {X : Cx} {e : Expr} {te : TE} {lo hi : Option Expr} {tl th : TO} {pos p2 : Pos}

/-- what a slice of a value is, by values: the slice object stands at sl -/
def SlR (X : Cx) (r : V → Option Int → Option Int → Hp → VK → Prop) : Prop :=
  ∀ (pins : List (Addr × Obj)) (s : Shared) (σ : St) (H : Hp) (x : V) (v vl vu : Value) (lo hi : Option Int) (sl : Addr) (Q : VK), Inv X pins σ H s → RelV x v → s.heap.IsSliceOf sl vl vu .none → IsPart vl lo → IsPart vu hi → r x lo hi H Q →
    ∃ T id, typeLookup (.type T) "__getitem__" = pure (some (.builtin id)) ∧ s.TypeIs v T ∧ wpAny (model X.prog X.w) X.A (getItem v (.ref sl)) (EP X pins σ Q) X.xe s
theorem SlR.or {r r' : V → Option Int → Option Int → Hp → VK → Prop} (h : SlR X r) (h' : SlR X r') : SlR X (fun x lo hi H Q => r x lo hi H Q ∨ r' x lo hi H Q) := by
  intro pins s σ H x v vl vu lo hi sl Q I rx hs pl pu q
  rcases q with q | q
  · exact h pins s σ H x v vl vu lo hi sl Q I rx hs pl pu q
  · exact h' pins s σ H x v vl vu lo hi sl Q I rx hs pl pu q
/-! ### t < u, t + u -/
end
end L2

namespace L2
open PySem PySem.Spec PyProof.Rows

/-! ### places -/
/-- the place that an index of any sign means -/
def ixN (n : Nat) (i : Int) : Option Nat := if 0 ≤ i then (if i < n then some i.toNat else none) else if -(n : Int) ≤ i then some (i + n).toNat else none
def atI {α : Type} (xs : List α) (i : Int) : Option α := (ixN xs.length i).bind fun j => xs[j]?
theorem ixN_seq {n : Nat} {i : Int} {j : Nat} (h : ixN n i = some j) : seqIndex? i n = some j ∧ j < n ∧ -(n : Int) ≤ i ∧ i < n := by
  unfold ixN at h
  by_cases h0 : 0 ≤ i
  · rw [if_pos h0] at h
    by_cases h1 : i < n
    · rw [if_pos h1] at h
      have e : i.toNat = j := Option.some.inj h
      exact ⟨by rw [seqIndex_of h0 h1, e], by omega, by omega, h1⟩
    · rw [if_neg h1] at h; cases h
  · rw [if_neg h0] at h
    by_cases h1 : -(n : Int) ≤ i
    · rw [if_pos h1] at h
      have e : (i + n).toNat = j := Option.some.inj h
      exact ⟨by rw [seqIndex_neg (by omega) h1, e], by omega, h1, by omega⟩
    · rw [if_neg h1] at h; cases h
theorem atI_get {α : Type} {xs : List α} {i : Int} {v : α} (h : atI xs i = some v) : ∃ j, seqIndex? i xs.length = some j ∧ xs[j]? = some v ∧ j < xs.length ∧ -(xs.length : Int) ≤ i ∧ i < xs.length := by
  unfold atI at h
  cases e : ixN xs.length i with
  | none => rw [e] at h; cases h
  | some j =>
    rw [e] at h
    obtain ⟨h1, h2, h3, h4⟩ := ixN_seq e
    exact ⟨j, h1, h, h2, h3, h4⟩
theorem atI_nat {α : Type} {xs : List α} {j : Nat} {v : α} (h : xs[j]? = some v) : atI xs (j : Int) = some v := by
  have hj : j < xs.length := (List.getElem?_eq_some_iff.mp h).1
  have e : ixN xs.length (j : Int) = some j := by
    unfold ixN
    rw [if_pos (by omega), if_pos (by omega)]; simp
  unfold atI; rw [e]; exact h
/-! ### what may be subscripted -/
/-- what stands as an index of a plain subscript -/
def PlainIx (b : Expr) : Prop := ∀ o i, subscripted b false o i = operate [o, i] (getItem o i)
/-- a subscript by values -/
def IxR (X : Cx) (r : R2) : Prop :=
  ∀ (value slice : Expr) (pins : List (Addr × Obj)) (s : Shared) (σ : St) (H : Hp) (x y : V) (v u : Value) (Q : VK), Inv X pins σ H s → RelV x v → RelV y u → r x y H Q →
    subscripted slice false v u = operate [v, u] (getItem v u) → wpAny (model X.prog X.w) X.A (subscriptTail value slice v u) (EP X pins σ Q) X.xe s
/-- a call of a builtin's method by values: the receiver, the arguments -/
def MtR (X : Cx) (id : String) (r : V → List V → Hp → VK → Prop) : Prop :=
  ∀ (pins : List (Addr × Obj)) (s : Shared) (σ : St) (H : Hp) (x : V) (xs : List V) (v : Value) (us : List Value) (Q : VK), Inv X pins σ H s → RelV x v → Vals xs us → r x xs H Q →
    wpAny (model X.prog X.w) X.A (call (.builtin id) (v :: us)) (EP X pins σ Q) X.xe s
section
variable {X : Cx} {a b : Expr} {ta tb : TE} {pos : Pos}
theorem IxR.or {r r' : R2} (h : IxR X r) (h' : IxR X r') : IxR X (fun x y H Q => r x y H Q ∨ r' x y H Q) := by
  intro value slice pins s σ H x y v u Q I rx ry q hs
  rcases q with q | q
  · exact h value slice pins s σ H x y v u Q I rx ry q hs
  · exact h' value slice pins s σ H x y v u Q I rx ry q hs
theorem MtR.or {id : String} {r r' : V → List V → Hp → VK → Prop} (h : MtR X id r) (h' : MtR X id r') : MtR X id (fun x xs H Q => r x xs H Q ∨ r' x xs H Q) := by
  intro pins s σ H x xs v us Q I rx rs q
  rcases q with q | q
  · exact h pins s σ H x xs v us Q I rx rs q
  · exact h' pins s σ H x xs v us Q I rx rs q
/-- a[b] -/
theorem pe_ix {r : R2} (hr : IxR X r) (ha : PE X a ta) (hb : PE X b tb) (hs : PlainIx b) : PE X (.Subscript a b pos) (tOp r ta tb) := by
  intro pins s σ H Q I h
  exact Subscript_ (binT ha hb I h fun v u s2 x y H2 I2 rx ry q => hr a b pins s2 σ H2 x y v u Q I2 rx ry q (hs _ _))

def rIxL (K : PySem.W.Frag) : R2 := fun x y H Q => ∃ p xs i v, x = .ref p ∧ y = .int i ∧ SqL K H p xs ∧ atI xs i = some v ∧ Q v H
def rIxT (K : PySem.W.Frag) : R2 := fun x y H Q => ∃ p xs i v, x = .ref p ∧ y = .int i ∧ SqT K H p xs ∧ atI xs i = some v ∧ Q v H
theorem ix_list : IxR X (rIxL X.K) := by
  intro value slice pins s σ H x y v u Q I rx ry h hs
  obtain ⟨p, xs, i, z, rfl, rfl, hq, he, q⟩ := h
  cases rx
  obtain ⟨t, rfl⟩ := ry
  obtain ⟨its, r, pl, hz⟩ := I.list hq
  obtain ⟨j, h1, h2, h3, h4, h5⟩ := atI_get he
  obtain ⟨w, ew, rw'⟩ := r.get h2
  have hl := r.length
  have hn := line63
  have fin : EP X pins σ Q w s := ⟨z, H, I, rw', q⟩
  by_cases h0 : 0 ≤ i
  · have hj : i.toNat = j := by
      rw [seqIndex_of h0 h5] at h1
      exact Option.some.inj h1
    exact item_listR pl.isList h0 (by omega) (by rw [hj]; simpa using ew) fin hs
  · have hj : (i + (its.toArray.size : Int)).toNat = j := by
      rw [seqIndex_neg (by omega) h4] at h1
      rw [List.size_toArray, ← hl]
      exact Option.some.inj h1
    exact subscriptTail_builtinR (x := w) pl.isList.typeIs slot_list_getitem.lookup
      (wpAny_getItem_list_neg (Q := fun r s' => r = w ∧ EP X pins σ Q r s') pl.isList (by omega) (by rw [List.size_toArray] <;> omega) (by omega) (by rw [hj]; simpa using ew) ⟨rfl, fin⟩) hs
theorem ix_tup : IxR X (rIxT X.K) := by
  intro value slice pins s σ H x y v u Q I rx ry h hs
  obtain ⟨p, xs, i, z, rfl, rfl, hq, he, q⟩ := h
  cases rx
  obtain ⟨t, rfl⟩ := ry
  obtain ⟨its, r, pl, hz⟩ := I.tuple hq
  obtain ⟨j, h1, h2, h3, h4, h5⟩ := atI_get he
  obtain ⟨w, ew, rw'⟩ := r.get h2
  have hl := r.length
  have hn := line63
  have fin : EP X pins σ Q w s := ⟨z, H, I, rw', q⟩
  exact subscriptTail_builtinR (x := w) pl.typeIs slot_tuple_getitem.lookup
    (getItem_tuple (j := j) (Q := fun r s' => r = w ∧ EP X pins σ Q r s') pl (by omega) (by omega) (by rw [List.size_toArray, ← hl]; exact h1) (by simpa using ew) ⟨rfl, fin⟩) hs
/-! ### xs[i] = v, any sign -/
theorem Inv.lst {pins : List (Addr × Obj)} {σ : St} {H : Hp} {s : Shared} {p : Addr} {xs : List V} (I : Inv X pins σ H s) (h : H p = some (.lst xs)) :
    ∃ (its : List Value) (n : Nat), Vals xs its ∧ s.heap.get? p = some { cls := .type "list", data := .seq its.toArray n } ∧ xs.length ≤ sizeLine := by
  obtain ⟨z, its, n, r, e⟩ := I.hok p _ h
  exact ⟨its, n, r, e, z⟩
/-! ### slices -/
/-! ### in, not in: flat items -/
/-! ### len, list(x), tuple(x) of any list or tuple that is read -/
theorem call_len_seq : CallR X (.builtin "len") (fun xs H Q => ∃ p ys, xs = [.ref p] ∧ (SqL X.K H p ys ∨ SqT X.K H p ys) ∧ Q (.int ys.length) H) := by
  intro pins s σ H xs us Q I r h
  obtain ⟨p, ys, rfl, hq, q⟩ := h
  obtain ⟨u, rfl, rx⟩ := vals1 r
  cases rx
  have hn := line63
  rcases hq with hq | hq
  · obtain ⟨its, r', pl, hz⟩ := I.list hq
    have hlen := r'.length
    exact Calls.call_len_list pl.isList (by simp only [List.size_toArray] <;> omega) ⟨.int ys.length, H, I.tok _, ⟨s.toks + 1, by rw [List.size_toArray, hlen]⟩, q⟩
  · obtain ⟨its, r', pl, hz⟩ := I.tuple hq
    have hlen := r'.length
    exact len_tuple pl (by simp only [List.size_toArray] <;> omega) ⟨.int ys.length, H, I.tok _, ⟨s.toks + 1, by rw [List.size_toArray, hlen]⟩, q⟩
theorem CallR.or {f : Value} {r r' : List V → Hp → VK → Prop} (h : CallR X f r) (h' : CallR X f r') : CallR X f (fun xs H Q => r xs H Q ∨ r' xs H Q) := by
  intro pins s σ H xs us Q I rs q
  rcases q with q | q
  · exact h pins s σ H xs us Q I rs q
  · exact h' pins s σ H xs us Q I rs q
theorem call_list_of : CallR X (.type "list") (fun xs H Q => ∃ p ys, xs = [.ref p] ∧ (SqL X.K H p ys ∨ SqT X.K H p ys) ∧ ∀ l, H l = none → Q (.ref l) (upd H l (.lst ys))) := by
  intro pins s σ H xs us Q I r h
  obtain ⟨p, ys, rfl, hq, q⟩ := h
  obtain ⟨u, rfl, rx⟩ := vals1 r
  cases rx
  have fin : ∀ (its : List Value), Vals ys its → ys.length ≤ sizeLine → ∀ (h' : Heap) (c' : Nat), (∀ b o', s.heap.get? b = some o' → h'.get? b = some o') →
      h'.get? s.heap.objs.size = some { cls := .type "list", dict := none, data := .seq its.toArray c', slots := #[] } → EP X pins σ Q (.ref s.heap.objs.size) { s with heap := h' } := fun its r' hz h' c' kp e =>
    ⟨.ref s.heap.objs.size, _, I.laid (t' := s.toks) kp (Nat.le_refl _) (show ObjOk X.prog X.w _ h' _ (.lst ys) from ⟨hz, its, c', r', e⟩), rfl, q _ (I.hok.fresh (Nat.le_refl _))⟩
  rcases hq with hq | hq
  · obtain ⟨its, r', pl, hz⟩ := I.list hq
    have hlen := r'.length
    obtain ⟨o, ho, hc, n, hd⟩ := pl.isList
    exact call_list_seq p (.inl rfl) ho hc hd (fun h' c' kp e => fin its r' hz h' c' kp e) (by simp only [List.size_toArray] <;> omega)
  · obtain ⟨its, r', pl, hz⟩ := I.tuple hq
    have hlen := r'.length
    obtain ⟨o, ho, hc, n, hd⟩ := pl
    exact call_list_seq p (.inr rfl) ho hc hd (fun h' c' kp e => fin its r' hz h' c' kp e) (by simp only [List.size_toArray] <;> omega)
theorem call_tuple_of : CallR X (.type "tuple") (fun xs H Q => ∃ p ys, xs = [.ref p] ∧ ((SqL X.K H p ys ∧ ∀ l, H l = none → Q (.ref l) (upd H l (.tup ys))) ∨ (SqT X.K H p ys ∧ Q (.ref p) H))) := by
  intro pins s σ H xs us Q I r h
  obtain ⟨p, ys, rfl, h⟩ := h
  obtain ⟨u, rfl, rx⟩ := vals1 r
  cases rx
  rcases h with ⟨hq, q⟩ | ⟨hq, q⟩
  · obtain ⟨its, r', pl, hz⟩ := I.list hq
    have hlen := r'.length
    refine call_tuple_list pl.isList (fun h' kp => ?_) (by simp only [List.size_toArray] <;> omega)
    have I1 : Inv X pins σ H { s with heap := h' } := I.kept (t' := s.toks) kp
    have I2 : Inv X pins σ (upd H h'.objs.size (.tup ys)) { s with heap := h'.push { cls := .type "tuple", data := .seq its.toArray } } :=
      I1.laid (t' := s.toks) (fun b o e => Heap.get?_push_of_some _ e) (Nat.le_refl _) (show ObjOk X.prog X.w _ _ _ (.tup ys) from ⟨hz, its, r', IsTup.new _ _⟩)
    exact ⟨.ref h'.objs.size, _, I2, rfl, q _ (I1.hok.fresh (Nat.le_refl _))⟩
  · obtain ⟨its, r', pl, hz⟩ := I.tuple hq
    exact call_tuple_same pl ⟨.ref p, H, I, rfl, q⟩

/-! ### the call of a builtin's method: o.m(..) -/
/-- the value is of that builtin type -/
def tyV (K : PySem.W.Frag) (T : String) (x : V) (H : Hp) : Prop := match x with
  | .str _ => T = "str"
  | .int _ => T = "int"
  | .ref p => (T = "list" ∧ ∃ xs, SqL K H p xs) ∨ (T = "tuple" ∧ ∃ o, K.lookup p = some o ∧ o.cls = .type "tuple" ∧ o.dict = none) ∨
      (T = "dict" ∧ ((∃ kvs, H p = some (.dK kvs)) ∨ ∃ kvs, H p = some (.dT kvs))) ∨ (T = "set" ∧ ∃ S n, H p = some (.set S n))
  | _ => False
theorem tyV_is {pins : List (Addr × Obj)} {σ : St} {H : Hp} {s : Shared} {T : String} {x : V} {v : Value} (I : Inv X pins σ H s) (r : RelV x v) (ty : tyV X.K T x H) :
    s.TypeIs v T ∧ ∀ a, v = .ref a → ∃ ob, s.heap.get? a = some ob ∧ ob.dict = none := by
  cases x with
  | str z =>
    obtain ⟨t, rfl⟩ := r
    cases (show T = "str" from ty)
    exact ⟨typeIs_str s z t, fun _ e => nomatch e⟩
  | int i =>
    obtain ⟨t, rfl⟩ := r
    cases (show T = "int" from ty)
    exact ⟨typeIs_int s i t, fun _ e => nomatch e⟩
  | ref p =>
    cases r
    rcases ty with ⟨rfl, xs, hq⟩ | ⟨rfl, o, hk, hc, hd⟩ | ⟨rfl, hk⟩ | ⟨rfl, S, n, hk⟩
    · obtain ⟨its, _, pl, _⟩ := I.list hq
      refine ⟨pl.isList.typeIs, fun a e => ?_⟩
      cases e
      obtain ⟨o, n, e, c, hd, _⟩ := pl
      exact ⟨o, e, hd⟩
    · refine ⟨⟨o, I.kIn p o hk, hc⟩, fun a e => ?_⟩
      cases e
      exact ⟨o, I.kIn _ o hk, hd⟩
    · have z : ∃ o, s.heap.get? p = some o ∧ o.ExactDict := by
        rcases hk with ⟨kvs, hk⟩ | ⟨kvs, hk⟩
        · obtain ⟨_, _, _, _, o, _, _, e, ex, _⟩ := I.hok p _ hk
          exact ⟨o, e, ex⟩
        · obtain ⟨_, _, _, _, o, _, _, e, ex, _⟩ := I.hok p _ hk
          exact ⟨o, e, ex⟩
      obtain ⟨o, e, ex⟩ := z
      refine ⟨⟨o, e, ex.1⟩, fun a e2 => ?_⟩
      cases e2
      exact ⟨o, e, ex.2.1⟩
    · obtain ⟨o, _, _, _, e, ex, _⟩ := I.hok p _ hk
      refine ⟨⟨o, e, ex.1⟩, fun a e2 => ?_⟩
      cases e2
      exact ⟨o, e, ex.2.1⟩
  | _ => exact False.elim ty
def tBM (K : PySem.W.Frag) (T : String) (r : V → List V → Hp → VK → Prop) (to : TE) (t : TA) : TE := fun σ H Q => to σ H fun x H1 => tyV K T x H1 ∧ t σ H1 fun xs H2 => r x xs H2 Q
variable {o e : Expr} {es : List Expr} {to : TE} {t : TA} {name : Str} {apos cpos : Pos} {T id : String} {r : V → List V → Hp → VK → Prop}
theorem pe_bm (pa : PlainAttrs T) (slot : Slot T name id) (hty : typeOf (.builtin id) = pure (.type "method_descriptor")) (hm : MtR X id r) (ho : PE X o to) (ha : PA X (e :: es) t)
    (hbase : attributeBase o name X.env (eval o X.env) = eval o X.env := by rfl)
    (hfew : ((backTo cpos (starEach (e :: es) X.env)).all (fun x => !x.1) && (backToKw cpos (keywordEach [] X.env)).all (fun x => x.1.isSome)
      && decide ((e :: es).length + ([] : List Keyword).length + (if ([] : List Keyword).isEmpty then 0 else 1) < 30)) = true := by rfl)
    (hline : (apos.endLine == cpos.line) = true := by rfl) (hs : starEach (e :: es) X.env = (false, eval e X.env) :: starEach es X.env := by rfl) (hplain : (backTo cpos (starEach es X.env)).any (·.1) = false := by rfl) :
    PE X (.Call (.Attribute o name apos) (e :: es) [] cpos) (tBM X.K T r to t) := by
  intro pins s σ H Q I h
  refine wpAny_Call_method_late hbase hfew hline rfl (thn (ho pins s σ H _ I h) fun v s1 ⟨x, H1, I1, r1, ty, q1⟩ => ?_)
  obtain ⟨h1, h2⟩ := tyV_is I1 r1 ty
  refine ⟨T, id, pa, slot, hty, h1, h2, ?_⟩
  have hA := ha cpos pins s1 σ H1 _ I1 q1
  rw [hs] at hA ⊢
  refine Calls.callWith_builtin (by show (false || (backTo cpos (starEach es X.env)).any (·.1)) = false; rw [hplain] <;> rfl) (Calls.evalArgs_plain ?_)
  exact thn hA fun us s2 ⟨vs, H2, I2, r2, q2⟩ => hm pins s2 σ H2 x vs v us Q I2 r1 r2 q2
/- xs.append(e), list.index on a module's tuple .. are MtR facts of 06m -/
end
end L2

namespace L2
open PySem PySem.Spec PyProof.Rows

def MtM (X : Cx) (id : String) (r : V → List V → Hp → VK → Prop) : Prop :=
  ∀ (pins : List (Addr × Obj)) (s : Shared) (σ : St) (H : Hp) (x : V) (xs : List V) (v : Value) (us : List Value) (Q : VK), Inv X pins σ H s → RelV x v → Vals xs us → r x xs H Q →
    wpAny (model X.prog X.w) X.A (call (.builtin id) (v :: us)) (EP X pins σ Q) X.xe s

/-! ### lists of values -/
theorem Vals.one : ∀ {x : V} {us : List Value}, Vals [x] us → ∃ u, us = [u] ∧ RelV x u
  | _, _, .cons r .nil => ⟨_, rfl, r⟩
theorem Vals.two : ∀ {x y : V} {us : List Value}, Vals [x, y] us → ∃ u v, us = [u, v] ∧ RelV x u ∧ RelV y v
  | _, _, _, .cons r (.cons q .nil) => ⟨_, _, rfl, r, q⟩
theorem Vals.zero : ∀ {us : List Value}, Vals [] us → us = []
  | _, .nil => rfl
theorem Vals.dropLast {xs : List V} {us : List Value} (h : Vals xs us) : Vals xs.dropLast us.dropLast := by
  induction h with
  | nil => exact .nil
  | cons r t ih =>
    cases t with
    | nil => exact .nil
    | cons q t' => exact .cons r ih
theorem Vals.reverse {xs : List V} {us : List Value} (h : Vals xs us) : Vals xs.reverse us.reverse := by
  induction h with
  | nil => exact .nil
  | cons r t ih => rw [List.reverse_cons, List.reverse_cons]; exact Vals.append ih (.cons r .nil)
section
variable {X : Cx} {pins : List (Addr × Obj)} {σ : St} {H : Hp} {s : Shared} {l b : Addr} {xs ys zs : List V}

/-! ### the two steps: a tracked list is rewritten, a new list is laid -/
theorem Inv.lset {its its' : List Value} {n : Nat} {f : Array Value → Array Value} {t' : Nat} (I : Inv X pins σ H s) (hH : H l = some (.lst xs))
    (e : s.heap.get? l = some { cls := .type "list", data := .seq its.toArray n }) (hf : f its.toArray = its'.toArray) (hv : Vals ys its') (hz : ys.length ≤ sizeLine) :
    Inv X pins σ (upd H l (.lst ys)) { s with heap := s.heap.update l (Obj.mapSeq f), toks := t' } := by
  have q := PySem.IsL.update e f
  rw [hf] at q
  refine I.write (x := l) (e := l) (by rw [hH]; exact trivial) (.inl rfl) (fun b' u hb hu => (Heap.get?_update_other s.heap (Obj.mapSeq f) (Ne.symm hb)).trans hu) ⟨_, q⟩ ?_
  exact ⟨hz, its', _, hv, q⟩
theorem Inv.fresh (I : Inv X pins σ H s) : H s.heap.objs.size = none := I.hok.fresh (Nat.le_refl _)
theorem Inv.lstM (I : Inv X pins σ H s) (hH : H l = some (.lst xs)) : xs.length ≤ sizeLine ∧ ∃ (its : List Value) (n : Nat), Vals xs its ∧ xs.length = its.length ∧ s.heap.get? l = some { cls := .type "list", data := .seq its.toArray n } := by
  obtain ⟨z, its, n, r, e⟩ := I.hok l _ hH
  exact ⟨z, its, n, r, r.length, e⟩

end

section
variable {X : Cx}

/-! ### methods -/
def rAppend : V → List V → Hp → VK → Prop := fun x vs H Q => ∃ l xs y, x = .ref l ∧ vs = [y] ∧ H l = some (.lst xs) ∧ xs.length < sizeLine ∧ Q .non (upd H l (.lst (xs ++ [y])))
theorem mt_append : MtM X "list.append" rAppend := by
  intro pins s σ H x vs v us Q I rx rv h
  obtain ⟨l, xs, y, rfl, rfl, hH, hz, q⟩ := h
  cases rx
  obtain ⟨u, rfl, ru⟩ := rv.one
  obtain ⟨z, its, n, r, hl, e⟩ := I.lstM hH
  refine call_meets F.slot_list_append ⟨_, e, rfl⟩ F.entry_list_append (F.args_list_append_2 _ _) (PySem.list_append l its.toArray n u (by rw [List.size_toArray]; omega)) ⟨e, ?_⟩
  refine ⟨.non, _, I.lset (its' := its ++ [u]) hH e (by simp) (r.append (.cons ru .nil)) ?_, rfl, q⟩
  rw [List.length_append, List.length_singleton]
  omega

/-! ### list + list, list += list, list * int -/
/-! ### del xs[i] -/
end

/-! ### xs[a:b] = ys -/
section
variable {prog : Program} {w : World} {A : Around} {E : Value → Shared → Prop} {s : Shared}
end

section
variable {X : Cx}
end
end L2

namespace Att
open PySem PySem.W PySem.Calls PyProof.Rows

/-! ### the script -/
theorem ints_of_wellAll {P : Params} {h : Heap} : ∀ (ns : List Int) (vs : List Value), WellAll P h vs (ns.map WData.int) → IntsAre vs ns := by
  intro ns
  induction ns with
  | nil =>
    intro vs w
    rw [List.map_nil] at w
    cases w
    exact .nil
  | cons n ns ih =>
    intro vs w
    rw [List.map_cons] at w
    cases w with
    | cons a b =>
      cases a
      exact .cons _ _ (ih _ b)

theorem script_of {l : OpenLaw} {n : Nat} (hn : l.most = some n) {P : Params} {h : Heap} {args : List WData} {vals : List Value}
    (hpre : l.row.toRowW.claim.pre args = true) (hwl : WellAll P h vals args) :
    ∃ a vs ns, vals = [Value.ref a] ∧ args = [WData.list (ns.map WData.int)] ∧ h.get? a = some { cls := .type "list", data := .seq vs.toArray } ∧ IntsAre vs ns ∧ ns.length ≤ n := by
  have hsh : WShape.hasAll [] args [.list .int] = true := (pre_splitW hpre).1
  have hc : l.pre.holds [] { args := args } = true := (pre_splitW hpre).2
  obtain ⟨d, r, rfl, h1, h2⟩ := hasAllW_cons hsh
  obtain rfl := hasAllW_nil h2
  obtain ⟨xs, rfl, h3⟩ := hasW_list h1
  obtain ⟨ns, rfl⟩ := items_int h3
  have hlen : ns.length ≤ n := by
    unfold OpenLaw.pre at hc
    have h4 : (WTm.not (.lt (.lit (.int (n : Int))) (.len (.arg 0)))).holds [] { args := [.list (ns.map .int)] } = true := by
      have h4 := (holds_andW hc).1
      rw [hn] at h4
      exact h4
    have h5 := condW_of h4 (w_not (w_lt w_lit (w_len_list (w_arg rfl))))
    rw [List.length_map] at h5
    refine Nat.le_of_not_lt fun q => ?_
    have q' : (n : Int) < ((ns.length : Nat) : Int) := by omega
    first
      | (rw [decide_eq_true q'] at h5; exact absurd h5 (by decide))
      | (simp at h5; omega)
  cases hwl with
  | cons w1 w2 =>
    cases w2
    cases w1 with
    | list ho hall => exact ⟨_, _, ns, rfl, rfl, ho, ints_of_wellAll ns _ hall, hlen⟩

theorem post_true (l : OpenLaw) (args : List WData) : l.row.toRowW.claim.post args (.bool true) args = true :=
  postW_of (r := l.row.toRowW) (X := (true == true))
    (show WShape.has [] (.bool true) .bool = true by first | rfl | decide | simp [WShape.has, WShape.arms, WShape.armsAll])
    (show (WTm.eq .res (.lit (.bool true))).value [] { args := args, res := some (.bool true), after := args } = some (.bool (true == true)) from w_eq_bool (w_res rfl) w_lit) rfl

/-! ### the attachment: holds_open's last premise (the goal 'hc' behind k_head) from a wpAny of the law's body -/
/-- the same from a codeAny of the CALL (for a layer whose function contracts speak of calls) -/
theorem attach_call {l : OpenLaw} {n : Nat} {q : Program} {loose : List Str} {XP : (Str → Option Value) → Heap → Prop} {YP : World → Heap → Prop} {d : DefRec}
    (hn : l.most = some n) (hdf : d.params.defaults = [])
    (call : ∀ (w : World) (s₀ s₁ : Shared) (mg mb : Str → Option Value) (fa : Addr) (o : Obj) (pm cd doc : Value) (a : Addr) (vs : List Value) (ns : List Int),
      Ground q loose [] XP w s₀ mg mb s₁.heap → YP w s₁.heap →
      s₁.heap.get? fa = some o → o.data = .func (docDef d.name d.params d.body d.scope pm cd doc) → s₁.heap.CodeRec cd d.name → mg d.name = some (.ref fa) →
      s₁.heap.get? a = some { cls := .type "list", data := .seq vs.toArray } → IntsAre vs ns → ns.length ≤ n → s₁.gens = #[] →
      codeAny (model l.prog w) callerA (.call (.ref fa) ⟨[.ref a], []⟩) (fun r s' => r = .ok (.ret (.bool true)) ∧ OldK s₁.heap s'.heap ∧ s'.os = s₁.os ∧ AllBare s'.gens) s₁) :
    WalkO q loose XP YP l.row.toRowW d [] (fun f vs => PySem.call f vs) := by
  intro w s₀ s₁ mg mb G Y fa o pm cd doc dV kV ho hd hcd hD hmg hg args vals as hpre hlay hrd hwl hlo
  obtain rfl : dV = .none := Dflts.none hD hdf
  obtain rfl : kV = .none := Dflts.noKw hD
  obtain ⟨a, vs, ns, rfl, rfl, hobj, hints, hlen⟩ := script_of hn hpre hwl
  refine enter_call (codeAny_mono (call w s₀ s₁ mg mb fa o pm cd doc a vs ns G Y ho (fd_plain hd) hcd hmg hobj hints hlen hg) fun r s' hq => ?_)
  obtain ⟨rfl, h2, h3, h4⟩ := hq
  exact ⟨.inl ⟨.bool true, .bool true, [], rfl, fun _ => rfl, .bool true, post_true l _, fun _ => ⟨List.Pairwise.nil, fun _ hm => (nomatch hm)⟩⟩, h2, h3, h4⟩

/-! ### rules over ANY heap (no ledger) from facts about the written part K: the library's own take a ledger (News) for what they write -/
section
variable {prog : Program} {w : World} {A : Around} {E : Value → Shared → Prop} {s : Shared} {K : Frag}

/-! the whole heap as the ledger: makes every rule that writes through a ledger a rule over any heap -/
def ledger (h : Heap) (L d : Addr) : List (Addr × Obj) := (List.range h.objs.size).filterMap fun a => if a = L ∨ a = d then none else (h.get? a).map fun o => (a, o)
end
end Att

namespace L2
open PySem PySem.Spec PyProof.Rows

theorem vals_ints : ∀ {vs : List Value} {ns : List Int}, IntsAre vs ns → Vals (ns.map V.int) vs
  | _, _, .nil => .nil
  | _, _, .cons n t h => .cons ⟨t, rfl⟩ (vals_ints h)

/-- nothing is tracked but the script, known to the object (or it is an object of the module) -/
def Only (H : Hp) : Prop := ∀ b, H b = none ∨ ∃ o xs, H b = some (.frz o (.lst xs))

/-- THE HEAD: the law's promise, at the heap behind the top. F, the promise of the law's def, may use that base is part of the heap (so K.In base, base.Ns mainGlobals mg stand in Mod) -/
theorem law_call {P : Program} {w : World} {K : PySem.W.Frag} {mg mb : Str → Option Value} {CX : CXT} {k : Nat} {fa a : Addr} {fd : FuncData} {x : Str} {sp : Sp} {s₁ : Shared} {vs : List Value} {ns : List Int}
    (KX : K.In s₁.heap) (hns : s₁.heap.Ns mainGlobals mg) (hb : s₁.heap.Ns builtinsNs mb) (hbb : ∀ x : Str, x ≠ "__name__" → mb x = bootBuiltins x) (hlim : s₁.heap.NoLimit) (hg : s₁.gens = #[])
    (ha : s₁.heap.get? a = some { cls := .type "list", data := .seq vs.toArray }) (hi : IntsAre vs ns) (hl : ns.length ≤ sizeLine) (hr : Room k callerA)
    (F : ∀ base : Heap, K.In base → base.Ns mainGlobals mg → FnOk P w K mg base CX k fa fd [x] sp) (hbind : ∀ (s : Shared) (u : Value), BindsTo s fd ⟨[u], []⟩ [(x, u)])
    (hsp : ∀ H : Hp, Only H → SqL K H a (ns.map V.int) → sp [.ref a] H (fun v _ => v = .bl true) fun _ _ _ => False)
    (hCX : ∀ H e s', CX [] H s₁ (fun _ _ _ => False) e s' → False) :
    codeAny (model P w) callerA (.call (.ref fa) ⟨[.ref a], []⟩) (fun r s' => r = .ok (.ret (.bool true)) ∧ OldK s₁.heap s'.heap ∧ s'.os = s₁.os ∧ AllBare s'.gens) s₁ := by
  have rv := vals_ints hi
  have lenV := hi.length
  -- from an abstract heap in which nothing but the script may be tracked
  have core : ∀ H : Hp, Only H → SqL K H a (ns.map V.int) → HOk P w H s₁.heap → (∀ b, H b ≠ none → b = a) → (H a ≠ none → K.lookup a = none) →
      codeAny (model P w) callerA (.call (.ref fa) ⟨[.ref a], []⟩) (fun r s' => r = .ok (.ret (.bool true)) ∧ OldK s₁.heap s'.heap ∧ s'.os = s₁.os ∧ AllBare s'.gens) s₁ := by
    intro H hO hS hok hA hK
    have base_of : ∀ {b : Addr} {o : Obj}, s₁.heap.get? b = some o → H b = none → (hidT s₁.heap H).get? b = some o := fun e n => hidT_get e n
    have noA : ∀ {b : Addr} {o : Obj} {es : Array DictEntry} {ep : Nat}, s₁.heap.get? b = some o → o.data = .dict es ep → H b = none := fun {b o es ep} e d => by
      cases q : H b with
      | none => rfl
      | some u =>
        have e' : b = a := hA b (by rw [q]; simp)
        subst e'
        rw [ha] at e; cases e
        have d' : Data.seq vs.toArray _ = Data.dict es ep := d
        cases d'
    have nsK : ∀ {b : Addr} {m : Str → Option Value}, s₁.heap.Ns b m → (hidT s₁.heap H).Ns b m := fun {b m} ⟨o, es, ep, e, d, r⟩ => ⟨o, es, ep, base_of e (noA e d), d, r⟩
    have hKb : K.In (hidT s₁.heap H) := fun b o e => base_of (KX b o e) (by
      cases q : H b with
      | none => rfl
      | some u =>
        have e' : b = a := hA b (by rw [q]; simp)
        subst e'
        rw [hK (by rw [q]; simp)] at e; cases e)
    have hM : Mod K mg (hidT s₁.heap H) := ⟨hKb, nsK hns, ⟨mb, nsK hb, hbb⟩, let ⟨mc, h1, h2⟩ := hlim; ⟨mc, nsK h1, h2⟩⟩
    have e0 : Env0 P w K mg (hidT s₁.heap H) callerA [] s₁ H := ⟨rfl, hM, fun b o e => of_hidT e, Nat.le_of_eq (hidT_size _ _), trivial, fun b hb => absurd (show b ∈ ([] : List Addr) from hb) (by simp), hok, .of_eq hg⟩
    refine codeAny_mono ((F _ hKb (nsK hns)).run callerA [] s₁ H ⟨[.ref a], []⟩ [.ref a] [.ref a] _ _ hr e0 (hbind s₁ (.ref a)) (.cons rfl .nil) (hsp H hO hS)) fun r s' h => ?_
    cases r with
    | error e => exact (hCX H e s' h).elim
    | ok fl =>
      cases fl with
      | next => exact False.elim h
      | brk => exact False.elim h
      | cont => exact False.elim h
      | ret u =>
        obtain ⟨v, H', os, bare, un, hok', r', q⟩ := h
        have q' : v = .bl true := q
        subst q'
        obtain rfl : u = Value.bool true := r'
        refine ⟨rfl, OldK.of_keep fun b o e => ?_, os, bare⟩
        cases q : H b with
        | none => exact un.keep b o e q (by intro z; exact absurd (show b ∈ ([] : List Addr) from z) (by simp)) (by simp)
        | some u =>
          rcases hO b with z | ⟨ob, xs, z⟩
          · rw [q] at z; cases z
          · have z2 := un.frzs b ob _ z
            obtain ⟨e1, _⟩ := hok b _ z
            obtain ⟨e2, _⟩ := hok' b _ z2
            rw [e] at e1; cases e1
            exact e2
  cases hk : K.lookup a with
  | some o =>
    -- the script is one of the module's own objects
    have e := KX a o hk
    rw [ha] at e
    cases e
    refine core (fun _ => none) (fun _ => .inl rfl) (.inr ⟨_, vs.toArray, _, hk, rfl, rfl, rfl, by rw [List.size_toArray, lenV]; exact hl, by simpa using rv⟩) (fun b u z => by have z' : (none : Option HO) = some u := z; cases z') (fun b z => absurd rfl z) fun z => absurd rfl z
  | none =>
    refine core (fun b => if b = a then some (.frz { cls := .type "list", data := .seq vs.toArray } (.lst (ns.map V.int))) else none) (fun b => ?_) (.inl (.inr ⟨{ cls := .type "list", data := .seq vs.toArray }, if_pos rfl⟩)) (fun b u z => ?_) (fun b z => ?_) fun _ => hk
    · by_cases hb : b = a
      · exact .inr ⟨_, _, if_pos hb⟩
      · exact .inl (if_neg hb)
    · by_cases hb : b = a
      · have z' := (if_pos hb).symm.trans z
        cases z'
        subst hb
        exact ⟨ha, by rw [List.length_map]; exact hl, vs, _, rv, ha⟩
      · have z' := (if_neg hb).symm.trans z
        cases z'
    · by_cases hb : b = a
      · exact hb
      · exact absurd (if_neg hb) z
end L2

namespace L2
open PySem PySem.Spec PyProof.Rows

abbrev KOf {K : PySem.W.Frag} {h : Heap} (_ : K.In h) : PySem.W.Frag := K

/-- the goal that k_head leaves (case hc), from the law's promise. F gives the function object fd (K's own) once, then the promise over every base -/
theorem walk_of {l : PySem.W.OpenLaw} {n k : Nat} {q : Program} {loose : List Str} {XP : (Str → Option Value) → Heap → Prop} {YP : World → Heap → Prop} {d : DefRec} {K : Params → PySem.W.Frag} {CX : World → CXT} {sp : World → Sp} {x : Str}
    (hn : l.most = some n) (hn2 : n ≤ sizeLine) (hdf : d.params.defaults = []) (hr : Room k callerA)
    (hY : ∀ (w : World) (h : Heap), YP w h → (K w.params).In h)
    (F : ∀ (w : World) (mg : Str → Option Value) (fa : Addr) (h : Heap), (K w.params).In h → h.Ns mainGlobals mg → mg d.name = some (.ref fa) →
      ∃ fd : FuncData, (∀ (s : Shared) (u : Value), BindsTo s fd ⟨[u], []⟩ [(x, u)]) ∧
        ∀ base : Heap, (K w.params).In base → base.Ns mainGlobals mg → FnOk l.prog w (K w.params) mg base (CX w) k fa fd [x] (sp w))
    (hsp : ∀ (w : World) (H : Hp) (a : Addr) (ns : List Int), ns.length ≤ n → Only H → SqL (K w.params) H a (ns.map V.int) → sp w [.ref a] H (fun v _ => v = .bl true) fun _ _ _ => False)
    (hCX : ∀ (w : World) (H : Hp) (s : Shared) (e : Value) (s' : Shared), CX w [] H s (fun _ _ _ => False) e s' → False) :
    PySem.W.WalkO q loose XP YP l.row.toRowW d [] (fun f vs => PySem.call f vs) := by
  refine Att.attach_call hn hdf fun w s₀ s₁ mg mb fa o pm cd doc a vs ns G Y ho hd hcd hmg hobj hints hlen hg => ?_
  have KX := hY w _ Y
  obtain ⟨fd, hb, hF⟩ := F w mg fa _ KX G.T.g hmg
  exact law_call KX G.T.g G.T.b G.T.builtins G.T.nolimit hg hobj hints (Nat.le_trans hlen hn2) hr hF hb (fun H hO hS => hsp w H a ns hlen hO hS) fun H e s' => hCX w H s₁ e s'
end L2

/- THE LAST THEOREM (shape; LID, My.* are yours):
   My.Adr: a structure of the addresses that your layer names (classes, functions); My.Txt K t: a structure (Prop) of the equations over K;
   My.txt_mk : {K} {implicit addresses ..} (e1 : nsIn K mainGlobals "law" = some (some (.ref f))) (e2 : K.lookup f = some ⟨oc, od, .func (fnOf "law" "law" params body scope dV kV doc pm an cdv ct), sl⟩) (e3 : codeIn K cdv "law" = true) .. : ∃ t, My.Txt K t

set_option maxRecDepth 100000 in
set_option maxHeartbeats 0 in
theorem PySem.Challenge.cw_LID_holds : PySem.Challenge.rw_LID.Holds := by
  w_on; o_law; k_head; (case hw => w_witness2)
  k_fill
  refine L2.walk_of (l := PySem.Challenge.rw_LID) (n := 63) (k := 40) (x := "script") (CX := fun w => ..) (sp := fun _ => My.sp_law) rfl (by decide) rfl ⟨rfl, by decide, by decide⟩ (fun w h Y => PySem.W.kIn_of Y) ?F ?S ?C
  case F =>
    intro w mg fa h KX G hmg
    have T : ∃ t, My.Txt (L2.KOf KX) t := by
      dsimp only [L2.KOf]                          -- K must stand as «<heap const> w.params» for k_is
      refine' My.txt_mk ?e1 ?e2 ?e3 ..
      (case e1 => PySem.W.k_is)                    -- in the order: a name -> its address -> its object -> its parts
      (case e2 => PySem.W.k_is)
      ..
    obtain ⟨t, T⟩ := T
    have e0 := hmg.symm.trans (PySem.W.mg_of KX G T.law)
    cases e0                                       -- fa is the law's own address
    exact ⟨_, fun s u => .of_eq rfl, fun base kb nb => My.law_fn T kb nb⟩     -- if «.of_eq rfl» comes too early: refine' ⟨_, ?b, fun base kb nb => My.law_fn T kb nb⟩; exact fun s u => .of_eq rfl
  case S => exact fun w H a ns hl hO hS => ..
  case C => exact ..
(the tactic k_is has no namespace: write k_is) -/

/-! SHORT WORDS over the layer: a def of the text, its body, what a loop and a test want. -/
namespace L2
open PySem PySem.Spec PyProof.Rows

/-! ### the text by places -/
def defArgs (s : Stmt) : Arguments := match s with
  | .FunctionDef _ a _ _ _ _ _ _ _ _ => a
  | _ => { posonlyargs := [], args := [], vararg := none, kwonlyargs := [], kw_defaults := [], kwarg := none, defaults := [] }
def defBody (s : Stmt) : List Stmt := match s with
  | .FunctionDef _ _ b _ _ _ _ _ _ _ => b
  | _ => []
def defScope (s : Stmt) : Scope := match s with
  | .FunctionDef _ _ _ _ _ _ sc _ _ _ => sc
  | _ => { kind := .function, names := [], isGenerator := false, isCoroutine := false }

/-! ### no exception leaves a def -/
abbrev CX0 : CXT := fun _ _ _ _ _ _ => False
abbrev E0 : XK := fun _ _ _ => False
theorem pass0 {X : Cx} : Passes CX0 X E0 := fun _ _ _ _ _ _ _ h => h.elim

/-! ### a def (or method) of the text as it stands behind the top -/
structure Fun (K : PySem.W.Frag) (x qual : Str) (st : Stmt) (f : Addr) (fd : FuncData) : Prop where
  ex : ∃ (oc : Value) (od : Option Addr) (kV doc pm : Value) (an : Option Addr) (cdv ct : Value) (osl : Array (Option Value)),
    fd = PySem.W.fnOf x qual (defArgs st) (defBody st) (defScope st) .none kV doc pm an cdv ct ∧ K.lookup f = some ⟨oc, od, .func fd, osl⟩ ∧ PySem.W.codeIn K cdv qual = true
  kp : PySem.W.keepIn K (.ref f) = true
section
variable {P : Program} {w : World} {K : PySem.W.Frag} {mg : Str → Option Value} {base : Heap}
/-- THE RULE for a def: its body as a term of rules, and the reading of that term -/
theorem Fun.ok {x qual : Str} {st : Stmt} {f : Addr} {fd : FuncData} {N ps : List Str} {k : Nat} {sp : Sp} (F : Fun K x qual st f fd) (S : FnScope N ps (defScope st)) (len : ∀ vs H Q E, sp vs H Q E → vs.length = ps.length)
    (hbody : ∀ (cdv : Value) (A : Around) (outer : List Env) (s : Shared) (H : Hp) (vs : List V) (Q : VK) (E : XK), Room k (A.deeper (envOfC qual (defScope st) s.heap.objs.size f cdv)) → sp vs H Q E →
      ∃ t, PSs (cxOf CX0 P w K mg base N qual (defScope st) f cdv A outer s H E).nox (defBody st) t ∧ t { nx := fun _ H' => Q .non H', rt := Q } (start N vs) H) : FnOk P w K mg base CX0 (k + 1) f fd ps sp := by
  obtain ⟨oc, od, kV, doc, pm, an, cdv, ct, osl, rfl, lk, hcd⟩ := F.ex
  refine fn_of lk hcd S len fun A outer s H vs Q E hr hsp => ?_
  obtain ⟨t, h, q⟩ := hbody cdv A outer s H vs Q E hr hsp
  exact ⟨t, h.nox, q⟩
/-- how its arguments bind (no defaults): h is «fun _ _ _ _ _ _ us hl => match us, hl with | [_, _], _ => rfl», one _ a parameter -/
theorem Fun.binds {x qual : Str} {st : Stmt} {f : Addr} {fd : FuncData} {ps : List Str} (F : Fun K x qual st f fd)
    (h : ∀ (kV doc pm : Value) (an : Option Addr) (cdv ct : Value) (us : List Value), us.length = ps.length → bindArgs (PySem.W.fnOf x qual (defArgs st) (defBody st) (defScope st) .none kV doc pm an cdv ct) ⟨us, []⟩ = pure (ps.zip us)) : Binds K fd ps [] := by
  obtain ⟨oc, od, kV, doc, pm, an, cdv, ct, osl, rfl, lk, hcd⟩ := F.ex
  exact .all (h kV doc pm an cdv ct)
theorem fun_mk {x qual : Str} {st : Stmt} {f : Addr} {oc : Value} {od an : Option Addr} {osl : Array (Option Value)} {kV doc pm cdv ct : Value} (l : K.lookup f = some ⟨oc, od, .func (PySem.W.fnOf x qual (defArgs st) (defBody st) (defScope st) .none kV doc pm an cdv ct), osl⟩)
    (c : PySem.W.codeIn K cdv qual = true) (k : PySem.W.keepIn K (.ref f) = true) : Fun K x qual st f (PySem.W.fnOf x qual (defArgs st) (defBody st) (defScope st) .none kV doc pm an cdv ct) := ⟨⟨oc, od, kV, doc, pm, an, cdv, ct, osl, rfl, l, c⟩, k⟩
end
/-! ### expressions in short: the name that stands in the i-th slot -/
section
variable {X : Cx}
theorem pv (i : Nat) {x : Str} {pos : Pos} (hN : X.N[i]? = some x := by rfl) (hv : Vis X.env.scope x := by first | exact Or.inl rfl | exact Or.inr (Or.inl rfl) | exact Or.inr (Or.inr rfl)) (hd : (x == ("__debug__" : Str)) = false := by decide)
    (hcd : (x == ("__classdict__" : Str)) = false := by decide) : PE X (.Name x pos) (tVar i) := pe_var hN hv hd hcd
end

/-! ### tests -/
/-! ### heaps -/
/-- all that was tracked is as it was -/
def Same (H H' : Hp) : Prop := ∀ b o, H b = some o → H' b = some o
theorem Same.refl (H : Hp) : Same H H := fun _ _ h => h
theorem Same.trans {H H1 H2 : Hp} (a : Same H H1) (b : Same H1 H2) : Same H H2 := fun c o h => b c o (a c o h)
theorem Same.free {H H' : Hp} (e : Same H H') {l : Addr} (h : H' l = Option.none) : H l = Option.none := by
  cases q : H l with
  | none => rfl
  | some o =>
    rw [e l o q] at h
    cases h
theorem Same.seq {K : PySem.W.Frag} {H H' : Hp} {a : Addr} {xs : List V} (e : Same H H') (h : SqL K H a xs) : SqL K H' a xs := by
  rcases h with (h | ⟨o, h⟩) | h
  · exact .inl (.inl (e _ _ h))
  · exact .inl (.inr ⟨o, e _ _ h⟩)
  · exact .inr h

end L2

set_option Elab.async false
set_option linter.all false
set_option maxRecDepth 100000
namespace L2.R2
open PySem PySem.Spec PyProof.Rows L2

/-! ## plain data and how it lies in the abstract heap -/
inductive D where
  | non | bl (b : Bool) | int (i : Int) | str (x : Str) | tup (xs : List D) | lst (xs : List D)

def FzL (K : PySem.W.Frag) (H : Hp) (a : Addr) (vs : List V) : Prop :=
  (∃ o, H a = some (.frz o (.lst vs))) ∨
    ∃ (o : Obj) (its : Array Value) (n : Nat), K.lookup a = some o ∧ o.cls = .type "list" ∧ o.dict = none ∧ o.data = .seq its n ∧ its.size ≤ sizeLine ∧ Vals vs its.toList
theorem FzL.sq {K : PySem.W.Frag} {H : Hp} {a : Addr} {vs : List V} : FzL K H a vs → SqL K H a vs
  | .inl ⟨o, h⟩ => .inl (.inr ⟨o, h⟩)
  | .inr h => .inr h

/-- what never changes is as it was -/
structure Keep (H H' : Hp) : Prop where
  tups : ∀ b xs, H b = some (.tup xs) → H' b = some (.tup xs)
  frzs : ∀ b o u, H b = some (.frz o u) → H' b = some (.frz o u)
theorem Keep.refl (H : Hp) : Keep H H := ⟨fun _ _ h => h, fun _ _ _ h => h⟩
theorem Keep.trans {H H1 H2 : Hp} (a : Keep H H1) (b : Keep H1 H2) : Keep H H2 :=
  ⟨fun c xs h => b.tups c xs (a.tups c xs h), fun c o u h => b.frzs c o u (a.frzs c o u h)⟩
theorem Keep.of {H H' : Hp} (s : Same H H') : Keep H H' := ⟨fun b xs h => s b _ h, fun b o u h => s b _ h⟩

mutual
inductive Rep (K : PySem.W.Frag) (H : Hp) : D → V → Prop
  | non : Rep K H .non .non
  | bl (b : Bool) : Rep K H (.bl b) (.bl b)
  | int (i : Int) : Rep K H (.int i) (.int i)
  | str (x : Str) : Rep K H (.str x) (.str x)
  | tup {a : Addr} {vs : List V} {ds : List D} (h : H a = some (.tup vs)) (r : Reps K H ds vs) : Rep K H (.tup ds) (.ref a)
  | lst {a : Addr} {vs : List V} {ds : List D} (h : FzL K H a vs) (r : Reps K H ds vs) : Rep K H (.lst ds) (.ref a)
inductive Reps (K : PySem.W.Frag) (H : Hp) : List D → List V → Prop
  | nil : Reps K H [] []
  | cons {d : D} {v : V} {ds : List D} {vs : List V} (h : Rep K H d v) (t : Reps K H ds vs) : Reps K H (d :: ds) (v :: vs)
end

section
variable {K : PySem.W.Frag} {H H' : Hp}
theorem SqT.keep {a : Addr} {vs : List V} (k : Keep H H') (h : SqT K H a vs) : SqT K H' a vs := by
  rcases h with (h | ⟨o, h⟩) | h
  · exact .inl (.inl (k.tups _ _ h))
  · exact .inl (.inr ⟨o, k.frzs _ _ _ h⟩)
  · exact .inr h
theorem FzL.keep {a : Addr} {vs : List V} (k : Keep H H') (h : FzL K H a vs) : FzL K H' a vs := by
  rcases h with ⟨o, h⟩ | h
  · exact .inl ⟨o, k.frzs _ _ _ h⟩
  · exact .inr h
mutual
theorem Rep.keep (k : Keep H H') : ∀ {d : D} {v : V}, Rep K H d v → Rep K H' d v
  | _, _, .non => .non
  | _, _, .bl b => .bl b
  | _, _, .int i => .int i
  | _, _, .str x => .str x
  | _, _, .tup h r => .tup (k.tups _ _ h) (Reps.keep k r)
  | _, _, .lst h r => .lst (FzL.keep k h) (Reps.keep k r)
theorem Reps.keep (k : Keep H H') : ∀ {ds : List D} {vs : List V}, Reps K H ds vs → Reps K H' ds vs
  | _, _, .nil => .nil
  | _, _, .cons h t => .cons (Rep.keep k h) (Reps.keep k t)
end
theorem Reps.length : ∀ {ds : List D} {vs : List V}, Reps K H ds vs → ds.length = vs.length
  | _, _, .nil => rfl
  | _, _, .cons _ t => by simp [Reps.length t]
theorem Reps.get : ∀ {ds : List D} {vs : List V} {i : Nat} {d : D}, Reps K H ds vs → ds[i]? = some d → ∃ v, vs[i]? = some v ∧ Rep K H d v
  | _, _, _, _, .nil, e => by simp at e
  | _, _, 0, _, .cons h _, e => by simp at e; subst e; exact ⟨_, rfl, h⟩
  | _, _, i + 1, d, .cons _ t, e => by
    obtain ⟨v, h1, h2⟩ := Reps.get (i := i) (d := d) t (by simpa using e)
    exact ⟨v, by simpa using h1, h2⟩
theorem Reps.append : ∀ {ds es : List D} {vs us : List V}, Reps K H ds vs → Reps K H es us → Reps K H (ds ++ es) (vs ++ us)
  | _, _, _, _, .nil, s => s
  | _, _, _, _, .cons h t, s => .cons h (Reps.append t s)
theorem Reps.take : ∀ {ds : List D} {vs : List V} (n : Nat), Reps K H ds vs → Reps K H (ds.take n) (vs.take n)
  | _, _, 0, _ => .nil
  | _, _, _ + 1, .nil => .nil
  | _, _, n + 1, .cons r t => .cons r (Reps.take n t)
theorem Reps.drop : ∀ {ds : List D} {vs : List V} (n : Nat), Reps K H ds vs → Reps K H (ds.drop n) (vs.drop n)
  | _, _, 0, r => r
  | _, _, _ + 1, .nil => .nil
  | _, _, n + 1, .cons _ t => Reps.drop n t
theorem Reps.set {d : D} {v : V} (r : Rep K H d v) : ∀ {ds : List D} {vs : List V} (i : Nat), Reps K H ds vs → Reps K H (ds.set i d) (vs.set i v)
  | _, _, _, .nil => .nil
  | _, _, 0, .cons _ t => .cons r t
  | _, _, i + 1, .cons q t => .cons q (Reps.set r i t)
theorem Reps.dropLast : ∀ {ds : List D} {vs : List V}, Reps K H ds vs → Reps K H ds.dropLast vs.dropLast
  | _, _, .nil => .nil
  | _, _, .cons _ .nil => .nil
  | _, _, .cons r (.cons r2 t) => by
    simp only [List.dropLast]
    exact .cons r (Reps.dropLast (.cons r2 t))
theorem Reps.reverse : ∀ {ds : List D} {vs : List V}, Reps K H ds vs → Reps K H ds.reverse vs.reverse
  | _, _, .nil => .nil
  | _, _, .cons r t => by
    simp only [List.reverse_cons]
    exact (Reps.reverse t).append (.cons r .nil)
theorem Rep.int_inv {i : Int} {v : V} (h : Rep K H (.int i) v) : v = .int i := by cases h; rfl
theorem Rep.bl_inv {b : Bool} {v : V} (h : Rep K H (.bl b) v) : v = .bl b := by cases h; rfl
theorem Reps.ints : ∀ {ns : List Int}, Reps K H (ns.map D.int) (ns.map V.int)
  | [] => .nil
  | _ :: _ => .cons (.int _) Reps.ints
end

/-- borrowed: the list itself may be one that is still grown -/
def RepB (K : PySem.W.Frag) (H : Hp) (d : D) (v : V) : Prop :=
  Rep K H d v ∨ ∃ ds a vs, d = .lst ds ∧ v = .ref a ∧ H a = some (.lst vs) ∧ Reps K H ds vs
theorem RepB.same {K : PySem.W.Frag} {H H' : Hp} {d : D} {v : V} (s : Same H H') (h : RepB K H d v) : RepB K H' d v := by
  rcases h with h | ⟨ds, a, vs, e1, e2, e3, r⟩
  · exact .inl (h.keep (.of s))
  · exact .inr ⟨ds, a, vs, e1, e2, s _ _ e3, r.keep (.of s)⟩
theorem RepB.lst {K : PySem.W.Frag} {H : Hp} {ds : List D} {v : V} (h : RepB K H (.lst ds) v) : ∃ a vs, v = .ref a ∧ SqL K H a vs ∧ Reps K H ds vs := by
  rcases h with h | ⟨ds', a, vs, e1, e2, e3, r⟩
  · cases h with
    | lst h r => exact ⟨_, _, rfl, h.sq, r⟩
  · cases e1; exact ⟨a, vs, e2, SqL.of e3, r⟩
theorem RepB.tup {K : PySem.W.Frag} {H : Hp} {ds : List D} {v : V} (h : RepB K H (.tup ds) v) : ∃ a vs, v = .ref a ∧ H a = some (.tup vs) ∧ Reps K H ds vs := by
  rcases h with h | ⟨ds', a, vs, e1, e2, e3, r⟩
  · cases h with
    | tup h r => exact ⟨_, _, rfl, h, r⟩
  · cases e1

/-! ## names -/
inductive S where
  | d (x : D) | own (xs : List D)
def S.val : S → D
  | .d x => x
  | .own xs => .lst xs
abbrev En := List (Option S)
def RelS (K : PySem.W.Frag) (H₀ H : Hp) : S → V → Prop
  | .d x, v => Rep K H x v
  | .own xs, v => ∃ a vs, v = .ref a ∧ H a = some (.lst vs) ∧ H₀ a = none ∧ Reps K H xs vs

structure StOk (X : Cx) (ρ : En) (σ : St) (H : Hp) : Prop where
  len : ρ.length = σ.length
  same : Same X.H₀ H
  rel : ∀ (i : Nat) (x : S), ρ[i]? = some (some x) → ∃ v, σ[i]? = some (some v) ∧ RelS X.K X.H₀ H x v
  sep : ∀ (i j : Nat) (xs ys : List D) (a : Addr), ρ[i]? = some (some (.own xs)) → ρ[j]? = some (some (.own ys)) → σ[i]? = some (some (.ref a)) → σ[j]? = some (some (.ref a)) → i = j

section
variable {X : Cx} {ρ : En} {σ : St} {H H' : Hp}
theorem RelS.same {K : PySem.W.Frag} {H₀ H H' : Hp} {x : S} {v : V} (s : Same H H') (h : RelS K H₀ H x v) : RelS K H₀ H' x v := by
  cases x with
  | d x => exact Rep.keep (.of s) h
  | own xs =>
    obtain ⟨a, vs, e1, e2, e3, r⟩ := h
    exact ⟨a, vs, e1, s _ _ e2, e3, r.keep (.of s)⟩
theorem StOk.ext (st : StOk X ρ σ H) (s : Same H H') : StOk X ρ σ H' :=
  ⟨st.len, st.same.trans s, fun i x e => let ⟨v, h1, h2⟩ := st.rel i x e; ⟨v, h1, h2.same s⟩, st.sep⟩
theorem StOk.set_d (st : StOk X ρ σ H) {i : Nat} {d : D} {v : V} (r : Rep X.K H d v) : StOk X (ρ.set i (some (.d d))) (σ.set i (some v)) H := by
  refine ⟨by simp [st.len], st.same, fun j x e => ?_, fun j k xs ys a e1 e2 e3 e4 => ?_⟩
  · by_cases hj : i = j
    · subst hj
      have hi : i < ρ.length := by
        by_cases h : i < ρ.length
        · exact h
        · rw [List.set_eq_of_length_le (by omega)] at e
          rw [List.getElem?_eq_none (by omega)] at e; cases e
      rw [List.getElem?_set_self hi] at e
      cases e
      exact ⟨v, by rw [List.getElem?_set_self (by rw [← st.len]; exact hi)], r⟩
    · rw [List.getElem?_set_ne hj] at e ⊢
      exact st.rel j x e
  · have ne : ∀ {j : Nat} {zs : List D}, (ρ.set i (some (.d d)))[j]? = some (some (.own zs)) → i ≠ j := fun {j zs} e q => by
      subst q
      by_cases h : i < ρ.length
      · rw [List.getElem?_set_self h] at e; cases e
      · rw [List.set_eq_of_length_le (by omega), List.getElem?_eq_none (by omega)] at e; cases e
    have n1 := ne e1
    have n2 := ne e2
    rw [List.getElem?_set_ne n1] at e1 e3
    rw [List.getElem?_set_ne n2] at e2 e4
    exact st.sep j k xs ys a e1 e2 e3 e4
/-- a fresh list is kept by a name -/
theorem StOk.set_own (st : StOk X ρ σ H) {i : Nat} {ds : List D} {p : Addr} {vs : List V} (hp : H p = none) (r : Reps X.K H ds vs) :
    StOk X (ρ.set i (some (.own ds))) (σ.set i (some (.ref p))) (upd H p (.lst vs)) := by
  have sm : Same H (upd H p (.lst vs)) := fun b o h => by rw [upd_ne (ne_of_none h hp)]; exact h
  have st' := st.ext sm
  have oldne : ∀ {j : Nat} {zs : List D}, i ≠ j → ρ[j]? = some (some (.own zs)) → σ[j]? ≠ some (some (.ref p)) := fun {j zs} hj e z => by
    obtain ⟨v, h1, a, vs', e1, e2, _⟩ := st.rel j _ e
    rw [h1] at z; cases z; cases e1
    rw [hp] at e2; cases e2
  refine ⟨by simp [st.len], st'.same, fun j x e => ?_, fun j k xs ys a e1 e2 e3 e4 => ?_⟩
  · by_cases hj : i = j
    · subst hj
      have hi : i < ρ.length := by
        by_cases h : i < ρ.length
        · exact h
        · rw [List.set_eq_of_length_le (by omega), List.getElem?_eq_none (by omega)] at e; cases e
      rw [List.getElem?_set_self hi] at e
      cases e
      exact ⟨.ref p, by rw [List.getElem?_set_self (by rw [← st.len]; exact hi)], p, vs, rfl, upd_same, st.same.free hp, r.keep (.of sm)⟩
    · rw [List.getElem?_set_ne hj] at e ⊢
      exact st'.rel j x e
  · by_cases hj : i = j
    · by_cases hk : i = k
      · exact hj.symm.trans hk
      · exfalso
        subst hj
        rw [List.getElem?_set_ne hk] at e2 e4
        have hi : i < σ.length := by
          by_cases h : i < σ.length
          · exact h
          · rw [List.set_eq_of_length_le (by omega), List.getElem?_eq_none (by omega)] at e3; cases e3
        rw [List.getElem?_set_self hi] at e3
        cases e3
        exact oldne hk e2 e4
    · by_cases hk : i = k
      · exfalso
        subst hk
        rw [List.getElem?_set_ne hj] at e1 e3
        have hi : i < σ.length := by
          by_cases h : i < σ.length
          · exact h
          · rw [List.set_eq_of_length_le (by omega), List.getElem?_eq_none (by omega)] at e4; cases e4
        rw [List.getElem?_set_self hi] at e4
        cases e4
        exact oldne hj e1 e3
      · rw [List.getElem?_set_ne hj] at e1 e3
        rw [List.getElem?_set_ne hk] at e2 e4
        exact st.sep j k xs ys a e1 e2 e3 e4
/-- an own list is changed where it lies -/
theorem StOk.upd_own (st : StOk X ρ σ H) {i : Nat} {xs ds : List D} {p : Addr} {us vs : List V} (e : ρ[i]? = some (some (.own xs))) (es : σ[i]? = some (some (.ref p))) (hp : H p = some (.lst us)) (h0 : X.H₀ p = none)
    (r : Reps X.K H ds vs) : StOk X (ρ.set i (some (.own ds))) σ (upd H p (.lst vs)) ∧ Keep H (upd H p (.lst vs)) := by
  have kp : Keep H (upd H p (.lst vs)) := ⟨fun b ys h => by
      rw [upd_ne (ne_of h hp (by intro z; cases z))]; exact h, fun b o u h => by rw [upd_ne (ne_of h hp (by intro z; cases z))]; exact h⟩
  have hi : i < ρ.length := (List.getElem?_eq_some_iff.mp e).1
  refine ⟨⟨by simp [st.len], fun b o h => ?_, fun j x ej => ?_, fun j k xs' ys a e1 e2 e3 e4 => ?_⟩, kp⟩
  · rw [upd_ne (by rintro rfl; rw [h0] at h; cases h)]
    exact st.same b o h
  · by_cases hj : i = j
    · subst hj
      rw [List.getElem?_set_self hi] at ej
      cases ej
      exact ⟨.ref p, es, p, vs, rfl, upd_same, h0, r.keep kp⟩
    · rw [List.getElem?_set_ne hj] at ej
      obtain ⟨v, h1, h2⟩ := st.rel j x ej
      refine ⟨v, h1, ?_⟩
      cases x with
      | d x => exact Rep.keep kp h2
      | own zs =>
        obtain ⟨a, vs', e1, e2, e3, r'⟩ := h2
        refine ⟨a, vs', e1, ?_, e3, r'.keep kp⟩
        rw [upd_ne]
        · exact e2
        · rintro rfl
          subst e1
          exact hj (st.sep i j _ _ _ e ej es h1)
  · have back : ∀ {j : Nat} {zs : List D}, (ρ.set i (some (.own ds)))[j]? = some (some (.own zs)) → ∃ zs', ρ[j]? = some (some (.own zs')) := fun {j zs} q => by
      by_cases hj : i = j
      · subst hj; exact ⟨_, e⟩
      · rw [List.getElem?_set_ne hj] at q; exact ⟨_, q⟩
    obtain ⟨_, q1⟩ := back e1
    obtain ⟨_, q2⟩ := back e2
    exact st.sep j k _ _ a q1 q2 e3 e4
end

/-! ## freezing -/
section
variable {X : Cx} {pins : List (Addr × Obj)} {σ : St} {H : Hp} {s : Shared}
theorem Inv.freeze {a : Addr} {xs : List V} (I : Inv X pins σ H s) (h : H a = some (.lst xs)) : ∃ o, Inv X pins σ (upd H a (.frz o (.lst xs))) s := by
  have ok := I.hok a _ h
  obtain ⟨z, its, n, r, e⟩ := id ok
  refine ⟨{ cls := .type "list", data := .seq its.toArray n }, ?_⟩
  have ntup : ∀ b u, H b = some u → u ≠ .lst xs → b ≠ a := fun b u q d z => by subst z; rw [h] at q; cases q; exact d rfl
  refine I.un (t' := s.toks) (h' := s.heap) ⟨fun b o q _ _ _ => q, fun b o q _ _ _ => ⟨o.slots, q⟩, fun b o q n _ => ?_, fun b o q _ => ⟨o, q⟩, fun b ys q => ?_, fun b o u q => ?_, fun b ps q => ⟨#[], ?_⟩⟩ fun b u q => ?_
  · rw [upd_ne (fun z => by subst z; rw [h] at n; cases n)]; exact n
  · rw [upd_ne (ntup b _ q (by intro z; cases z))]; exact q
  · rw [upd_ne (ntup b _ q (by intro z; cases z))]; exact q
  · rw [upd_ne (ntup b _ q (by intro z; cases z)), q]; simp
  · by_cases hb : b = a
    · subst hb
      rw [upd_same] at q; cases q
      exact ⟨e, z, its, n, r, e⟩
    · rw [upd_ne hb] at q
      exact (I.hok b u q).stay (fun c v _ w => w) (fun c w => by rw [upd_ne (ntup c _ w (by intro z; cases z))]; exact w) fun c ys w => by rw [upd_ne (ntup c _ w (by intro z; cases z))]; exact w
theorem Same.upd_new {a : Addr} {o : HO} {H H1 : Hp} (s : Same H H1) (n : H a = none) : Same H (upd H1 a o) := fun b u h => by
  rw [upd_ne (ne_of_none h n)]; exact s b u h
end
end L2.R2

set_option Elab.async false
set_option linter.all false
set_option maxRecDepth 100000
namespace L2.R2
open PySem PySem.Spec PyProof.Rows L2

/-! ## readings over plain data -/
/-- small enough for a list, a tuple -/
structure Sz (n : Nat) : Prop where
  ok : n ≤ sizeLine
abbrev RE := En → (D → Prop) → Prop
abbrev RT := En → (Bool → Prop) → Prop
abbrev RA := En → (List D → Prop) → Prop
structure DEnds where
  nx : En → Prop
  rt : D → Prop
  bk : En → Prop := fun _ => False
  ct : En → Prop := fun _ => False
abbrev RS := DEnds → En → Prop
abbrev RG := D → En → (En → Prop) → Prop

def liftE (X : Cx) (t : RE) : TE := fun σ H Q => ∃ ρ P, StOk X ρ σ H ∧ t ρ P ∧ ∀ d v H', P d → Same H H' → Rep X.K H' d v → Q v H'
def liftB (X : Cx) (t : RE) : TE := fun σ H Q => ∃ ρ P, StOk X ρ σ H ∧ t ρ P ∧ ∀ d v H', P d → Same H H' → RepB X.K H' d v → Q v H'
/-- a fresh list -/
def liftO (X : Cx) (t : RA) : TE := fun σ H Q => ∃ ρ P, StOk X ρ σ H ∧ t ρ P ∧ ∀ ds p vs H1, P ds → Same H H1 → H1 p = none → Reps X.K H1 ds vs → Q (.ref p) (upd H1 p (.lst vs))
def liftT (X : Cx) (t : RT) : TT := fun σ H Q => ∃ ρ P, StOk X ρ σ H ∧ t ρ P ∧ ∀ b H', P b → Same H H' → Q b H'
def liftA (X : Cx) (t : RA) : TA := fun σ H Q => ∃ ρ P, StOk X ρ σ H ∧ t ρ P ∧ ∀ ds vs H', P ds → Same H H' → Reps X.K H' ds vs → Q vs H'
def liftS (X : Cx) (t : RS) : TS := fun De σ H => ∃ ρ E, StOk X ρ σ H ∧ t E ρ ∧ (∀ ρ' σ' H', E.nx ρ' → Keep H H' → StOk X ρ' σ' H' → De.nx σ' H') ∧ (∀ d v H', E.rt d → Keep H H' → Same X.H₀ H' → Rep X.K H' d v → De.rt v H') ∧
  (∀ ρ' σ' H', E.bk ρ' → Keep H H' → StOk X ρ' σ' H' → De.bk σ' H') ∧ ∀ ρ' σ' H', E.ct ρ' → Keep H H' → StOk X ρ' σ' H' → De.ct σ' H'
def liftG (X : Cx) (g : RG) : TG := fun v σ H Q => ∃ d ρ P, Rep X.K H d v ∧ StOk X ρ σ H ∧ g d ρ P ∧ ∀ ρ' σ' H', P ρ' → Keep H H' → StOk X ρ' σ' H' → Q σ' H'

def DE (X : Cx) (e : Expr) (t : RE) : Prop := PE X e (liftE X t)
def DB (X : Cx) (e : Expr) (t : RE) : Prop := PE X e (liftB X t)
def DO (X : Cx) (e : Expr) (t : RA) : Prop := PE X e (liftO X t)
def DT (X : Cx) (e : Expr) (t : RT) : Prop := PT X e (liftT X t)
def DW (X : Cx) (e : Expr) (t : RT) : Prop := PW X e (liftT X t)
def DA (X : Cx) (es : List Expr) (t : RA) : Prop := PA X es (liftA X t)
def DS (X : Cx) (st : Stmt) (t : RS) : Prop := PS X st (liftS X t)
def DSs (X : Cx) (sts : List Stmt) (t : RS) : Prop := PSs X sts (liftS X t)
def DG (X : Cx) (tg : Expr) (g : RG) : Prop := PG X tg (liftG X g)

theorem PE.mono {X : Cx} {e : Expr} {t t' : TE} (h : PE X e t) (m : ∀ σ H Q, t' σ H Q → t σ H Q) : PE X e t' := fun pins s σ H Q I q => h pins s σ H Q I (m σ H Q q)
theorem PT.mono {X : Cx} {e : Expr} {t t' : TT} (h : PT X e t) (m : ∀ σ H Q, t' σ H Q → t σ H Q) : PT X e t' := fun pins s σ H Q I q => h pins s σ H Q I (m σ H Q q)
theorem PW.mono {X : Cx} {e : Expr} {t t' : TT} (h : PW X e t) (m : ∀ σ H Q, t' σ H Q → t σ H Q) : PW X e t' := fun wh pins s σ H Q I q => h wh pins s σ H Q I (m σ H Q q)
theorem PA.mono {X : Cx} {e : List Expr} {t t' : TA} (h : PA X e t) (m : ∀ σ H Q, t' σ H Q → t σ H Q) : PA X e t' := fun pos pins s σ H Q I q => h pos pins s σ H Q I (m σ H Q q)
theorem PS.mono {X : Cx} {e : Stmt} {t t' : TS} (h : PS X e t) (m : ∀ D σ H, t' D σ H → t D σ H) : PS X e t' := fun pins s σ H D I q => h pins s σ H D I (m D σ H q)
theorem PSs.mono {X : Cx} {e : List Stmt} {t t' : TS} (h : PSs X e t) (m : ∀ D σ H, t' D σ H → t D σ H) : PSs X e t' := fun pins s σ H D I q => h pins s σ H D I (m D σ H q)
theorem PG.mono {X : Cx} {e : Expr} {t t' : TG} (h : PG X e t) (m : ∀ v σ H Q, t' v σ H Q → t v σ H Q) : PG X e t' := fun pins s σ H v u Q I r q => h pins s σ H v u Q I r (m v σ H Q q)

section
variable {X : Cx} {e a b c : Expr} {pos : Pos}

/-! ### from one judgement to another -/
theorem DE.bor {t : RE} (h : DE X e t) : DB X e t := PE.mono h fun σ H Q ⟨ρ, P, st, q, k⟩ => ⟨ρ, P, st, q, fun d v H' p s r => k d v H' p s (.inl r)⟩
/-- a fresh list, frozen at once -/
theorem DO.val {t : RA} (h : DO X e t) : DE X e (fun ρ Q => t ρ fun ds => Q (.lst ds)) := by
  intro pins s σ H Q I ⟨ρ, P, st, q, k⟩
  refine thn (h pins s σ H (fun v H' => ∃ ds p vs H1, v = .ref p ∧ H' = upd H1 p (.lst vs) ∧ P (.lst ds) ∧ Same H H1 ∧ H1 p = none ∧ Reps X.K H1 ds vs) I ⟨ρ, _, st, q, fun ds p vs H1 hp s1 hn r => ⟨ds, p, vs, H1, rfl, rfl, hp, s1, hn, r⟩⟩) fun u s1 ⟨v, H', I', rv, ds, p, vs, H1, ev, eH, hp, sm, hn, r⟩ => ?_
  subst ev eH
  obtain ⟨o, I2⟩ := Inv.freeze I' (a := p) (xs := vs) upd_same
  have sm2 : Same H1 (upd (upd H1 p (.lst vs)) p (.frz o (.lst vs))) := fun b u e => by rw [upd_ne (ne_of_none e hn), upd_ne (ne_of_none e hn)]; exact e
  exact ⟨.ref p, _, I2, rv, k (.lst ds) (.ref p) _ hp (sm.trans sm2) (.lst (.inl ⟨o, upd_same⟩) (r.keep (.of sm2)))⟩
theorem DO.bor {t : RA} (h : DO X e t) : DB X e (fun ρ Q => t ρ fun ds => Q (.lst ds)) := h.val.bor

/-! ### names and constants -/
def rVar (i : Nat) : RE := fun ρ Q => match ρ[i]? with
  | some (some (.d d)) => Q d
  | _ => False
def rVarB (i : Nat) : RE := fun ρ Q => match ρ[i]? with
  | some (some x) => Q x.val
  | _ => False
theorem dv (i : Nat) {x : Str} (hN : X.N[i]? = some x := by rfl) (hv : Vis X.env.scope x := by first | exact Or.inl rfl | exact Or.inr (Or.inl rfl) | exact Or.inr (Or.inr rfl)) (hd : (x == ("__debug__" : Str)) = false := by decide)
    (hcd : (x == ("__classdict__" : Str)) = false := by decide) : DE X (.Name x pos) (rVar i) := by
  refine PE.mono (pv i hN hv hd hcd) fun σ H Q ⟨ρ, P, st, q, k⟩ => ?_
  unfold rVar at q
  split at q
  · rename_i d e
    obtain ⟨v, h1, h2⟩ := st.rel i _ e
    exact ⟨v, h1, k d v H q (Same.refl H) h2⟩
  · exact q.elim
theorem dvb (i : Nat) {x : Str} (hN : X.N[i]? = some x := by rfl) (hv : Vis X.env.scope x := by first | exact Or.inl rfl | exact Or.inr (Or.inl rfl) | exact Or.inr (Or.inr rfl)) (hd : (x == ("__debug__" : Str)) = false := by decide)
    (hcd : (x == ("__classdict__" : Str)) = false := by decide) : DB X (.Name x pos) (rVarB i) := by
  refine PE.mono (pv i hN hv hd hcd) fun σ H Q ⟨ρ, P, st, q, k⟩ => ?_
  unfold rVarB at q
  split at q
  · rename_i d e
    obtain ⟨v, h1, h2⟩ := st.rel i _ e
    refine ⟨v, h1, k _ v H q (Same.refl H) ?_⟩
    cases d with
    | d x => exact .inl h2
    | own xs =>
      obtain ⟨a, vs, e1, e2, _, r⟩ := h2
      exact .inr ⟨xs, a, vs, rfl, e1, e2, r⟩
  · exact q.elim
def rC (d : D) : RE := fun _ Q => Q d
theorem de_int {i : Int} {j : Nat} : DE X (.Constant (.int i) j pos) (rC (.int i)) := PE.mono pe_int fun σ H Q ⟨ρ, P, st, q, k⟩ => k _ _ H q (Same.refl H) (.int i)
theorem de_bl {i : Bool} {j : Nat} : DE X (.Constant (.bool i) j pos) (rC (.bl i)) := PE.mono pe_bl fun σ H Q ⟨ρ, P, st, q, k⟩ => k _ _ H q (Same.refl H) (.bl i)
/-! ### operations of two values -/
abbrev R22 := D → D → (D → Prop) → Prop
/-- results frozen, operands borrowed -/
def liftR (X : Cx) (r : R22) : R2 := fun x y H Q => ∃ d e P, RepB X.K H d x ∧ RepB X.K H e y ∧ r d e P ∧ ∀ z v H', P z → Same H H' → Rep X.K H' z v → Q v H'
def OpD (X : Cx) (f : Value → Value → Sem Value) (r : R22) : Prop := OpR X f (liftR X r)
def r2 (r : R22) (ta tb : RE) : RE := fun ρ Q => ta ρ fun x => tb ρ fun y => r x y Q
variable {ta tb tc : RE}
theorem lift2 {r : R22} {σ : St} {H : Hp} {Q : VK} (h : liftE X (r2 r ta tb) σ H Q) : tOp (liftR X r) (liftB X ta) (liftB X tb) σ H Q := by
  obtain ⟨ρ, P, st, ht, hP⟩ := h
  exact ⟨ρ, _, st, ht, fun x v H1 h1 s1 r1 => ⟨ρ, _, st.ext s1, h1, fun y u H2 h2 s2 r2 => ⟨x, y, P, r1.same s2, r2, h2, fun z w H' hz s3 r3 => hP z w H' hz ((s1.trans s2).trans s3) r3⟩⟩⟩
theorem de_op {op : Operator} {r : R22} (ho : OpD X (binaryOp op) r) (ha : DB X a ta) (hb : DB X b tb) : DE X (.BinOp a op b pos) (r2 r ta tb) := PE.mono (pe_op ho ha hb) fun σ H Q h => lift2 h
theorem de_cmp {op : CmpOp} {r : R22} (ho : OpD X (compareOp op) r) (ha : DB X a ta) (hb : DB X b tb) (hm : behindInMarks op b = false := by exact nomark _) : DE X (.Compare a [op] [b] pos) (r2 r ta tb) := PE.mono (pe_cmpR ho ha hb hm) fun σ H Q h => lift2 h
/-- a bool value as a test -/
def rTest (t : RE) : RT := fun ρ Q => t ρ fun d => match d with
  | .bl k => Q k
  | _ => False
theorem dt_cmp {op : CmpOp} {r : R22} (ho : OpD X (compareOp op) r) (ha : DB X a ta) (hb : DB X b tb) (hm : behindInMarks op b = false := by exact nomark _) : DT X (.Compare a [op] [b] pos) (rTest (r2 r ta tb)) := by
  refine PT.mono (pt_cmpR ho ha hb hm) fun σ H Q ⟨ρ, P, st, q, k⟩ => ?_
  refine lift2 (Q := fun x H' => ∃ k, x = .bl k ∧ Q k H') ⟨ρ, _, st, q, fun d v H' hd s r => ?_⟩
  cases d with
  | bl b => exact ⟨b, r.bl_inv, k b H' hd s⟩
  | _ => exact hd.elim
/-- any expression whose value is a bool -/
theorem dt_val (h : DE X e ta) (he : ∀ whole, isTrue e X.env whole = (do let v ← whole; standAt e.pos; holding [v] (truthy v)) := by intro _; rfl) : DT X e (rTest ta) := by
  refine PT.mono (pt_val h he) fun σ H Q ⟨ρ, P, st, q, k⟩ => ?_
  refine ⟨ρ, _, st, q, fun d v H' hd s r => ?_⟩
  cases d with
  | bl b => exact ⟨b, r.bl_inv, k b H' hd s⟩
  | _ => exact hd.elim
def rAnd (t u : RT) : RT := fun ρ Q => t ρ fun c => if c = true then u ρ Q else Q false
def rOr (t u : RT) : RT := fun ρ Q => t ρ fun c => if c = true then Q true else u ρ Q
def rNot (t : RT) : RT := fun ρ Q => t ρ fun c => Q (!c)
variable {tA tB : RT} {rest : List Expr}
theorem dw_and1 (ha : DT X a tA) : DW X (.BoolOp .And [a] pos) tA := pw_and1 ha
theorem dw_or1 (ha : DT X a tA) : DW X (.BoolOp .Or [a] pos) tA := pw_or1 ha
theorem dw_and (ha : DT X a tA) (hb : DW X (.BoolOp .And (b :: rest) pos) tB) : DW X (.BoolOp .And (a :: b :: rest) pos) (rAnd tA tB) :=
  PW.mono (pw_and ha hb) fun σ H Q ⟨ρ, P, st, q, k⟩ => ⟨ρ, _, st, q, fun c H1 hc s1 => by
    cases c with
    | true => rw [if_pos rfl] at hc ⊢; exact ⟨ρ, P, st.ext s1, hc, fun d H2 hd s2 => k d H2 hd (s1.trans s2)⟩
    | false => rw [if_neg Bool.false_ne_true] at hc ⊢; exact k false H1 hc s1⟩
theorem dw_or (ha : DT X a tA) (hb : DW X (.BoolOp .Or (b :: rest) pos) tB) : DW X (.BoolOp .Or (a :: b :: rest) pos) (rOr tA tB) :=
  PW.mono (pw_or ha hb) fun σ H Q ⟨ρ, P, st, q, k⟩ => ⟨ρ, _, st, q, fun c H1 hc s1 => by
    cases c with
    | false => rw [if_neg Bool.false_ne_true] at hc ⊢; exact ⟨ρ, P, st.ext s1, hc, fun d H2 hd s2 => k d H2 hd (s1.trans s2)⟩
    | true => rw [if_pos rfl] at hc ⊢; exact k true H1 hc s1⟩
theorem DW.tst (h : DW X e tA) : DT X e tA := PW.pt h
theorem dt_not (ha : DT X a tA) : DT X (.UnaryOp .Not a pos) (rNot tA) := PT.mono (pt_not ha) fun σ H Q ⟨ρ, P, st, q, k⟩ => ⟨ρ, _, st, q, fun c H1 hc s1 => k _ H1 hc s1⟩
/-! as values -/
def rAndV (ta tb : RE) : RE := fun ρ Q => ta ρ fun d => match d with
  | .bl k => if k = true then tb ρ Q else Q (.bl false)
  | _ => False
def rOrV (ta tb : RE) : RE := fun ρ Q => ta ρ fun d => match d with
  | .bl k => if k = true then Q (.bl true) else tb ρ Q
  | _ => False
def rNotV (ta : RE) : RE := fun ρ Q => ta ρ fun d => match d with
  | .bl k => Q (.bl (!k))
  | _ => False
theorem de_one {op} (h : DE X a ta) : DE X (.BoolOp op [a] pos) ta := pe_one h
theorem de_and (ha : DE X a ta) (hb : DE X (.BoolOp .And (b :: rest) pos) tb) : DE X (.BoolOp .And (a :: b :: rest) pos) (rAndV ta tb) :=
  PE.mono (pe_and ha hb) fun σ H Q ⟨ρ, P, st, q, k⟩ => ⟨ρ, _, st, q, fun d v H1 hd s1 r => by
    cases d with
    | bl c =>
      refine ⟨c, r.bl_inv, ?_⟩
      cases c with
      | true => exact ⟨ρ, P, st.ext s1, hd, fun d v H2 hd s2 => k d v H2 hd (s1.trans s2)⟩
      | false => exact k (.bl false) (.bl false) H1 hd s1 (.bl false)
    | _ => exact hd.elim⟩
theorem de_not (ha : DE X a ta) : DE X (.UnaryOp .Not a pos) (rNotV ta) :=
  PE.mono (pe_not ha) fun σ H Q ⟨ρ, P, st, q, k⟩ => ⟨ρ, _, st, q, fun d v H1 hd s1 r => by
    cases d with
    | bl c => exact ⟨c, r.bl_inv, k (.bl !c) (.bl !c) H1 hd s1 (.bl _)⟩
    | _ => exact hd.elim⟩
def rIf (t : RT) (ta tb : RE) : RE := fun ρ Q => t ρ fun c => if c = true then ta ρ Q else tb ρ Q
/-! ### one value -/
def liftU (X : Cx) (r : D → (D → Prop) → Prop) : V → Hp → VK → Prop := fun x H Q => ∃ d P, RepB X.K H d x ∧ r d P ∧ ∀ z v H', P z → Same H H' → Rep X.K H' z v → Q v H'
def UnD (X : Cx) (f : Value → Sem Value) (r : D → (D → Prop) → Prop) : Prop := UnR X f (liftU X r)
def r1 (r : D → (D → Prop) → Prop) (ta : RE) : RE := fun ρ Q => ta ρ fun x => r x Q
theorem de_un {op : UnaryOp} {r : D → (D → Prop) → Prop} (ho : UnD X (unaryOp op) r) (ha : DB X a ta) : DE X (.UnaryOp op a pos) (r1 r ta) :=
  PE.mono (pe_un ho ha) fun σ H Q ⟨ρ, P, st, q, k⟩ => ⟨ρ, _, st, q, fun d v H1 hd s1 rr => ⟨d, P, rr, hd, fun z v H2 hz s2 r2 => k z v H2 hz (s1.trans s2) r2⟩⟩

/-! ### argument lists, displays -/
def raNil : RA := fun _ Q => Q []
def raCons (t : RE) (u : RA) : RA := fun ρ Q => t ρ fun x => u ρ fun xs => Q (x :: xs)
variable {es : List Expr} {t : RA}
theorem da_nil : DA X [] raNil := PA.mono pa_nil fun σ H Q ⟨ρ, P, st, q, k⟩ => k [] [] H q (Same.refl H) .nil
theorem da_cons (ha : DE X e ta) (hr : DA X es t) (hs : starEach (e :: es) X.env = (false, eval e X.env) :: starEach es X.env := by rfl) : DA X (e :: es) (raCons ta t) :=
  PA.mono (pa_cons ha hr hs) fun σ H Q ⟨ρ, P, st, q, k⟩ => ⟨ρ, _, st, q, fun d v H1 hd s1 r1 => ⟨ρ, _, st.ext s1, hd, fun ds vs H2 hds s2 r2 => k (d :: ds) (v :: vs) H2 hds (s1.trans s2) (.cons (r1.keep (.of s2)) r2)⟩⟩
def rTup (t : RA) : RE := fun ρ Q => t ρ fun ds => Sz ds.length ∧ Q (.tup ds)
theorem de_tup {x1} (h : DA X es t) : DE X (.Tuple es x1 pos) (rTup t) :=
  PE.mono (pe_tup h) fun σ H Q ⟨ρ, P, st, q, k⟩ => ⟨ρ, _, st, q, fun ds vs H1 hd s1 r => ⟨by rw [← r.length]; exact hd.1.ok, fun p hp => k (.tup ds) (.ref p) _ hd.2 (Same.upd_new s1 (s1.free hp)) (by
    have sm : Same H1 (upd H1 p (.tup vs)) := fun b u e => by rw [upd_ne (ne_of_none e hp)]; exact e
    exact .tup upd_same (r.keep (.of sm)))⟩⟩
def rLst (t : RA) : RA := fun ρ Q => t ρ fun ds => Sz ds.length ∧ Q ds
theorem do_lst (h : DA X es t) : DO X (.List es pos) (rLst t) :=
  PE.mono (pe_lst h) fun σ H Q ⟨ρ, P, st, q, k⟩ => ⟨ρ, _, st, q, fun ds vs H1 hd s1 r => ⟨by rw [← r.length]; exact hd.1.ok, fun p hp => k ds p vs H1 hd.2 s1 hp r⟩⟩
end

/-! ## statements -/
section
variable {X : Cx} {e a b c : Expr} {pos : Pos} {st : Stmt} {rest : List Stmt} {t u : RS} {te : RE} {tA : RT}
def rSeq (t u : RS) : RS := fun E ρ => t { E with nx := u E } ρ
def rNext : RS := fun E ρ => E.nx ρ
theorem dss_nil : DSs X [] rNext := PSs.mono pss_nil fun De σ H ⟨ρ, E, st, q, n, r, b, c⟩ => n ρ σ H q (Keep.refl H) st
theorem dss_one (h : DS X st t) : DSs X [st] t := pss_one h
theorem dss_cons (h1 : DS X st t) (h2 : DSs X rest u) : DSs X (st :: rest) (rSeq t u) :=
  PSs.mono (pss_cons h1 h2) fun De σ H ⟨ρ, E, st, q, n, r, b, c⟩ => ⟨ρ, _, st, q, fun ρ' σ' H' h k s => ⟨ρ', E, s, h, fun ρ2 σ2 H2 x k2 => n ρ2 σ2 H2 x (k.trans k2), fun d v H2 x k2 => r d v H2 x (k.trans k2), fun ρ2 σ2 H2 x k2 => b ρ2 σ2 H2 x (k.trans k2), fun ρ2 σ2 H2 x k2 => c ρ2 σ2 H2 x (k.trans k2)⟩, r, b, c⟩
theorem ds_never : DS X st (fun _ _ => False) := PS.mono ps_never fun De σ H ⟨ρ, E, st, q, _⟩ => q
def rRet (te : RE) : RS := fun E ρ => te ρ E.rt
theorem ds_ret (h : DE X e te) : DS X (.Return (some e) pos) (rRet te) :=
  PS.mono (ps_ret h) fun De σ H ⟨ρ, E, st, q, n, r, b, c⟩ => ⟨ρ, _, st, q, fun d v H1 hd s1 rr => r d v H1 hd (.of s1) (st.same.trans s1) rr⟩
def rDrop (te : RE) : RS := fun E ρ => te ρ fun _ => E.nx ρ
def rIfS (c : RT) (t u : RS) : RS := fun E ρ => c ρ fun k => if k = true then t E ρ else u E ρ
theorem ds_if {sa sb : List Stmt} (hc : DT X c tA) (ha : DSs X sa t) (hb : DSs X sb u) : DS X (.If c sa sb pos) (rIfS tA t u) :=
  PS.mono (ps_if hc ha hb) fun De σ H ⟨ρ, E, st, q, n, r, b, c⟩ => ⟨ρ, _, st, q, fun k H1 hk s1 => by
    cases k with
    | true => rw [if_pos rfl] at hk ⊢; exact ⟨ρ, E, st.ext s1, hk, fun ρ2 σ2 H2 x k2 => n ρ2 σ2 H2 x ((Keep.of s1).trans k2), fun d v H2 x k2 => r d v H2 x ((Keep.of s1).trans k2), fun ρ2 σ2 H2 x k2 => b ρ2 σ2 H2 x ((Keep.of s1).trans k2), fun ρ2 σ2 H2 x k2 => c ρ2 σ2 H2 x ((Keep.of s1).trans k2)⟩
    | false => rw [if_neg Bool.false_ne_true] at hk ⊢; exact ⟨ρ, E, st.ext s1, hk, fun ρ2 σ2 H2 x k2 => n ρ2 σ2 H2 x ((Keep.of s1).trans k2), fun d v H2 x k2 => r d v H2 x ((Keep.of s1).trans k2), fun ρ2 σ2 H2 x k2 => b ρ2 σ2 H2 x ((Keep.of s1).trans k2), fun ρ2 σ2 H2 x k2 => c ρ2 σ2 H2 x ((Keep.of s1).trans k2)⟩⟩

/-! ### targets -/
def rgName (i : Nat) : RG := fun d ρ Q => Q (ρ.set i (some (.d d)))
theorem dg_name {i : Nat} {x : Str} (hN : X.N.Nodup) (hi : X.N[i]? = some x := by rfl) (hx : Loc X.env.scope x := by first | exact Or.inl rfl | exact Or.inr rfl) (hf : X.fn x = true ∨ X.env.scope.names.lookup x = some .local := by first | exact .inl rfl | exact .inr rfl | assumption) : DG X (.Name x pos) (rgName i) :=
  PG.mono (pg_name hN hi hx hf) fun v σ H Q ⟨d, ρ, P, r, st, q, k⟩ => k _ _ H q (Keep.refl H) (st.set_d r)
abbrev RGs := List D → En → (En → Prop) → Prop
def liftGs (X : Cx) (g : RGs) : TGs := fun vs σ H Q => ∃ ds ρ P, Reps X.K H ds vs ∧ StOk X ρ σ H ∧ g ds ρ P ∧ ∀ ρ' σ' H', P ρ' → Keep H H' → StOk X ρ' σ' H' → Q σ' H'
def DGs (X : Cx) (ts : List Expr) (g : RGs) : Prop := PGs X ts (liftGs X g)
theorem PGs.mono {X : Cx} {e : List Expr} {t t' : TGs} (h : PGs X e t) (m : ∀ v σ H Q, t' v σ H Q → t v σ H Q) : PGs X e t' := fun pins s σ H v u Q I r q => h pins s σ H v u Q I r (m v σ H Q q)
def rgNil : RGs := fun ds ρ Q => match ds with
  | [] => Q ρ
  | _ => False
def rgCons (g : RG) (u : RGs) : RGs := fun ds ρ Q => match ds with
  | [] => False
  | d :: r => g d ρ fun ρ' => u r ρ' Q
theorem dgs_nil : DGs X [] rgNil := PGs.mono pgs_nil fun vs σ H Q ⟨ds, ρ, P, r, st, q, k⟩ => by
  cases r with
  | nil => exact ⟨rfl, k ρ σ H q (Keep.refl H) st⟩
  | cons _ _ => exact q.elim
theorem dgs_cons {es : List Expr} {g : RG} {u : RGs} (h1 : DG X e g) (h2 : DGs X es u) (hs : (assignEach (e :: es) X.env).map (·.2) = assign e X.env :: (assignEach es X.env).map (·.2) := by rfl) : DGs X (e :: es) (rgCons g u) :=
  PGs.mono (pgs_cons h1 h2 hs) fun vs σ H Q ⟨ds, ρ, P, r, st, q, k⟩ => by
    cases r with
    | nil => exact q.elim
    | cons r rs =>
      refine ⟨_, _, rfl, _, ρ, _, r, st, q, fun ρ' σ' H' hq k1 st1 => ⟨_, ρ', P, rs.keep k1, st1, hq, fun ρ2 σ2 H2 p k2 s2 => k ρ2 σ2 H2 p (k1.trans k2) s2⟩⟩
def rgTup (n : Nat) (g : RGs) : RG := fun d ρ Q => match d with
  | .tup ds => ds.length = n ∧ g ds ρ Q
  | _ => False
theorem dg_tup {es : List Expr} {k : Nat} {g : RGs} {n : Nat} (hc : X.calm = true) (h : DGs X es g) (hn : (assignEach es X.env).length = n := by rfl) (hst : (assignEach es X.env).findIdx? (·.1) = none := by rfl) : DG X (.Tuple es k pos) (rgTup n g) :=
  PG.mono (pg_tup hc h hn hst) fun v σ H Q ⟨d, ρ, P, r, st, q, kk⟩ => by
    cases d with
    | tup ds =>
      cases r with
      | tup h r => exact ⟨_, _, rfl, SqT.of h, by rw [← r.length]; exact q.1, ds, ρ, P, r, st, q.2, kk⟩
    | _ => exact q.elim
def rAsg (te : RE) (g : RG) : RS := fun E ρ => te ρ fun d => g d ρ E.nx
theorem ds_asg {tg : Expr} {g : RG} (he : DE X e te) (hg : DG X tg g) (hs : swapsWithSole [tg] e pos.line X.env = pure false := by rfl) (hw : swappedStores [tg] e X.env = pure none := by rfl)
    (h1 : (assignEach [tg] X.env).map (·.2) = [assign tg X.env] := by rfl) : DS X (.Assign [tg] e pos) (rAsg te g) :=
  PS.mono (ps_asg he hg hs hw h1) fun De σ H ⟨ρ, E, st, q, n, r, b, c⟩ => ⟨ρ, _, st, q, fun d v H1 hd s1 rr => ⟨d, ρ, _, rr, st.ext s1, hd, fun ρ2 σ2 H2 x k2 s2 => n ρ2 σ2 H2 x ((Keep.of s1).trans k2) s2⟩⟩
def rSet (i : Nat) (te : RE) : RS := fun E ρ => te ρ fun d => E.nx (ρ.set i (some (.d d)))
theorem ds_set {i : Nat} {x : Str} {pos' : Pos} (hN : X.N.Nodup) (he : DE X e te) (hi : X.N[i]? = some x := by rfl) (hx : Loc X.env.scope x := by first | exact Or.inl rfl | exact Or.inr rfl) (hs : swapsWith e (some (.Name x pos')) pos.line X.env = pure false := by rfl)
    (hf : X.fn x = true ∨ X.env.scope.names.lookup x = some .local := by first | exact .inl rfl | exact .inr rfl | assumption) : DS X (.Assign [.Name x pos'] e pos) (rSet i te) :=
  PS.mono (ps_set hN hi hx he hs hf) fun De σ H ⟨ρ, E, st, q, n, r, b, c⟩ => ⟨ρ, _, st, q, fun d v H1 hd s1 rr => n _ _ H1 hd (.of s1) ((st.ext s1).set_d rr)⟩
/-- x = a fresh list, kept by x alone -/
def rSetO (i : Nat) (t : RA) : RS := fun E ρ => t ρ fun ds => E.nx (ρ.set i (some (.own ds)))
theorem ds_setO {i : Nat} {x : Str} {pos' : Pos} {t : RA} (hN : X.N.Nodup) (he : DO X e t) (hi : X.N[i]? = some x := by rfl) (hx : Loc X.env.scope x := by first | exact Or.inl rfl | exact Or.inr rfl) (hs : swapsWith e (some (.Name x pos')) pos.line X.env = pure false := by rfl)
    (hf : X.fn x = true ∨ X.env.scope.names.lookup x = some .local := by first | exact .inl rfl | exact .inr rfl | assumption) : DS X (.Assign [.Name x pos'] e pos) (rSetO i t) :=
  PS.mono (ps_set hN hi hx he hs hf) fun De σ H ⟨ρ, E, st, q, n, r, b, c⟩ => ⟨ρ, _, st, q, fun ds p vs H1 hd s1 hp rr => n _ _ _ hd ((Keep.of s1).trans (.of fun b o h => by rw [upd_ne (ne_of_none h hp)]; exact h)) ((st.ext s1).set_own hp rr)⟩
/-- a, b = x, y -/
def rPar (i j : Nat) (t : RA) : RS := fun E ρ => t ρ fun ds => match ds with
  | [x, y] => E.nx ((ρ.set i (some (.d x))).set j (some (.d y)))
  | _ => False
theorem ds_par {i j : Nat} {x y : Str} {t : RA} {px py pt : Pos} {kt k2 pt2} (hc : X.calm = true) (hN : X.N.Nodup) (ha : DA X [a, b] t) (hi : X.N[i]? = some x := by rfl) (hj : X.N[j]? = some y := by rfl) (hij : i ≠ j := by decide)
    (hx : X.env.scope.names.lookup x = some .local := by rfl) (hy : X.env.scope.names.lookup y = some .local := by rfl)
    (hw : swappedStores [.Tuple [.Name x px, .Name y py] kt pt] (.Tuple [a, b] k2 pt2) X.env = pure (some [x, y]) := by rfl)
    (hs : swapsWithSole [.Tuple [.Name x px, .Name y py] kt pt] (.Tuple [a, b] k2 pt2) pos.line X.env = pure false := by rfl) :
    DS X (.Assign [.Tuple [.Name x px, .Name y py] kt pt] (.Tuple [a, b] k2 pt2) pos) (rPar i j t) :=
  PS.mono (ps_par hc hN hi hj hij hx hy ha hw hs) fun De σ H ⟨ρ, E, st, q, n, r, b, c⟩ => ⟨ρ, _, st, q, fun ds vs H1 hd s1 rr => by
    match ds, vs, rr, hd with
    | [x, y], _, .cons r1 (.cons r2 .nil), hd => exact ⟨_, _, rfl, n _ _ H1 hd (.of s1) (((st.ext s1).set_d r1).set_d r2)⟩
    | [], _, _, hd => exact hd.elim
    | [_], _, _, hd => exact hd.elim
    | _ :: _ :: _ :: _, _, _, hd => exact hd.elim⟩

/-! ### ghost freezing ahead of a statement -/
def fzAt (i : Nat) (ρ : En) : En := match ρ[i]? with
  | some (some (.own ds)) => ρ.set i (some (.d (.lst ds)))
  | _ => ρ
theorem ds_fz (i : Nat) (h : DS X st t) : DS X st (fun E ρ => t E (fzAt i ρ)) := by
  intro pins s σ H De I ⟨ρ, E, so, q, n, r, b, c⟩
  have q : t E (fzAt i ρ) := q
  unfold fzAt at q
  split at q
  · rename_i ds e
    obtain ⟨v, h1, p, vs, ev, hp, h0, rr⟩ := so.rel i _ e
    subst ev
    obtain ⟨o, I2⟩ := Inv.freeze I hp
    have kp : Keep H (upd H p (.frz o (.lst vs))) := ⟨fun b ys h => by rw [upd_ne (ne_of h hp (by intro z; cases z))]; exact h, fun b o u h => by rw [upd_ne (ne_of h hp (by intro z; cases z))]; exact h⟩
    have hi : i < ρ.length := (List.getElem?_eq_some_iff.mp e).1
    have so2 : StOk X (ρ.set i (some (.d (.lst ds)))) σ (upd H p (.frz o (.lst vs))) := by
      refine ⟨by simp [so.len], fun b u h => ?_, fun j x ej => ?_, fun j k xs ys a e1 e2 e3 e4 => ?_⟩
      · rw [upd_ne (by rintro rfl; rw [h0] at h; cases h)]; exact so.same b u h
      · by_cases hj : i = j
        · subst hj
          rw [List.getElem?_set_self hi] at ej
          cases ej
          exact ⟨.ref p, h1, .lst (.inl ⟨o, upd_same⟩) (rr.keep kp)⟩
        · rw [List.getElem?_set_ne hj] at ej
          obtain ⟨v, g1, g2⟩ := so.rel j x ej
          refine ⟨v, g1, ?_⟩
          cases x with
          | d x => exact Rep.keep kp g2
          | own zs =>
            obtain ⟨a, vs', e1, e2, e3, r'⟩ := g2
            refine ⟨a, vs', e1, ?_, e3, r'.keep kp⟩
            rw [upd_ne]
            · exact e2
            · rintro rfl
              subst e1
              exact hj (so.sep i j _ _ _ e ej h1 g1)
      · have back : ∀ {j : Nat} {zs : List D}, (ρ.set i (some (.d (.lst ds))))[j]? = some (some (.own zs)) → ρ[j]? = some (some (.own zs)) := fun {j zs} q => by
          by_cases hj : i = j
          · subst hj; rw [List.getElem?_set_self hi] at q; cases q
          · rw [List.getElem?_set_ne hj] at q; exact q
        exact so.sep j k _ _ a (back e1) (back e2) e3 e4
    exact h pins s σ _ De I2 ⟨_, E, so2, q, fun ρ2 σ2 H2 x k2 => n ρ2 σ2 H2 x (kp.trans k2), fun d v H2 x k2 => r d v H2 x (kp.trans k2), fun ρ2 σ2 H2 x k2 => b ρ2 σ2 H2 x (kp.trans k2), fun ρ2 σ2 H2 x k2 => c ρ2 σ2 H2 x (kp.trans k2)⟩
  · exact h pins s σ H De I ⟨ρ, E, so, q, n, r, b, c⟩

/-! ### while -/
def whileD (c : RT) (t : RS) : Nat → RS
  | 0, _, _ => False
  | n + 1, E, ρ => c ρ fun k => if k = true then t { E with nx := whileD c t n E, ct := whileD c t n E, bk := E.nx } ρ else E.nx ρ
def rWhile (c : RT) (t : RS) : RS := fun E ρ => ∃ n, whileD c t n E ρ
theorem ds_while {body : List Stmt} (hp : PassesOwn (model X.prog X.w) X.A X.env X.xe) (hc : DT X c tA) (hb : DSs X body t) : DS X (.While c body [] pos) (rWhile tA t) :=
  PS.mono (ps_while hp hc hb) fun De σ H ⟨ρ, E, st, ⟨m, q⟩, n, r, b, c⟩ => by
    refine ⟨fun m σ' H' => ∃ ρ', StOk X ρ' σ' H' ∧ Keep H H' ∧ whileD tA t m E ρ', ⟨m, ρ, st, Keep.refl H, q⟩, ?_⟩
    rintro m σ' H' ⟨ρ', st', kp, hw⟩
    cases m with
    | zero => exact hw.elim
    | succ m =>
      refine ⟨ρ', _, st', hw, fun k H1 hk s1 => ?_⟩
      have kp1 := kp.trans (.of s1)
      cases k with
      | true =>
        dsimp only at hk ⊢
        rw [if_pos rfl] at hk ⊢
        refine ⟨fun σ2 H2 => ∃ ρ2, StOk X ρ2 σ2 H2 ∧ Keep H H2 ∧ whileD tA t m E ρ2, fun σ2 H2 ⟨ρ2, a1, a2, a3⟩ => ⟨m, Nat.lt_succ_self m, ρ2, a1, a2, a3⟩, ?_⟩
        exact ⟨ρ', _, st'.ext s1, hk, fun ρ2 σ2 H2 x k2 s2 => ⟨ρ2, s2, kp1.trans k2, x⟩, fun d v H2 x k2 => r d v H2 x (kp1.trans k2), fun ρ2 σ2 H2 x k2 => n ρ2 σ2 H2 x (kp1.trans k2), fun ρ2 σ2 H2 x k2 s2 => ⟨ρ2, s2, kp1.trans k2, x⟩⟩
      | false =>
        dsimp only at hk ⊢
        rw [if_neg Bool.false_ne_true] at hk ⊢
        exact n ρ' σ' H1 hk kp1 (st'.ext s1)

/-! ### for -/
/-- an iterator that walks the items xs, whatever else is done -/
def ItOk (X : Cx) (J : It) (xs : List D) (H0 : Hp) : Prop := ∀ i H, Keep H0 H →
  (∀ d, xs[i]? = some d → J.go i H ∧ ∀ x H', J.yld i H x H' → Same H H' ∧ Rep X.K H' d x) ∧ (xs.length ≤ i → J.stop i H)
def liftI (X : Cx) (t : RA) : TI := fun σ H R => ∃ ρ P, StOk X ρ σ H ∧ t ρ P ∧ ∀ xs J H', P xs → Same H H' → ItOk X J xs H' → R J H'
def DI (X : Cx) (tg iter : Expr) (t : RA) : Prop := PI X tg iter (liftI X t)
theorem PI.mono {X : Cx} {tg e : Expr} {t t' : TI} (h : PI X tg e t) (m : ∀ σ H Q, t' σ H Q → t σ H Q) : PI X tg e t' := fun pins s σ H Q I q => h pins s σ H Q I (m σ H Q q)
def forD (g : RG) (t : RS) : List D → RS
  | [], E, ρ => E.nx ρ
  | x :: xs, E, ρ => g x ρ fun ρ1 => t { E with nx := forD g t xs E, ct := forD g t xs E, bk := E.nx } ρ1
def rFor (ti : RA) (g : RG) (t : RS) : RS := fun E ρ => ti ρ fun xs => forD g t xs E ρ
theorem ds_for {tg iter : Expr} {body : List Stmt} {ti : RA} {g : RG} (hp : PassesOwn (model X.prog X.w) X.A X.env X.xe) (hc : X.calm = true) (hi : DI X tg iter ti) (hg : DG X tg g) (hb : DSs X body t)
    (hs : ∀ x, foldedSetIterable iter X.env x = pure x := by intro _; rfl) : DS X (.For tg iter body [] pos) (rFor ti g t) :=
  PS.mono (ps_for hp hc hi hg hb hs) fun De σ H ⟨ρ, E, st, q, n, r, b, c⟩ => by
    refine ⟨ρ, _, st, q, fun xs J H1 hx s1 ok => ?_⟩
    refine ⟨fun i m σ' H' => m = xs.length - i ∧ i ≤ xs.length ∧ ∃ ρ', StOk X ρ' σ' H' ∧ Keep H1 H' ∧ forD g t (xs.drop i) E ρ', ⟨xs.length, by simp, Nat.zero_le _, ρ, st.ext s1, Keep.refl H1, by simpa using hx⟩, ?_⟩
    rintro i m σ' H' ⟨rfl, hi, ρ', st', kp, hf⟩
    obtain ⟨o1, o2⟩ := ok i H' kp
    have kp1 : Keep H H' := (Keep.of s1).trans kp
    by_cases hlt : i < xs.length
    · have e : xs.drop i = xs[i] :: xs.drop (i + 1) := List.drop_eq_getElem_cons hlt
      rw [e] at hf
      obtain ⟨go, yl⟩ := o1 xs[i] (List.getElem?_eq_getElem hlt)
      refine .inr ⟨go, fun σ2 H2 => ∃ ρ2, StOk X ρ2 σ2 H2 ∧ Keep H1 H2 ∧ forD g t (xs.drop (i + 1)) E ρ2, fun σ2 H2 hh => ⟨xs.length - (i + 1), by omega, rfl, hlt, hh⟩, fun x H2 y => ?_⟩
      obtain ⟨s2, rx⟩ := yl x H2 y
      refine ⟨xs[i], ρ', _, rx, st'.ext s2, hf, fun ρ3 σ3 H3 h3 k3 s3 => ?_⟩
      have k13 : Keep H1 H3 := (kp.trans (.of s2)).trans k3
      have k03 : Keep H H3 := (kp1.trans (.of s2)).trans k3
      exact ⟨ρ3, _, s3, h3, fun ρ4 σ4 H4 x4 k4 s4 => ⟨ρ4, s4, k13.trans k4, x4⟩, fun d v H4 x4 k4 => r d v H4 x4 (k03.trans k4), fun ρ4 σ4 H4 x4 k4 => n ρ4 σ4 H4 x4 (k03.trans k4), fun ρ4 σ4 H4 x4 k4 s4 => ⟨ρ4, s4, k13.trans k4, x4⟩⟩
    · have e : i = xs.length := by omega
      subst e
      rw [List.drop_length] at hf
      exact .inl ⟨o2 (Nat.le_refl _), n ρ' σ' H' hf kp1 st'⟩
end

/-! ## what is walked -/
section
variable {X : Cx} {tg e : Expr} {te : RE} {pos p : Pos}
def riL (te : RE) : RA := fun ρ Q => te ρ fun d => match d with
  | .lst ds => Q ds
  | _ => False
theorem di_list (h : DE X e te) : DI X tg e (riL te) := by
  refine PI.mono (pi_list h) fun σ H R ⟨ρ, P, st, q, k⟩ => ⟨ρ, _, st, q, fun d v H1 hd s1 r => ?_⟩
  cases d with
  | lst ds =>
    cases r with
    | @lst a vs _ hz r =>
      refine ⟨a, rfl, ⟨vs, hz.sq⟩, k ds _ H1 hd s1 fun i H2 kp => ⟨fun d e => ?_, fun hl => ⟨vs, (hz.keep kp).sq, by rw [← r.length]; exact hl⟩⟩⟩
      obtain ⟨v, h1, h2⟩ := (r.keep kp).get e
      refine ⟨⟨vs, v, (hz.keep kp).sq, h1⟩, fun x H' y => ?_⟩
      obtain ⟨e1, e2⟩ := y
      subst e1
      have e3 := e2 vs (hz.keep kp).sq
      rw [h1] at e3; cases e3
      exact ⟨Same.refl _, h2⟩
  | _ => exact hd.elim
def riT (te : RE) : RA := fun ρ Q => te ρ fun d => match d with
  | .tup ds => Q ds
  | _ => False
/-- lo, lo + 1, .. -/
def rangeD (lo : Int) (n : Nat) : List D := (List.range n).map fun k : Nat => D.int (lo + (k : Int))
theorem itr_ok {H0 : Hp} (lo : Int) (n : Nat) : ItOk X (Itr lo n) (rangeD lo n) H0 := fun i H kp => by
  refine ⟨fun d e => ?_, fun hl => by show n ≤ i; simpa [rangeD] using hl⟩
  unfold rangeD at e
  rw [List.getElem?_map] at e
  by_cases hi : i < n
  · rw [List.getElem?_range hi] at e
    cases e
    exact ⟨hi, fun x H' y => by obtain ⟨rfl, rfl⟩ := y; exact ⟨Same.refl _, .int _⟩⟩
  · rw [List.getElem?_eq_none (by simpa using hi)] at e; cases e
structure RngOk (j : Int) : Prop where
  lo : -(2 ^ 62) ≤ j
  hi : j < 2 ^ 62
def riR1 (t : RA) : RA := fun ρ Q => t ρ fun ds => match ds with
  | [.int j] => RngOk j ∧ Q (rangeD 0 j.toNat)
  | _ => False
def riR2 (t : RA) : RA := fun ρ Q => t ρ fun ds => match ds with
  | [.int i, .int j] => (RngOk i ∧ RngOk j) ∧ Q (rangeD i (j - i).toNat)
  | _ => False
theorem di_range1 {a : Expr} {t : RA} (hm : X.mg "range" = none) (ha : DA X [a] t) (hg : Gl X "range" := by rfl) (hs : starEach [a] X.env = [(false, eval a X.env)] := by rfl) : DI X tg (.Call (.Name "range" p) [a] [] pos) (riR1 t) := by
  refine PI.mono (pi_range1 hg hm ha hs) fun σ H R ⟨ρ, P, st, q, k⟩ => ⟨ρ, _, st, q, fun ds vs H1 hd s1 r => ?_⟩
  match ds, vs, r, hd with
  | [.int j], _, .cons r1 .nil, hd =>
    rw [r1.int_inv]
    exact ⟨j, rfl, hd.1.lo, hd.1.hi, k _ _ H1 hd.2 s1 (itr_ok 0 _)⟩
theorem di_range2 {a b : Expr} {t : RA} (hm : X.mg "range" = none) (ha : DA X [a, b] t) (hg : Gl X "range" := by rfl) (hs : starEach [a, b] X.env = [(false, eval a X.env), (false, eval b X.env)] := by rfl) (hs2 : starEach [b] X.env = [(false, eval b X.env)] := by rfl) : DI X tg (.Call (.Name "range" p) [a, b] [] pos) (riR2 t) := by
  refine PI.mono (pi_range2 hg hm ha hs hs2) fun σ H R ⟨ρ, P, st, q, k⟩ => ⟨ρ, _, st, q, fun ds vs H1 hd s1 r => ?_⟩
  match ds, vs, r, hd with
  | [.int i, .int j], _, .cons r1 (.cons r2 .nil), hd =>
    rw [r1.int_inv, r2.int_inv]
    exact ⟨i, j, rfl, ⟨hd.1.1.lo, hd.1.1.hi, hd.1.2.lo, hd.1.2.hi⟩, k _ _ H1 hd.2 s1 (itr_ok i _)⟩
end

/-! ## calls of the text's own defs -/
/-- what a def is worth, over plain data -/
abbrev FD := List D → (D → Prop) → Prop
def spD (K : PySem.W.Frag) (F : FD) : Sp := fun vs H Q _ => ∃ ds P, Reps K H ds vs ∧ F ds P ∧ ∀ d v H', P d → Same H H' → Rep K H' d v → Q v H'
def rCall (F : FD) (t : RA) : RE := fun ρ Q => t ρ fun ds => F ds Q
section
variable {X : Cx} {k : Nat} {f : Addr} {fd : FuncData} {ps : List Str} {F : FD} {x : Str} {p pos : Pos} {e : Expr} {es : List Expr} {t : RA}
theorem de_call (G : FnOk X.prog X.w X.K X.mg X.base CX0 k f fd ps (spD X.K F)) (hr : Room k X.A) (hm : X.mg x = some (.ref f)) (hk : PySem.W.keepIn X.K (.ref f) = true) (hb : Binds X.K fd ps []) (ha : DA X (e :: es) t) (hg : Gl X x := by rfl)
    (hdb : (x == ("__debug__" : Str)) = false := by decide) (he : starEach (e :: es) X.env = (false, eval e X.env) :: starEach es X.env := by rfl) (hpl : (backTo pos (starEach es X.env)).any (·.1) = false := by rfl) :
    DE X (.Call (.Name x p) (e :: es) [] pos) (rCall F t) :=
  PE.mono (pe_call (E := E0) G hr hg hm hk hb .nil pass0 ha hdb he hpl) fun σ H Q ⟨ρ, P, st, q, kk⟩ => ⟨ρ, _, st, q, fun ds vs H1 hd s1 r => by
    show spD X.K F (vs ++ []) H1 Q E0
    rw [List.append_nil]
    exact ⟨ds, P, r, hd, fun d v H2 hp s2 r2 => kk d v H2 hp (s1.trans s2) r2⟩⟩
end
/-- the names at the entry -/
def startD (N : List Str) (ds : List D) : En := ds.map (fun d => some (.d d)) ++ List.replicate (N.length - ds.length) none
section
variable {P : Program} {w : World} {K : PySem.W.Frag} {mg : Str → Option Value} {base : Heap}
theorem start_ok {X : Cx} {N : List Str} {ds : List D} {vs : List V} (r : Reps X.K X.H₀ ds vs) : StOk X (startD N ds) (start N vs) X.H₀ := by
  have hl := r.length
  have own : ∀ (i : Nat) (xs : List D), (startD N ds)[i]? ≠ some (some (S.own xs)) := fun i xs e => by
    unfold startD at e
    by_cases hi : i < ds.length
    · rw [List.getElem?_append_left (by simpa using hi), List.getElem?_map, List.getElem?_eq_getElem hi] at e
      cases e
    · rw [List.getElem?_append_right (by simpa using hi), List.getElem?_replicate] at e
      split at e <;> cases e
  refine ⟨by simp [startD, start, hl], Same.refl _, fun i x e => ?_, fun i j xs ys a e1 _ _ _ => absurd e1 (own i xs)⟩
  unfold startD at e
  by_cases hi : i < ds.length
  · rw [List.getElem?_append_left (by simpa using hi), List.getElem?_map, List.getElem?_eq_getElem hi] at e
    cases e
    obtain ⟨v, h1, h2⟩ := r.get (List.getElem?_eq_getElem hi)
    refine ⟨v, ?_, h2⟩
    unfold start
    rw [List.getElem?_append_left (by simpa [← hl] using hi), List.getElem?_map, h1]; rfl
  · rw [List.getElem?_append_right (by simpa using hi), List.getElem?_replicate] at e
    split at e <;> cases e
/-- THE RULE for a def: its body's reading, and the pure fact that F is met by it -/
theorem fn_ok {x qual : Str} {st : Stmt} {f : Addr} {fd : FuncData} {N ps : List Str} {k : Nat} {F : FD} {t : RS} (Fu : Fun K x qual st f fd) (Sc : FnScope N ps (defScope st))
    (hbody : ∀ (cdv : Value) (A : Around) (outer : List Env) (s : Shared) (H : Hp) (E : XK), Room k (A.deeper (envOfC qual (defScope st) s.heap.objs.size f cdv)) →
      DSs (cxOf CX0 P w K mg base N qual (defScope st) f cdv A outer s H E).nox (defBody st) t)
    (len : ∀ ds Q, F ds Q → ds.length = ps.length) (pure : ∀ ds Q, F ds Q → t { nx := fun _ => Q .non, rt := Q } (startD N ds)) : FnOk P w K mg base CX0 (k + 1) f fd ps (spD K F) := by
  refine Fu.ok Sc (fun vs H Q E ⟨ds, P, r, h, _⟩ => by rw [← r.length]; exact len ds P h) fun cdv A outer s H vs Q E hr ⟨ds, P', r, h, kk⟩ => ⟨_, hbody cdv A outer s H E hr, ?_⟩
  exact ⟨startD N ds, _, start_ok (X := (cxOf CX0 P w K mg base N qual (defScope st) f cdv A outer s H E).nox) r, pure ds P' h, fun ρ' σ' H' hq k s' => kk .non .non H' hq s'.same .non, fun d v H' hq k sm rv => kk d v H' hq sm rv, fun _ _ _ z => z.elim, fun _ _ _ z => z.elim⟩
end
end L2.R2

set_option Elab.async false
set_option linter.all false
set_option maxRecDepth 100000
namespace L2.R2
open PySem PySem.Spec PyProof.Rows L2

/-! ## sizes of ints -/
def BL (n : Nat) (i : Int) : Prop := i.natAbs < 2 ^ n
theorem BL.bits {n : Nat} {i : Int} (h : BL n i) : Builtin.Int.intBits i ≤ n := intBits_le_iff.mpr h
theorem BL.of {n : Nat} {i : Int} (h : Builtin.Int.intBits i ≤ n) : BL n i := intBits_le_iff.mp h
theorem BL.mono {m n : Nat} {i : Int} (h : BL m i) (l : m ≤ n) : BL n i := BL.of (Nat.le_trans h.bits l)
theorem BL.add {m n : Nat} {i j : Int} (a : BL m i) (b : BL n j) : BL (max m n + 1) (i + j) := BL.of (intBits_add_le a.bits b.bits)
theorem BL.sub {m n : Nat} {i j : Int} (a : BL m i) (b : BL n j) : BL (max m n + 1) (i - j) := BL.of (intBits_sub_le a.bits b.bits)
theorem BL.mul {m n : Nat} {i j : Int} (a : BL m i) (b : BL n j) : BL (m + n) (i * j) := BL.of (intBits_mul_le a.bits b.bits)
theorem BL.neg {m : Nat} {i : Int} (a : BL m i) : BL m (-i) := BL.of (intBits_neg_le a.bits)
theorem BL.fdiv {m : Nat} {i j : Int} (a : BL m i) : BL m (i.fdiv j) := BL.of (intBits_fdiv_le a.bits)
theorem BL.le {m : Nat} {i j : Int} (a : BL m j) (h : i.natAbs ≤ j.natAbs) : BL m i := Nat.lt_of_le_of_lt h a
theorem BL.of_lt {m : Nat} {i : Int} (h1 : -(2 ^ m : Nat) < i) (h2 : i < (2 ^ m : Nat)) : BL m i := by unfold BL; omega
theorem BL.intMulOk {m n : Nat} {i j : Int} (a : BL m i) (b : BL n j) (h : m + n ≤ 134217728) : IntMulOk i j := IntMulOk.of_le a.bits b.bits h
theorem BL.noPy {i j : Int} (h : BL 9000 j) : Builtin.divisionGoesByPylong i j = false := by
  refine PyProof.noPylong_of_log2 ?_
  by_cases h0 : j.natAbs = 0
  · rw [h0]; decide +kernel
  · exact (Nat.log2_lt h0).mpr h

section
variable {X : Cx} {e a b c : Expr} {pos : Pos}
theorem RepB.int_inv {K : PySem.W.Frag} {H : Hp} {i : Int} {v : V} (h : RepB K H (.int i) v) : v = .int i := by
  rcases h with h | ⟨ds, a, vs, e1, _⟩
  · exact h.int_inv
  · cases e1
theorem RepB.bl_inv {K : PySem.W.Frag} {H : Hp} {i : Bool} {v : V} (h : RepB K H (.bl i) v) : v = .bl i := by
  rcases h with h | ⟨ds, a, vs, e1, _⟩
  · exact h.bl_inv
  · cases e1
/-! ## ints -/
structure MulOk (i j : Int) : Prop where
  ok : IntMulOk i j
structure DivOk (i j : Int) : Prop where
  nz : j ≠ 0
  np : Builtin.divisionGoesByPylong i j = false
structure ModOk (j : Int) : Prop where
  nz : j ≠ 0
structure PowOk (i j : Int) : Prop where
  ok : 0 ≤ j ∧ j ≤ 1000000 ∧ i.natAbs < 2 ^ 64
theorem BL.mulOk {m n : Nat} {i j : Int} (a : BL m i) (b : BL n j) (h : m + n ≤ 134217728 := by decide) : MulOk i j := ⟨a.intMulOk b h⟩
theorem BL.divOk {i j : Int} (h : BL 9000 j) (nz : j ≠ 0) : DivOk i j := ⟨nz, h.noPy⟩
def dAdd : R22 := fun x y Q => match x, y with
  | .int i, .int j => Q (.int (i + j))
  | _, _ => False
def dSub : R22 := fun x y Q => match x, y with
  | .int i, .int j => Q (.int (i - j))
  | _, _ => False
def dMul : R22 := fun x y Q => match x, y with
  | .int i, .int j => MulOk i j ∧ Q (.int (i * j))
  | _, _ => False
def dFdiv : R22 := fun x y Q => match x, y with
  | .int i, .int j => DivOk i j ∧ Q (.int (i.fdiv j))
  | _, _ => False
def dMod : R22 := fun x y Q => match x, y with
  | .int i, .int j => ModOk j ∧ Q (.int (i.fmod j))
  | _, _ => False
def dPow : R22 := fun x y Q => match x, y with
  | .int i, .int j => PowOk i j ∧ Q (.int (i ^ j.toNat))
  | _, _ => False
theorem opIn {f : Value → Value → Sem Value} {C : Int → Int → Prop} {g : Int → Int → Int} {r : R22} (h : OpR X f (rI C fun i j => .int (g i j)))
    (hr : ∀ x y Q, r x y Q → ∃ i j, x = .int i ∧ y = .int j ∧ C i j ∧ Q (.int (g i j))) : OpD X f r := by
  intro pins s σ H x y v u Q I rx ry ⟨d, e, P, r1, r2, q, k⟩
  obtain ⟨i, j, rfl, rfl, hc, q⟩ := hr _ _ _ q
  exact h pins s σ H x y v u Q I rx ry ⟨i, j, r1.int_inv, r2.int_inv, hc, k _ _ H q (Same.refl H) (.int _)⟩
theorem od_add : OpD X (binaryOp .Add) dAdd := opIn (C := fun _ _ => True) (g := fun i j => i + j) (opI fun _ _ _ _ _ _ _ _ q => add_int q) fun x y Q q => by
  unfold dAdd at q; split at q
  · exact ⟨_, _, rfl, rfl, trivial, q⟩
  · exact q.elim
theorem od_sub : OpD X (binaryOp .Sub) dSub := opIn (C := fun _ _ => True) (g := fun i j => i - j) (opI fun _ _ _ _ _ _ _ _ q => sub_int q) fun x y Q q => by
  unfold dSub at q; split at q
  · exact ⟨_, _, rfl, rfl, trivial, q⟩
  · exact q.elim
theorem od_mul : OpD X (binaryOp .Mult) dMul := opIn (C := fun i j => IntMulOk i j) (g := fun i j => i * j) (opI fun _ _ _ _ _ _ _ hc q => mul_int q hc) fun x y Q q => by
  unfold dMul at q; split at q
  · exact ⟨_, _, rfl, rfl, q.1.ok, q.2⟩
  · exact q.elim
theorem od_fdiv : OpD X (binaryOp .FloorDiv) dFdiv := opIn (C := fun i j => j ≠ 0 ∧ Builtin.divisionGoesByPylong i j = false) (g := fun i j => i.fdiv j) (opI fun _ _ _ _ _ _ _ hc q => floordiv_int hc.1 q (.inl hc.2)) fun x y Q q => by
  unfold dFdiv at q; split at q
  · exact ⟨_, _, rfl, rfl, ⟨q.1.nz, q.1.np⟩, q.2⟩
  · exact q.elim
theorem od_mod : OpD X (binaryOp .Mod) dMod := opIn (C := fun _ j => j ≠ 0) (g := fun i j => i.fmod j) (opI fun _ _ _ _ _ _ _ hc q => mod_int' hc q) fun x y Q q => by
  unfold dMod at q; split at q
  · exact ⟨_, _, rfl, rfl, q.1.nz, q.2⟩
  · exact q.elim
theorem od_pow : OpD X (binaryOp .Pow) dPow := opIn (C := fun i j => 0 ≤ j ∧ j ≤ 1000000 ∧ i.natAbs < 2 ^ 64) (g := fun i j => i ^ j.toNat) (opI fun _ _ _ _ _ _ _ hc q => pow_int_small hc.1 hc.2.1 hc.2.2 q) fun x y Q q => by
  unfold dPow at q; split at q
  · exact ⟨_, _, rfl, rfl, q.1.ok, q.2⟩
  · exact q.elim
def dNeg : D → (D → Prop) → Prop := fun x Q => match x with
  | .int i => Q (.int (-i))
  | _ => False
theorem ud_neg : UnD X (unaryOp .USub) dNeg := by
  intro pins s σ H x v Q I rx ⟨d, P, r, q, k⟩
  unfold dNeg at q; split at q
  · rename_i i
    exact un_neg pins s σ H x v Q I rx ⟨i, r.int_inv, k _ _ H q (Same.refl H) (.int _)⟩
  · exact q.elim

/-! ## comparisons -/
def dCmp (p : Int → Int → Bool) : R22 := fun x y Q => match x, y with
  | .int i, .int j => Q (.bl (p i j))
  | _, _ => False
theorem opCm {f : Value → Value → Sem Value} {p : Int → Int → Bool} (h : OpR X f (rI0 fun i j => .bl (p i j))) : OpD X f (dCmp p) := by
  intro pins s σ H x y v u Q I rx ry ⟨d, e, P, r1, r2, q, k⟩
  unfold dCmp at q; split at q
  · rename_i i j
    exact h pins s σ H x y v u Q I rx ry ⟨i, j, r1.int_inv, r2.int_inv, k _ _ H q (Same.refl H) (.bl _)⟩
  · exact q.elim
theorem od_lt : OpD X (compareOp .Lt) (dCmp fun i j => decide (i < j)) := opCm op_lt
theorem od_gt : OpD X (compareOp .Gt) (dCmp fun i j => decide (j < i)) := opCm op_gt
/-- == and != of ints, of bools -/
def dEqS (neg : Bool) : R22 := fun x y Q => match x, y with
  | .int i, .int j => Q (.bl (if neg then !decide (i = j) else decide (i = j)))
  | .bl i, .bl j => Q (.bl (if neg then !decide (i = j) else decide (i = j)))
  | _, _ => False
theorem od_eqS : OpD X (compareOp .Eq) (dEqS false) := by
  intro pins s σ H x y v u Q I rx ry ⟨d, e, P, r1, r2, q, k⟩
  unfold dEqS at q; split at q
  · rename_i i j
    rw [r1.int_inv] at rx; rw [r2.int_inv] at ry
    exact op_eq pins s σ H _ _ v u Q I rx ry ⟨rfl, by
      have e : decide (V.int i = V.int j) = decide (i = j) := by simp
      rw [e]; exact k _ _ H q (Same.refl H) (.bl _)⟩
  · rename_i i j
    rw [r1.bl_inv] at rx; rw [r2.bl_inv] at ry
    exact op_eq pins s σ H _ _ v u Q I rx ry ⟨rfl, by
      have e : decide (V.bl i = V.bl j) = decide (i = j) := by simp
      rw [e]; exact k _ _ H q (Same.refl H) (.bl _)⟩
  · exact q.elim
theorem od_neS : OpD X (compareOp .NotEq) (dEqS true) := by
  intro pins s σ H x y v u Q I rx ry ⟨d, e, P, r1, r2, q, k⟩
  unfold dEqS at q; split at q
  · rename_i i j
    rw [r1.int_inv] at rx; rw [r2.int_inv] at ry
    exact op_ne pins s σ H _ _ v u Q I rx ry ⟨rfl, by
      have e : decide (V.int i = V.int j) = decide (i = j) := by simp
      rw [e]; exact k _ _ H q (Same.refl H) (.bl _)⟩
  · rename_i i j
    rw [r1.bl_inv] at rx; rw [r2.bl_inv] at ry
    exact op_ne pins s σ H _ _ v u Q I rx ry ⟨rfl, by
      have e : decide (V.bl i = V.bl j) = decide (i = j) := by simp
      rw [e]; exact k _ _ H q (Same.refl H) (.bl _)⟩
  · exact q.elim
/-- x is None, x is not None -/
def isNon : D → Bool
  | .non => true
  | _ => false
def dIsN (neg : Bool) : R22 := fun x y Q => match y with
  | .non => Q (.bl (if neg then !isNon x else isNon x))
  | _ => False
/-! ## places and slices -/
def dIx : R22 := fun x y Q => match x, y with
  | .lst ds, .int i => match atI ds i with
    | some d => Q d
    | none => False
  | .tup ds, .int i => match atI ds i with
    | some d => Q d
    | none => False
  | _, _ => False
theorem atI_reps {K : PySem.W.Frag} {H : Hp} {ds : List D} {vs : List V} {i : Int} {d : D} (r : Reps K H ds vs) (h : atI ds i = some d) : ∃ v, atI vs i = some v ∧ Rep K H d v := by
  unfold atI at h ⊢
  rw [← r.length]
  cases e : ixN ds.length i with
  | none => rw [e] at h; cases h
  | some j =>
    rw [e] at h
    exact r.get h
theorem de_ix {ta tb : RE} (ha : DB X a ta) (hb : DB X b tb) (hs : PlainIx b := by intro _ _; rfl) : DE X (.Subscript a b pos) (r2 dIx ta tb) := by
  refine PE.mono (pe_ix (ix_list.or ix_tup) ha hb hs) fun σ H Q h => ?_
  obtain ⟨ρ, P, st, ht, hP⟩ := h
  refine ⟨ρ, _, st, ht, fun x v H1 h1 s1 r1 => ⟨ρ, _, st.ext s1, h1, fun y u H2 h2 s2 r2 => ?_⟩⟩
  have r1' := r1.same s2
  unfold dIx at h2; split at h2
  · rename_i ds i
    split at h2
    · rename_i d e
      obtain ⟨p, vs, rfl, hq, rr⟩ := r1'.lst
      obtain ⟨w', e', rw'⟩ := atI_reps rr e
      exact .inl ⟨p, vs, i, w', rfl, r2.int_inv, hq, e', hP d w' H2 h2 (s1.trans s2) rw'⟩
    · exact h2.elim
  · rename_i ds i
    split at h2
    · rename_i d e
      obtain ⟨p, vs, rfl, hq, rr⟩ := r1'.tup
      obtain ⟨w', e', rw'⟩ := atI_reps rr e
      exact .inr ⟨p, vs, i, w', rfl, r2.int_inv, SqT.of hq, e', hP d w' H2 h2 (s1.trans s2) rw'⟩
    · exact h2.elim
  · exact h2.elim
/-- the part of a slice: left out, or an int -/
abbrev RO := En → (Option Int → Prop) → Prop
def rNoPart : RO := fun _ Q => Q none
def rPart (t : RE) : RO := fun ρ Q => t ρ fun d => match d with
  | .int i => Q (some i)
  | _ => False
def cutD (xs : List D) (lo hi : Option Int) : List D := (xs.drop (HT.sIx xs.length 0 lo)).take (HT.sIx xs.length xs.length hi - HT.sIx xs.length 0 lo)
def rSlL' (te : RE) (tl th : RO) : RA := fun ρ Q => te ρ fun x => tl ρ fun l => th ρ fun u => match x with
  | .lst ds => Q (cutD ds l u)
  | _ => False
/-! ## built-in calls -/
def liftCB (X : Cx) (r : List D → (D → Prop) → Prop) : List V → Hp → VK → Prop := fun xs H Q => ∃ ds P, Reps X.K H ds xs ∧ r ds P ∧ ∀ z v H', P z → Same H H' → Rep X.K H' z v → Q v H'
def CallD (X : Cx) (f : Value) (r : List D → (D → Prop) → Prop) : Prop := CallR X f (liftCB X r)
def rCB (r : List D → (D → Prop) → Prop) (t : RA) : RE := fun ρ Q => t ρ fun ds => r ds Q
variable {x : Str} {p : Pos} {es : List Expr} {t : RA} {id T : String} {r : List D → (D → Prop) → Prop}
theorem de_callB (hc : CallD X (.builtin id) r) (hm : X.mg x = none) (hv : bootBuiltins x = some (.builtin id)) (ha : DA X (e :: es) t) (hg : Gl X x := by rfl) (hn : x ≠ "__name__" := by decide) (hdb : (x == ("__debug__" : Str)) = false := by decide)
    (he : starEach (e :: es) X.env = (false, eval e X.env) :: starEach es X.env := by rfl) (hpl : (backTo pos (starEach es X.env)).any (·.1) = false := by rfl) : DE X (.Call (.Name x p) (e :: es) [] pos) (rCB r t) :=
  PE.mono (pe_callB hc hg hm hv ha hn hdb he hpl) fun σ H Q ⟨ρ, P, st, q, k⟩ => ⟨ρ, _, st, q, fun ds vs H1 hd s1 rr => ⟨ds, P, rr, hd, fun z v H2 hz s2 r2 => k z v H2 hz (s1.trans s2) r2⟩⟩
def dAbs : List D → (D → Prop) → Prop := fun ds Q => match ds with
  | [.int i] => Q (.int (if i < 0 then -i else i))
  | _ => False
theorem cd_abs : CallD X (.builtin "abs") dAbs := by
  intro pins s σ H xs us Q I rv ⟨ds, P, r, q, k⟩
  unfold dAbs at q; split at q
  · rename_i i
    cases r with
    | cons r1 r2 =>
      cases r2
      rw [r1.int_inv] at rv
      exact call_abs pins s σ H _ us Q I rv ⟨i, rfl, k _ _ H q (Same.refl H) (.int _)⟩
  · exact q.elim
def dInt : List D → (D → Prop) → Prop := fun ds Q => match ds with
  | [.bl b] => Q (.int (if b then 1 else 0))
  | [.int i] => Q (.int i)
  | _ => False
def dMax2 : List D → (D → Prop) → Prop := fun ds Q => match ds with
  | [.int i, .int j] => Q (.int (if j > i then j else i))
  | _ => False
def dMin2 : List D → (D → Prop) → Prop := fun ds Q => match ds with
  | [.int i, .int j] => Q (.int (if j < i then j else i))
  | _ => False
theorem cd_min2 (hc : X.calm = true := by rfl) : CallD X (.builtin "min") dMin2 := by
  intro pins s σ H xs us Q I rv ⟨ds, P, r, q, k⟩
  unfold dMin2 at q; split at q
  · rename_i i j
    match xs, r with
    | _, .cons r1 (.cons r2 .nil) =>
      rw [r1.int_inv, r2.int_inv] at rv
      exact call_min2 hc pins s σ H _ us Q I rv ⟨i, j, rfl, k _ _ H q (Same.refl H) (.int _)⟩
  · exact q.elim
/-- len(x), x borrowed -/
def dLen : D → (D → Prop) → Prop := fun d Q => match d with
  | .lst ds => Q (.int ds.length)
  | .tup ds => Q (.int ds.length)
  | _ => False
theorem pa_one {t : TE} (h : PE X e t) (hs : starEach [e] X.env = [(false, eval e X.env)] := by rfl) (hn : starEach [] X.env = [] := by rfl) : PA X [e] (fun σ H Q => t σ H fun v H' => Q [v] H') :=
  PA.mono (pa_cons h pa_nil (by rw [hs, hn])) fun σ H Q q => q
theorem de_len {te : RE} (hm : X.mg "len" = none) (h : DB X e te) (hg : Gl X "len" := by rfl) (hs : starEach [e] X.env = [(false, eval e X.env)] := by rfl) (hn : starEach [] X.env = [] := by rfl) : DE X (.Call (.Name "len" p) [e] [] pos) (r1 dLen te) := by
  refine PE.mono (pe_callB call_len_seq hg hm PySem.boot_len (pa_one h hs hn) (by decide) (by decide) (by rw [hs, hn]) (by rw [hn]; rfl)) fun σ H Q ⟨ρ, P, st, q, k⟩ => ⟨ρ, _, st, q, fun d v H1 hd s1 r => ?_⟩
  unfold dLen at hd; split at hd
  · obtain ⟨p, vs, rfl, hq, rr⟩ := r.lst
    exact ⟨p, vs, rfl, .inl hq, by rw [← rr.length]; exact k _ _ H1 hd s1 (.int _)⟩
  · obtain ⟨p, vs, rfl, hq, rr⟩ := r.tup
    exact ⟨p, vs, rfl, .inr (SqT.of hq), by rw [← rr.length]; exact k _ _ H1 hd s1 (.int _)⟩
  · exact hd.elim
end
end L2.R2

set_option Elab.async false
set_option linter.all false
set_option maxRecDepth 100000
namespace L2.R2
open PySem PySem.Spec PyProof.Rows L2

/-! ## walks that hand out pairs -/
section
variable {X : Cx} {pins : List (Addr × Obj)} {σ : St} {H : Hp} {s : Shared} {h' : Heap}
end
def enumD (ds : List D) : List D := ds.zipIdx.map fun p => D.tup [.int (p.2 : Int), p.1]
section
variable {X : Cx} {e : Expr} {te : RE} {pos p : Pos} {elts : List Expr} {k : Nat} {tp : Pos}
def riEn (te : RE) : RA := fun ρ Q => te ρ fun d => match d with
  | .lst ds => Q (enumD ds)
  | _ => False
end

/-! ## isinstance -/
def isiD (T : String) : D → Option Bool
  | .non => some (T == "NoneType")
  | .bl _ => some (T == "bool" || T == "int")
  | .int _ => some (T == "int")
  | .str _ => some (T == "str")
  | .tup _ => some (T == "tuple")
  | .lst _ => none
def dIsi (T : String) : D → (D → Prop) → Prop := fun d Q => match isiD T d with
  | some b => Q (.bl b)
  | none => False
/-- what the table says of the built-in types -/
structure TyTab (K : PySem.W.Frag) (T : String) : Prop where
  non : PySem.W.kitOne K (.type "NoneType") (.type T) = some (T == "NoneType")
  bl : PySem.W.kitOne K (.type "bool") (.type T) = some (T == "bool" || T == "int")
  int : PySem.W.kitOne K (.type "int") (.type T) = some (T == "int")
  str : PySem.W.kitOne K (.type "str") (.type T) = some (T == "str")
  tup : PySem.W.kitOne K (.type "tuple") (.type T) = some (T == "tuple")
section
variable {X : Cx} {e : Expr} {te : RE} {pos p p2 : Pos} {T : String} {x : Str}
theorem de_isi (tab : TyTab X.K T) (hm : X.mg "isinstance" = none) (hT : X.mg x = none) (hb : bootBuiltins x = some (.type T)) (h : DE X e te) (hg : Gl X "isinstance" := by rfl) (hgT : Gl X x := by rfl) (hn : x ≠ "__name__" := by decide) (hd : (x == ("__debug__" : Str)) = false := by decide)
    (hs : starEach [e, .Name x p2] X.env = (false, eval e X.env) :: starEach [.Name x p2] X.env := by rfl) (hs2 : starEach [.Name x p2] X.env = (false, eval (.Name x p2) X.env) :: starEach [] X.env := by rfl) (hpl : (backTo pos (starEach [.Name x p2] X.env)).any (·.1) = false := by rfl) :
    DE X (.Call (.Name "isinstance" p) [e, .Name x p2] [] pos) (r1 (dIsi T) te) := by
  have hc : CallR X (.builtin "isinstance") (fun xs H Q => ∃ d v P, xs = [v, .ty T] ∧ Rep X.K H d v ∧ dIsi T d P ∧ ∀ b, P (.bl b) → Q (.bl b) H) := by
    intro pins s σ H xs us Q I r ⟨d, v, P, ex, rd, q, k⟩
    subst ex
    obtain ⟨u, w', rfl, r1, r2⟩ := vals2 r
    cases r2
    unfold dIsi at q
    split at q
    · rename_i b eb
      have fin : ∀ {t : Value}, TyOf X.K H v t → PySem.W.kitOne X.K t (.type T) = some b → wpAny (model X.prog X.w) X.A (call (.builtin "isinstance") [u, .type T]) (EP X pins σ Q) X.xe s := fun ty e => isinst_ok I r1 ty e fun tk => ⟨.bl b, H, I.tok tk, rfl, k b q⟩
      cases rd with
      | non => cases eb; exact fin .non tab.non
      | bl _ => cases eb; exact fin (.bl _) tab.bl
      | int _ => cases eb; exact fin (.int _) tab.int
      | str _ => cases eb; exact fin (.str _) tab.str
      | tup h _ => cases eb; exact fin (.tup h) tab.tup
      | lst _ _ => cases eb
    · exact q.elim
  refine PE.mono (pe_callB hc hg hm PyProof.Rows.boot_isinstance (pa_cons h (pa_cons (pe_bltn (v := .ty T) hgT hT hb rfl hn hd) pa_nil hs2) hs) (by decide) (by decide) hs hpl) fun σ H Q ⟨ρ, P, st, q, k⟩ => ?_
  refine ⟨ρ, _, st, q, fun d v H1 hd s1 r => ⟨d, v, P, rfl, r, hd, fun b hb => k _ _ H1 hb s1 (.bl b)⟩⟩
end
end L2.R2

set_option Elab.async false
set_option linter.all false
set_option maxRecDepth 100000
namespace L2.R2
open PySem PySem.Spec PyProof.Rows L2

theorem boot_abs' : bootBuiltins "abs" = some (.builtin "abs") := by decide +kernel
theorem boot_min' : bootBuiltins "min" = some (.builtin "min") := by decide +kernel
theorem boot_int' : bootBuiltins "int" = some (.type "int") := by decide +kernel
theorem boot_bool' : bootBuiltins "bool" = some (.type "bool") := by decide +kernel
theorem boot_tuple' : bootBuiltins "tuple" = some (.type "tuple") := by decide +kernel
theorem tab_int (K : PySem.W.Frag) : TyTab K "int" := ⟨by rfl, by rfl, by rfl, by rfl, by rfl⟩
theorem tab_bool (K : PySem.W.Frag) : TyTab K "bool" := ⟨by rfl, by rfl, by rfl, by rfl, by rfl⟩
theorem tab_tuple (K : PySem.W.Frag) : TyTab K "tuple" := ⟨by rfl, by rfl, by rfl, by rfl, by rfl⟩

/-- a def that stands there and is worth F -/
structure FnAt (P : Program) (w : World) (K : PySem.W.Frag) (mg : Str → Option Value) (base : Heap) (x : Str) (ps : List Str) (k : Nat) (F : FD) : Prop where
  ex : ∃ f fd, FnOk P w K mg base CX0 k f fd ps (spD K F) ∧ Binds K fd ps [] ∧ PySem.W.keepIn K (.ref f) = true ∧ mg x = some (.ref f)
/-- a def that stands there -/
structure DefAt (K : PySem.W.Frag) (mg : Str → Option Value) (x : Str) (st : Stmt) (ps : List Str) : Prop where
  ex : ∃ f fd, Fun K x x st f fd ∧ mg x = some (.ref f) ∧ ∀ us : List Value, us.length = ps.length → bindArgs fd ⟨us, []⟩ = pure (ps.zip us)
section
variable {P : Program} {w : World} {K : PySem.W.Frag} {mg : Str → Option Value} {base : Heap}
theorem DefAt.ok {x : Str} {st : Stmt} {N ps : List Str} {k : Nat} {F : FD} {t : RS} (Z : DefAt K mg x st ps) (Sc : FnScope N ps (defScope st))
    (hbody : ∀ {f : Addr} (cdv : Value) (A : Around) (outer : List Env) (s : Shared) (H : Hp) (E : XK), Room k (A.deeper (envOfC x (defScope st) s.heap.objs.size f cdv)) →
      DSs (cxOf CX0 P w K mg base N x (defScope st) f cdv A outer s H E).nox (defBody st) t)
    (len : ∀ ds Q, F ds Q → ds.length = ps.length) (pure : ∀ ds Q, F ds Q → t { nx := fun _ => Q .non, rt := Q } (startD N ds)) : FnAt P w K mg base x ps (k + 1) F := by
  obtain ⟨f, fd, a, b, c⟩ := Z.ex
  exact ⟨f, fd, fn_ok a Sc (fun cdv A outer s H E hr => hbody cdv A outer s H E hr) len pure, .all c, a.kp, b⟩
theorem DefAt.okL {x : Str} {st : Stmt} {ps : List Str} {k : Nat} {F : FD} (Z : DefAt K mg x st ps) (h : ∀ (base : Heap) (f : Addr) (fd : FuncData), Fun K x x st f fd → FnOk P w K mg base CX0 k f fd ps (spD K F)) :
    ∃ f fd, mg x = some (.ref f) ∧ (∀ us : List Value, us.length = ps.length → bindArgs fd ⟨us, []⟩ = pure (ps.zip us)) ∧ ∀ base, FnOk P w K mg base CX0 k f fd ps (spD K F) := by
  obtain ⟨f, fd, a, b, c⟩ := Z.ex
  exact ⟨f, fd, b, c, fun base => h base f fd a⟩
end
section
variable {X : Cx} {k : Nat} {ps : List Str} {F : FD} {x : Str} {p pos : Pos} {e : Expr} {es : List Expr} {t : RA}
theorem de_callF (C : FnAt X.prog X.w X.K X.mg X.base x ps k F) (hr : Room k X.A) (ha : DA X (e :: es) t) (hg : Gl X x := by rfl)
    (hdb : (x == ("__debug__" : Str)) = false := by decide) (he : starEach (e :: es) X.env = (false, eval e X.env) :: starEach es X.env := by rfl) (hpl : (backTo pos (starEach es X.env)).any (·.1) = false := by rfl) :
    DE X (.Call (.Name x p) (e :: es) [] pos) (rCall F t) := by
  obtain ⟨f, fd, G, hb, hk, hm⟩ := C.ex
  exact de_call G hr hm hk hb ha hg hdb he hpl
end

/-! ## the law -/
/-- law(script): for a list of at most n ints it is True -/
def FLaw (n : Nat) : FD := fun ds Q => ∃ ns : List Int, ds = [.lst (ns.map .int)] ∧ ns.length ≤ n ∧ Q (.bl true)
theorem sqL_fz {K : PySem.W.Frag} {H : Hp} {a : Addr} {vs : List V} (hO : Only H) (h : SqL K H a vs) : FzL K H a vs := by
  rcases h with (h | ⟨o, h⟩) | h
  · rcases hO a with z | ⟨o, xs, z⟩
    · rw [z] at h; cases h
    · rw [z] at h; cases h
  · exact .inl ⟨o, h⟩
  · exact .inr h
theorem walk_law {l : PySem.W.OpenLaw} {q : Program} {loose : List Str} {XP : (Str → Option Value) → Heap → Prop} {YP : World → Heap → Prop} {d : DefRec} {K : Params → PySem.W.Frag} {x : Str} {k : Nat}
    (hn : l.most = some 63) (hdf : d.params.defaults = []) (hr : Room k callerA)
    (hY : ∀ (w : World) (h : Heap), YP w h → (K w.params).In h) (hd : d.name = "law")
    (F : ∀ (w : World) (mg : Str → Option Value) (h : Heap), (K w.params).In h → h.Ns mainGlobals mg →
      ∃ f fd, mg "law" = some (.ref f) ∧ (∀ us : List Value, us.length = [x].length → bindArgs fd ⟨us, []⟩ = pure ([x].zip us)) ∧ ∀ base, FnOk l.prog w (K w.params) mg base CX0 k f fd [x] (spD (K w.params) (FLaw 63))) :
    PySem.W.WalkO q loose XP YP l.row.toRowW d [] (fun f vs => PySem.call f vs) := by
  refine L2.walk_of (n := 63) (k := k) (x := x) (CX := fun _ => CX0) (sp := fun w => spD (K w.params) (FLaw 63)) hn (by decide) hdf hr hY ?_ ?_ fun _ _ _ _ _ z => z
  · intro w mg fa h KX G hmg
    rw [hd] at hmg
    obtain ⟨f, fd, hm, hb, hF⟩ := F w mg h KX G
    rw [hmg] at hm; cases hm
    exact ⟨fd, fun s u => .of_eq (hb [u] rfl), fun base _ _ => hF base⟩
  · intro w H a ns hl hO hS
    exact ⟨[.lst (ns.map .int)], fun d => d = .bl true, .cons (.lst (sqL_fz hO hS) .ints) .nil, ⟨ns, rfl, hl, rfl⟩, fun d v H' e _ r => by subst e; exact r.bl_inv⟩
end L2.R2

set_option Elab.async false
set_option linter.all false
set_option maxRecDepth 100000
namespace L2.R2
open PySem PySem.Spec PyProof.Rows L2

/-! ## == of nested tuples -/
def eqL (f : D → D → Option Bool) : List D → List D → Option Bool
  | [], [] => some true
  | [], _ :: _ => some false
  | _ :: _, [] => some false
  | x :: xs, y :: ys => match f x y, eqL f xs ys with
    | some a, some b => some (a && b)
    | _, _ => none
def eqF : Nat → D → D → Option Bool
  | 0, _, _ => none
  | n + 1, d, e => match d, e with
    | .int a, .int b => some (decide (a = b))
    | .bl a, .bl b => some (decide (a = b))
    | .non, .non => some true
    | .non, .tup _ => some false
    | .tup _, .non => some false
    | .tup xs, .tup ys => eqL (eqF n) xs ys
    | .lst xs, .lst ys => eqL (eqF n) xs ys
    | _, _ => none
theorem eqL_get {f : D → D → Option Bool} : ∀ {xs ys : List D} {b : Bool}, eqL f xs ys = some b → ∀ (j : Nat) (x y : D), xs[j]? = some x → ys[j]? = some y → ∃ c, f x y = some c
  | [], _, _, _, j, x, y, e, _ => by simp at e
  | _ :: _, [], _, _, j, x, y, _, e => by simp at e
  | a :: xs, c :: ys, b, h, j, x, y, e1, e2 => by
    unfold eqL at h
    split at h
    · rename_i p q hp hq
      cases j with
      | zero => simp at e1 e2; subst e1 e2; exact ⟨p, hp⟩
      | succ j => exact eqL_get hq j x y (by simpa using e1) (by simpa using e2)
    · cases h
theorem eqL_all {f : D → D → Option Bool} : ∀ {xs ys : List D} {b : Bool}, eqL f xs ys = some b →
    ((List.range (min xs.length ys.length)).all (fun j => match xs[j]?, ys[j]? with | some x, some y => (f x y).getD false | _, _ => false) && xs.length == ys.length) = b
  | [], [], b, h => by cases h; rfl
  | [], _ :: _, b, h => by cases h; rfl
  | _ :: _, [], b, h => by cases h; rfl
  | x :: xs, y :: ys, b, h => by
    unfold eqL at h
    split at h
    · rename_i p q hp hq
      cases h
      have ih := eqL_all hq
      rw [← ih]
      simp only [List.length_cons, Nat.succ_min_succ, List.range_succ_eq_map, List.all_cons, List.getElem?_cons_zero, hp, Option.getD_some, List.all_map]
      rw [Bool.and_assoc]
      congr 1
      congr 1
      rw [Bool.eq_iff_iff]; simp
    · cases h
section
variable {X : Cx} {pins : List (Addr × Obj)} {σ : St} {H : Hp} {s : Shared}
theorem eqL_same {f : D → D → Option Bool} (hf : ∀ {d e : D} {v : V} {b : Bool}, f d e = some b → Rep X.K H d v → Rep X.K H e v → b = true) : ∀ {xs ys : List D} {vs : List V} {b : Bool}, eqL f xs ys = some b → Reps X.K H xs vs → Reps X.K H ys vs → b = true := by
  intro xs
  induction xs with
  | nil => intro ys vs b h q1 q2; cases q1; cases q2; cases h; rfl
  | cons x xs ih =>
    intro ys vs b h q1 q2
    cases q1 with
    | cons r t =>
      cases q2 with
      | cons r' t' =>
        unfold eqL at h
        split at h
        · rename_i p q hp hq
          cases h
          rw [hf hp r r', ih hq t t']; rfl
        · cases h
theorem eqF_same (I : Inv X pins σ H s) : ∀ (n : Nat) {d e : D} {v : V} {b : Bool}, eqF n d e = some b → Rep X.K H d v → Rep X.K H e v → b = true
  | 0, _, _, _, _, h, _, _ => by cases h
  | n + 1, d, e, v, b, h, r1, r2 => by
    unfold eqF at h
    split at h
    · rw [r1.int_inv] at r2; cases r2; cases h; simp
    · rw [r1.bl_inv] at r2; cases r2; cases h; simp
    · cases h; rfl
    · cases r1; cases r2
    · cases r2; cases r1
    · rename_i xs ys
      cases r1 with
      | @tup a vs _ h1 q1 =>
        cases r2 with
        | @tup _ ws _ h2 q2 =>
          rw [h1] at h2; cases h2
          exact eqL_same (fun {d e v b} => eqF_same I n) h q1 q2
    · rename_i xs ys
      cases r1 with
      | @lst a vs _ h1 q1 =>
        cases r2 with
        | @lst _ ws _ h2 q2 =>
          rw [I.list_inj h2.sq h1.sq] at q2
          exact eqL_same (fun {d e v b} => eqF_same I n) h q1 q2
    · cases h
/-- two lists, item by item -/
theorem eq_lists (I : Inv X pins σ H s) {n : Nat} {xs ys : List D} {a c : Addr} {vs ws : List V} {b : Bool} {A : Around} (h : eqL (eqF n) xs ys = some b) (h1 : SqL X.K H a vs) (q1 : Reps X.K H xs vs) (h2 : SqL X.K H c ws) (q2 : Reps X.K H ys ws) (hu : A.units < cLine)
    (at' : ∀ {d e : D} {v u : V} {x y : Value} {b : Bool}, eqF n d e = some b → Rep X.K H d v → Rep X.K H e u → RelV v x → RelV u y → SeqAt.EqAt A.in1 s x y b) : SeqAt.RcAt A s (.ref a) (.ref c) b ∧ SeqAt.EqAt A s (.ref a) (.ref c) b := by
  obtain ⟨its, rv, ht, _⟩ := I.list h1
  obtain ⟨its2, rv2, ht2, _⟩ := I.list h2
  have l1 : xs.length = its.length := q1.length.trans rv.length
  have l2 : ys.length = its2.length := q2.length.trans rv2.length
  have rc : SeqAt.RcAt A s (.ref a) (.ref c) b := by
    by_cases hl : xs.length = ys.length
    · have := SeqAt.RcAt.lists (A := A) (s := s) (e := fun j => match xs[j]?, ys[j]? with | some x, some y => (eqF n x y).getD false | _, _ => false) ht.isList ht2.isList (by simp; omega) hu (fun j g1 g2 => ?_)
      · have al := eqL_all h
        simp only [List.size_toArray, ← l1] at this
        rw [← hl, Nat.min_self, beq_self_eq_true, Bool.and_true] at al
        rw [al] at this
        exact this
      · simp only [List.size_toArray] at g1 g2
        have e1 : xs[j]? = some (xs[j]'(by omega)) := List.getElem?_eq_getElem _
        have e2 : ys[j]? = some (ys[j]'(by omega)) := List.getElem?_eq_getElem _
        obtain ⟨k, hk⟩ := eqL_get h j _ _ e1 e2
        rw [e1, e2]
        simp only [hk, Option.getD_some]
        obtain ⟨v1, f1, f2⟩ := q1.get e1
        obtain ⟨v2, f3, f4⟩ := q2.get e2
        obtain ⟨u1, g3, g4⟩ := rv.get f1
        obtain ⟨u2, g5, g6⟩ := rv2.get f3
        have a1 : its.toArray[j] = u1 := by
          have := List.getElem?_eq_getElem g1
          rw [this] at g3
          simpa using Option.some.inj g3
        have a2 : its2.toArray[j] = u2 := by
          have := List.getElem?_eq_getElem g2
          rw [this] at g5
          simpa using Option.some.inj g5
        rw [a1, a2]
        exact at' hk f2 f4 g4 g6
    · have al := eqL_all h
      have : (xs.length == ys.length) = false := by simpa using hl
      rw [this, Bool.and_false] at al
      rw [← al]
      exact SeqAt.RcAt.lists_lengths ht.isList ht2.isList (by simp; omega) hu
  refine ⟨rc, ?_⟩
  by_cases hac : a = c
  · subst hac
    rw [I.list_inj h2 h1] at q2
    rw [eqL_same (fun {d e v b} => eqF_same I n) h q1 q2]
    exact SeqAt.EqAt.same _
  · exact SeqAt.EqAt.of_refs hac rc
theorem eqF_at (I : Inv X pins σ H s) : ∀ (n : Nat) {d e : D} {v u : V} {x y : Value} {b : Bool} {A : Around}, eqF n d e = some b → Rep X.K H d v → Rep X.K H e u → RelV v x → RelV u y → A.units + n < cLine →
    SeqAt.RcAt A s x y b ∧ SeqAt.EqAt A s x y b
  | 0, _, _, _, _, _, _, _, _, h, _, _, _, _, _ => by cases h
  | n + 1, d, e, v, u, x, y, b, A, h, r1, r2, rx, ry, hu => by
    have same := fun (hvu : v = u) => eqF_same I (n + 1) h r1 (hvu ▸ r2)
    unfold eqF at h
    split at h
    · rename_i i j
      rw [r1.int_inv] at rx; rw [r2.int_inv] at ry
      obtain ⟨t, rfl⟩ := rx
      obtain ⟨t', rfl⟩ := ry
      cases h
      have e : decide (i = j) = (i == j) := by rw [Bool.beq_eq_decide_eq]
      rw [e]
      exact ⟨SeqAt.RcAt.int_int _ _ _ _, SeqAt.EqAt.int_int _ _ _ _⟩
    · rename_i i j
      rw [r1.bl_inv] at rx; rw [r2.bl_inv] at ry
      cases rx; cases ry
      cases h
      have e : decide (i = j) = (i == j) := by rw [Bool.beq_eq_decide_eq]
      rw [e]
      exact ⟨SeqAt.RcAt.bool_bool _ _, SeqAt.EqAt.bool_bool _ _⟩
    · cases r1; cases r2; cases rx; cases ry; cases h
      exact ⟨SeqAt.RcAt.none_none, SeqAt.EqAt.same _⟩
    · cases r1
      cases r2 with
      | tup h2 q2 =>
        cases rx; cases ry; cases h
        obtain ⟨its, rv, ht, _⟩ := I.tuple (SqT.of h2)
        exact ⟨SeqAt.RcAt.none_tuple ht (by omega), SeqAt.EqAt.none_tuple ht (by omega)⟩
    · cases r2
      cases r1 with
      | tup h2 q2 =>
        cases rx; cases ry; cases h
        obtain ⟨its, rv, ht, _⟩ := I.tuple (SqT.of h2)
        exact ⟨SeqAt.RcAt.tuple_none ht (by omega), SeqAt.EqAt.tuple_none ht (by omega)⟩
    · rename_i xs ys
      cases r1 with
      | @tup a vs _ h1 q1 =>
        cases r2 with
        | @tup c ws _ h2 q2 =>
          cases rx; cases ry
          obtain ⟨its, rv, ht, _⟩ := I.tuple (SqT.of h1)
          obtain ⟨its2, rv2, ht2, _⟩ := I.tuple (SqT.of h2)
          have l1 : xs.length = its.length := q1.length.trans rv.length
          have l2 : ys.length = its2.length := q2.length.trans rv2.length
          have rc : SeqAt.RcAt A s (.ref a) (.ref c) b := by
            have := SeqAt.RcAt.tuples (A := A) (s := s) (e := fun j => match xs[j]?, ys[j]? with | some x, some y => (eqF n x y).getD false | _, _ => false) ht ht2 (by omega) (fun j g1 g2 => ?_)
            · simp only [List.size_toArray, ← l1, ← l2] at this
              rw [eqL_all h] at this
              exact this
            · simp only [List.size_toArray] at g1 g2
              have e1 : xs[j]? = some (xs[j]'(by omega)) := List.getElem?_eq_getElem _
              have e2 : ys[j]? = some (ys[j]'(by omega)) := List.getElem?_eq_getElem _
              obtain ⟨k, hk⟩ := eqL_get h j _ _ e1 e2
              rw [e1, e2]
              simp only [hk, Option.getD_some]
              obtain ⟨v1, f1, f2⟩ := q1.get e1
              obtain ⟨v2, f3, f4⟩ := q2.get e2
              obtain ⟨u1, g3, g4⟩ := rv.get f1
              obtain ⟨u2, g5, g6⟩ := rv2.get f3
              have a1 : its.toArray[j] = u1 := by
                have := List.getElem?_eq_getElem g1
                rw [this] at g3
                simpa using Option.some.inj g3
              have a2 : its2.toArray[j] = u2 := by
                have := List.getElem?_eq_getElem g2
                rw [this] at g5
                simpa using Option.some.inj g5
              rw [a1, a2]
              exact (eqF_at I n hk f2 f4 g4 g6 (by show A.units + 1 + n < cLine; omega)).2
          refine ⟨rc, ?_⟩
          by_cases hac : a = c
          · subst hac
            rw [same rfl]
            exact SeqAt.EqAt.same _
          · exact SeqAt.EqAt.of_refs hac rc
    · rename_i xs ys
      cases r1 with
      | @lst a vs _ h1 q1 =>
        cases r2 with
        | @lst c ws _ h2 q2 =>
          cases rx; cases ry
          exact eq_lists I h h1.sq q1 h2.sq q2 (by omega) fun {d e v u x y b} hk f2 f4 g4 g6 => (eqF_at I n hk f2 f4 g4 g6 (by show A.units + 1 + n < cLine; omega)).2
    · cases h
end
/-- == -/
def dEq : R22 := fun x y Q => match eqF 6 x y with
  | some b => Q (.bl b)
  | none => False
section
variable {X : Cx}
theorem eqB_at {X : Cx} {pins : List (Addr × Obj)} {σ : St} {H : Hp} {s : Shared} (I : Inv X pins σ H s) {d e : D} {v u : V} {x y : Value} {b : Bool} {A : Around} (h : eqF 6 d e = some b) (r1 : RepB X.K H d v) (r2 : RepB X.K H e u) (rx : RelV v x) (ry : RelV u y) (hu : A.units + 6 < cLine) : SeqAt.RcAt A s x y b := by
  by_cases hl : ∃ xs ys, d = .lst xs ∧ e = .lst ys
  · obtain ⟨xs, ys, rfl, rfl⟩ := hl
    obtain ⟨a, vs, rfl, h1, q1⟩ := r1.lst
    obtain ⟨c, ws, rfl, h2, q2⟩ := r2.lst
    cases rx; cases ry
    exact (eq_lists I (n := 5) h h1 q1 h2 q2 (by omega) fun {d e v u x y b} hk f2 f4 g4 g6 => (eqF_at I 5 hk f2 f4 g4 g6 (by show A.units + 1 + 5 < cLine; omega)).2).1
  · have p1 : Rep X.K H d v := by
      rcases r1 with r | ⟨ds, a, vs, e1, _⟩
      · exact r
      · subst e1; cases e <;> first | (cases h; done) | exact absurd ⟨_, _, rfl, rfl⟩ hl
    have p2 : Rep X.K H e u := by
      rcases r2 with r | ⟨ds, a, vs, e1, _⟩
      · exact r
      · subst e1; cases d <;> first | (cases h; done) | exact absurd ⟨_, _, rfl, rfl⟩ hl
    exact (eqF_at I 6 h p1 p2 rx ry hu).1
theorem od_eq {k : Nat} (hr : Room k X.A) : OpD X (compareOp .Eq) dEq := by
  intro pins s σ H x y v u Q I rx ry ⟨d, e, P, r1, r2, q, kk⟩
  unfold dEq at q
  split at q
  · rename_i b hb
    have hu := hr.units
    exact eqB_at I (A := X.A) hb r1 r2 rx ry (by omega) _ _ _ _ ⟨.bl b, H, I, rfl, kk _ _ H q (Same.refl H) (.bl b)⟩
  · exact q.elim
end
end L2.R2

set_option Elab.async false
set_option linter.all false
set_option maxRecDepth 100000
namespace L2.R2
open PySem PySem.Spec PyProof.Rows L2

theorem closure_aux (env : Env) : ∀ (names : List (Str × NameKind)) (acc : List (Str × Addr)), (∀ y ∈ names, y.2 = .free → ∃ c, env.cells.lookup y.1 = some c) →
    ∃ cl : List (Str × Addr), (do
      let mut cs := acc
      for (name, kind) in names do
        if kind == .free then cs := (name, ← cellOf env name) :: cs
      return cs : Sem (List (Str × Addr))) = pure cl ∧ (∀ p ∈ cl, p ∈ acc ∨ env.cells.lookup p.1 = some p.2) ∧ (∀ p ∈ acc, p ∈ cl) ∧ ∀ y ∈ names, y.2 = .free → ∃ c, (y.1, c) ∈ cl
  | [], acc, _ => ⟨acc, by simp, fun p h => .inl h, fun p h => h, fun y h => by simp at h⟩
  | (n, k) :: r, acc, h => by
    by_cases hk : k = .free
    · subst hk
      obtain ⟨c, hc⟩ := h _ List.mem_cons_self rfl
      obtain ⟨cl, e, h1, h2, h3⟩ := closure_aux env r ((n, c) :: acc) fun y hy => h y (List.mem_cons_of_mem _ hy)
      refine ⟨cl, ?_, fun p hp => ?_, fun p hp => h2 p (List.mem_cons_of_mem _ hp), fun y hy hf => ?_⟩
      · rw [← e]
        have hcell : cellOf env n = pure c := by unfold cellOf; rw [hc]
        simp only [List.forIn_cons, hcell, beq_self_eq_true, if_true, pure_bind]
      · rcases h1 p hp with q | q
        · rcases List.mem_cons.mp q with rfl | q
          · exact .inr hc
          · exact .inl q
        · exact .inr q
      · rcases List.mem_cons.mp hy with rfl | hy
        · exact ⟨c, h2 _ List.mem_cons_self⟩
        · exact h3 y hy hf
    · obtain ⟨cl, e, h1, h2, h3⟩ := closure_aux env r acc fun y hy => h y (List.mem_cons_of_mem _ hy)
      refine ⟨cl, ?_, h1, h2, fun y hy hf => ?_⟩
      · rw [← e]
        have hb : (k == NameKind.free) = false := by simpa using hk
        simp only [List.forIn_cons, hb, Bool.false_eq_true, if_false, pure_bind]
      · rcases List.mem_cons.mp hy with rfl | hy
        · exact absurd hf hk
        · exact h3 y hy hf
theorem lookup_of_mem {α : Type} : ∀ {l : List (Str × α)} {x : Str} {c : α}, (x, c) ∈ l → ∃ c', l.lookup x = some c'
  | [], _, _, h => by simp at h
  | (y, d) :: r, x, c, h => by
    rw [List.lookup_cons]
    cases e : x == y with
    | true => exact ⟨d, rfl⟩
    | false =>
      rcases List.mem_cons.mp h with q | q
      · cases q; rw [beq_self_eq_true] at e; cases e
      · exact lookup_of_mem q
theorem closure_ok {scope : Scope} {env : Env} (h : ∀ y ∈ scope.names, y.2 = .free → ∃ c, env.cells.lookup y.1 = some c) :
    ∃ cl, closureFor scope env = pure cl ∧ (∀ x c, cl.lookup x = some c → env.cells.lookup x = some c) ∧ ∀ y ∈ scope.names, y.2 = .free → ∃ c, cl.lookup y.1 = some c := by
  obtain ⟨cl, e, h1, _, h3⟩ := closure_aux env scope.names [] h
  refine ⟨cl, e, fun x c hx => ?_, fun y hy hf => ?_⟩
  · rcases h1 _ (PySem.mem_of_lookup hx) with q | q
    · simp at q
    · exact q
  · obtain ⟨c, hc⟩ := h3 y hy hf
    exact lookup_of_mem hc

/-! ## a comprehension's block -/
/-- its context: the callers' frames are all that run; its own names first, then those that it takes from around -/
def cxComp (X : Cx) (scope : Scope) (N : List Str) (cl : List (Str × Addr)) (C : Addr) (s : Shared) (H : Hp) (fp : List Addr) : Cx where
  prog := X.prog
  w := X.w
  K := X.K
  mg := X.mg
  base := X.base
  A := X.A
  N := N
  s₀ := s
  H₀ := H
  env := compEnvC scope cl C X.env
  outer := X.stack
  stack := X.stack
  ex := fp
  fn := fun _ => false
  calm := X.calm
  pn := []
  xe := fun _ _ => False
/-- what a comprehension's names are like: own ones local, the rest taken from cells around -/
structure CScope (X : Cx) (scope : Scope) : Prop where
  kind : scope.kind = .function
  nocell : ∀ y ∈ scope.names, y.2 ≠ .cell
  locs : ∀ y ∈ scope.names, y.2 = .local → scope.names.lookup y.1 = some .local
  frees : ∀ y ∈ scope.names, y.2 = .free → X.env.kindOf y.1 = some .cell ∨ X.env.kindOf y.1 = some .free
theorem lookup_relabel {env : Env} : ∀ {names : List (Str × NameKind)} {x : Str} {k : NameKind}, (names.map fun (n, k) => if (k == NameKind.free && env.scope.kind == .function && env.kindOf n == some .cell) then (n, NameKind.cell) else (n, k)).lookup x = some k →
    (k = .cell ∨ k = .free) → (∀ y ∈ names, y.2 ≠ .cell) → (x, .free) ∈ names
  | [], _, _, h, _, _ => by simp at h
  | (n, j) :: r, x, k, h, hk, hn => by
    have h : List.lookup x ((if (j == NameKind.free && env.scope.kind == .function && env.kindOf n == some .cell) = true then (n, NameKind.cell) else (n, j)) :: r.map fun (n, k) => if (k == NameKind.free && env.scope.kind == .function && env.kindOf n == some .cell) then (n, NameKind.cell) else (n, k)) = some k := h
    have hn' : ∀ y ∈ r, y.2 ≠ .cell := fun y hy => hn y (List.mem_cons_of_mem _ hy)
    cases hx : x == n with
    | true =>
      have e : x = n := eq_of_beq hx
      subst e
      by_cases hc : (j == NameKind.free && env.scope.kind == .function && env.kindOf x == some .cell) = true
      · have hj : j = .free := by
          rw [Bool.and_eq_true, Bool.and_eq_true] at hc
          exact eq_of_beq hc.1.1
        subst hj
        exact List.mem_cons_self
      · rw [if_neg hc, List.lookup_cons, beq_self_eq_true] at h
        cases h
        rcases hk with rfl | rfl
        · exact absurd rfl (hn _ List.mem_cons_self)
        · exact List.mem_cons_self
    | false =>
      by_cases hc : (j == NameKind.free && env.scope.kind == .function && env.kindOf n == some .cell) = true
      · rw [if_pos hc, List.lookup_cons, hx] at h
        exact List.mem_cons_of_mem _ (lookup_relabel h hk hn')
      · rw [if_neg hc, List.lookup_cons, hx] at h
        exact List.mem_cons_of_mem _ (lookup_relabel h hk hn')
section
variable {X : Cx} {pins : List (Addr × Obj)} {σ : St} {H : Hp} {s : Shared} {scope : Scope} {N : List Str} {cl : List (Str × Addr)} {C : Addr} {fp : List Addr}
theorem comp_ok (I : Inv X pins σ H s) (Sc : CScope X scope) (hcl : ∀ x c, cl.lookup x = some c → X.env.cells.lookup x = some c) (hall : ∀ y ∈ scope.names, y.2 = .free → ∃ c, cl.lookup y.1 = some c)
    (hC : s.heap.objs.size ≤ C) (hf : ∀ b ∈ fp, FpOk X pins H b) (hlt : ∀ b ∈ fp, b < s.heap.objs.size) : (cxComp X scope N cl C s H fp).Ok := by
  refine ⟨I.ok.mod, Sc.kind, I.ok.glob, I.ok.blt, hC, fun x y c h1 h2 => I.ok.inj x y c (hcl x c h1) (hcl y c h2), fun x hx => ?_, fun x c hx => absurd (show false = true from hx) Bool.false_ne_true, I.ok.hd, I.ok.frames, .inl rfl, fun b hb => ?_, I.bs, Nat.le_trans I.ok.bsz I.sz, fun b o e hb => ?_, fun b hb hfs => ?_, I.stack, I.stkFree⟩
  · have hx : (scope.names.map fun (n, k) => if (k == NameKind.free && X.env.scope.kind == .function && X.env.kindOf n == some .cell) then (n, NameKind.cell) else (n, k)).lookup x = some .cell ∨ (scope.names.map fun (n, k) => if (k == NameKind.free && X.env.scope.kind == .function && X.env.kindOf n == some .cell) then (n, NameKind.cell) else (n, k)).lookup x = some .free := hx
    have : (x, NameKind.free) ∈ scope.names := by
      rcases hx with hx | hx
      · exact lookup_relabel hx (.inl rfl) Sc.nocell
      · exact lookup_relabel hx (.inr rfl) Sc.nocell
    exact hall _ this rfl
  · obtain ⟨f0, f1, f2, f3, f4, f5⟩ := hf b hb
    exact ⟨Nat.ne_of_lt (Nat.lt_of_lt_of_le (hlt b hb) hC), fun x c e => f4 x c (hcl x c e)⟩
  · obtain ⟨f0, f1, f2, f3, f4, f5⟩ := hf b hb
    rcases f3 with z | z
    · exact I.ok.noex b o e z
    · have h1 := (Heap.lt_size e)
      have h2 := I.ok.bsz
      exact absurd (Nat.lt_of_lt_of_le h1 (Nat.le_trans h2 z)) (Nat.lt_irrefl _)
  · obtain ⟨f0, f1, f2, f3, f4, f5⟩ := hf b hb
    rcases List.mem_cons.mp (I.stkSub b hfs) with e | e
    · exact f1 e
    · exact f2 e
/-- the names' values at the block's entry: its own have none, the others are those around -/
def capS (σ : St) (k : Nat) (ix : List Nat) : St := List.replicate k none ++ ix.map fun i => (σ[i]?).join
theorem comp_inv (I : Inv X pins σ H s) (Sc : CScope X scope) (hcl : ∀ x c, cl.lookup x = some c → X.env.cells.lookup x = some c) (hall : ∀ y ∈ scope.names, y.2 = .free → ∃ c, cl.lookup y.1 = some c)
    {s4 : Shared} {m : Str → Option Value} {k : Nat} {ix : List Nat} {ys : List Str} (hC : s.heap.objs.size ≤ C) (hf : ∀ b ∈ fp, FpOk X pins H b) (hlt : ∀ b ∈ fp, b < s.heap.objs.size)
    (hk4 : ∀ b o, s.heap.get? b = some o → s4.heap.get? b = some o) (hos : s4.os = s.os) (hb : AllBare s4.gens) (hns : s4.heap.Ns C m)
    (hN : N.length = k + ys.length) (hdrop : N.drop k = ys) (hix : ix.length = ys.length) (hiy : ∀ (j : Nat) (y : Str) (i : Nat), ys[j]? = some y → ix[j]? = some i → X.N[i]? = some y ∧ (y, NameKind.free) ∈ scope.names)
    (hkind : ∀ y ∈ ys, (relabel scope X.env).names.lookup y = some .cell ∨ (relabel scope X.env).names.lookup y = some .free) :
    Inv (cxComp X scope N cl C s H fp) [] (capS σ k ix) H s4 := by
  have hfr : H C = none := I.hok.fresh hC
  refine ⟨comp_ok I Sc hcl hall hC hf hlt, hos, hb, Un.kept hk4, ⟨m, hns, fun i x v e1 e2 e3 => ?_⟩, fun x c e => ?_, hfr, fun x c e => I.freeC x c (hcl x c e), fun p hp => absurd (show p ∈ ([] : List (Addr × Obj)) from hp) (by simp), I.hok.kept hk4, ?_⟩
  · unfold capS at e2
    by_cases hik : i < k
    · rw [List.getElem?_append_left (by simpa using hik), List.getElem?_replicate, if_pos hik] at e2
      cases e2
    · rw [List.getElem?_append_right (by simpa using hik), List.length_replicate, List.getElem?_map] at e2
      cases eo : ix[i - k]? with
      | none => rw [eo] at e2; cases e2
      | some o =>
        rw [eo] at e2
        have e2 : some ((σ[o]?).join) = some (some v) := e2
        have e2' : σ[o]? = some (some v) := by
          cases q : σ[o]? with
          | none => rw [q] at e2; cases e2
          | some z => rw [q] at e2; cases e2; rfl
        have ey : ys[i - k]? = some x := by
          rw [← hdrop, List.getElem?_drop]
          rw [show k + (i - k) = i by omega]
          exact e1
        obtain ⟨h1, h2⟩ := hiy _ _ _ ey eo
        have hv : Vis X.env.scope x := by
          rcases Sc.frees _ h2 rfl with q | q
          · exact .inr (.inl q)
          · exact .inr (.inr q)
        obtain ⟨m0, hn0, hl0⟩ := I.loc
        obtain ⟨u, ru, lu⟩ := hl0 o x v h1 e2' hv
        refine ⟨u, ru, .inr ⟨hkind x (List.mem_of_getElem? ey), ?_⟩⟩
        obtain ⟨c, hc⟩ := hall _ h2 rfl
        refine ⟨c, hc, ?_⟩
        rcases lu with ⟨q, _⟩ | ⟨_, c', hc', hcell⟩
        · rcases Sc.frees _ h2 rfl with z | z
          · rw [z] at q; cases q
          · rw [z] at q; cases q
        · have := hcl x c hc
          rw [this] at hc'; cases hc'
          obtain ⟨oc, ho, hd⟩ := hcell
          exact ⟨oc, hk4 _ _ ho, hd⟩
  · obtain ⟨v, oc, ho, hd⟩ := I.cell x c (hcl x c e)
    exact ⟨v, oc, hk4 _ _ ho, hd⟩
  · unfold capS
    show _ = N.length
    rw [List.length_append, List.length_replicate, List.length_map, hix, hN]
end
end L2.R2

set_option Elab.async false
set_option linter.all false
set_option maxRecDepth 100000
namespace L2.R2
open PySem PySem.Spec PyProof.Rows L2

theorem comp_loop {prog : Program} {w : World} {A : Around} {R : Result → Shared → Prop} {s : Shared} {elt target iter : Expr} {scope : Scope} {pos : Pos} {it acc : Value} {env : Env} (I : Nat → Shared → Prop)
    (turn : ∀ n s, I n s → ∀ E : Value → Shared → Prop, wpAny (model prog w) A (pyNext it) (fun r s₁ => match r with
      | none => R (.ok .next) s₁
      | some v => wpAny (model prog w) A (letOwnedTupleGo target it v) (fun _ s₁ => wpAny (model prog w) A (assign target env v) (fun _ s₂ => wpAny (model prog w) A (eval elt env) (fun x s₃ =>
          wpAny (model prog w) A (call (.builtin "list.append") [acc, x]) (fun _ s₄ => ∃ m, m < n ∧ I m s₄) E s₃) E s₂) E s₁) E s₁) E s)
    (n : Nat) (h : I n s) : codeAny (model prog w) A (.compLoop (.ListComp elt [⟨target, iter, [], 0⟩] scope pos) 0 it acc env) R s := by
  refine codeAny_loop rfl I (fun n s hI => ?_) n h
  show wpAny _ _ ((compTurn (.ListComp elt [⟨target, iter, [], 0⟩] scope pos) 0 it acc env).onRaise (fun x => do noteFrame x env; theTreesLotGoes x)) _ _ s
  refine wpAny_noted ?_
  rw [compTurn_list1]
  refine wpAny_bind (wpAny_standAt (wpAny_bind (wpAny_mono (turn n s hI _) (fun r s₁ h₁ => ?_) fun _ _ h' => h')))
  cases r with
  | none => exact wpAny_pure h₁
  | some v =>
    refine wpAny_bind (wpAny_mono h₁ (fun _ s₁' h₁' => ?_) fun _ _ h' => h')
    exact wpAny_bind (wpAny_mono h₁' (fun _ s₂ h₂ => wpAny_bind (wpAny_bind (wpAny_mono h₂ (fun x s₃ h₃ => wpAny_bind (wpAny_mono h₃
      (fun _ s₄ h₄ => wpAny_pure (wpAny_pure ⟨rfl, h₄⟩)) fun _ _ h' => h')) fun _ _ h' => h'))) fun _ _ h' => h')

/-- the items of a comprehension, one after another -/
def compD (g : RG) (te : RE) : List D → En → List D → (List D → Prop) → Prop
  | [], _, acc, Q => Q acc
  | x :: xs, ρ, acc, Q => g x ρ fun ρ' => te ρ' fun d => compD g te xs ρ' (acc ++ [d]) Q
def capO (ρ : En) (i : Nat) : Option S := match ρ[i]? with
  | some (some (.d d)) => some (.d d)
  | _ => none
def capE (ρ : En) (k : Nat) (ix : List Nat) : En := List.replicate k none ++ ix.map (capO ρ)
theorem cap_ok {X X' : Cx} {ρ : En} {σ : St} {H : Hp} {k : Nat} {ix : List Nat} (so : StOk X ρ σ H) (hK : X'.K = X.K) (hH : X'.H₀ = H) : StOk X' (capE ρ k ix) (capS σ k ix) H := by
  have own : ∀ (i : Nat) (xs : List D), (capE ρ k ix)[i]? ≠ some (some (S.own xs)) := fun i xs e => by
    unfold capE at e
    by_cases hik : i < k
    · rw [List.getElem?_append_left (by simpa using hik), List.getElem?_replicate, if_pos hik] at e; cases e
    · rw [List.getElem?_append_right (by simpa using hik), List.getElem?_map] at e
      cases eo : ix[i - (List.replicate k (none : Option S)).length]? with
      | none => rw [eo] at e; cases e
      | some o =>
        rw [eo] at e
        have e : some (capO ρ o) = some (some (S.own xs)) := e
        have e := Option.some.inj e
        unfold capO at e
        split at e <;> cases e
  refine ⟨by simp [capE, capS], by rw [hH]; exact Same.refl H, fun i x e => ?_, fun i j xs ys a e1 _ _ _ => absurd e1 (own i xs)⟩
  unfold capE at e
  by_cases hik : i < k
  · rw [List.getElem?_append_left (by simpa using hik), List.getElem?_replicate, if_pos hik] at e; cases e
  · rw [List.getElem?_append_right (by simpa using hik), List.getElem?_map, List.length_replicate] at e
    cases eo : ix[i - k]? with
    | none => rw [eo] at e; cases e
    | some o =>
      rw [eo] at e
      have e : some (capO ρ o) = some (some x) := e
      have e := Option.some.inj e
      unfold capO at e
      split at e
      · rename_i d ed
        cases e
        obtain ⟨v, h1, h2⟩ := so.rel o _ ed
        refine ⟨v, ?_, by rw [hK]; exact h2⟩
        unfold capS
        rw [List.getElem?_append_right (by simpa using hik), List.getElem?_map, List.length_replicate, eo, Option.map_some, h1]; rfl
      · cases e

section
variable {X : Cx} {pins : List (Addr × Obj)} {σ : St} {H : Hp} {s2 : Shared} {scope : Scope} {N : List Str} {cl : List (Str × Addr)} {fp : List Addr} {it : Addr} {tn : Nat → Heap → Prop} {J : It} {xs : List D} {ρ : En}
  {elt target iter : Expr} {pos : Pos} {g : RG} {te : RE} {k : Nat} {ix : List Nat} {ys : List Str} {P : List D → Prop}
/-- an untracked object that is younger than the entry is tracked from here on -/
theorem _root_.L2.Inv.track {s s' : Shared} {H H' : Hp} {a : Addr} {vs : List V} {its : List Value} {n : Nat} (I : Inv X pins σ H s) (I' : Inv X pins σ H' s') (ha : s.heap.objs.size ≤ a) (hn : H' a = none)
    (e : s'.heap.get? a = some { cls := .type "list", data := .seq its.toArray n }) (rv : Vals vs its) (hz : vs.length ≤ sizeLine) : Inv X pins σ (upd H' a (.lst vs)) s' := by
  have hL : X.env.locals ≠ a := Nat.ne_of_lt (Nat.lt_of_lt_of_le I.lt ha)
  have hcell : ∀ x c, X.env.cells.lookup x = some c → c ≠ a := fun x c q z => by
    obtain ⟨v, hv⟩ := I.cell x c q
    exact absurd (Nat.lt_of_lt_of_le hv.lt (by rw [z]; exact ha)) (Nat.lt_irrefl _)
  have hs0 : ∀ {b : Addr} {o : Obj}, X.s₀.heap.get? b = some o → b ≠ a := fun {b o} q => Nat.ne_of_lt (Nat.lt_of_lt_of_le (Heap.lt_size q) (Nat.le_trans I.sz ha))
  refine ⟨I'.ok, I'.os, I'.bare, ⟨I'.base.keep, I'.base.slot, fun b o q n hx => ?_, I'.base.there, fun b ys q => ?_, fun b o u q => ?_, fun b ps q => ?_⟩, I'.loc, I'.cell, ?_, fun x c q => ?_, fun p hp => ?_, fun b u q => ?_, I'.len⟩
  · rw [upd_ne (hs0 q)]; exact I'.base.free b o q n hx
  · rw [upd_ne (ne_of_none (I'.base.tups b ys q) hn)]; exact I'.base.tups b ys q
  · rw [upd_ne (ne_of_none (I'.base.frzs b o u q) hn)]; exact I'.base.frzs b o u q
  · obtain ⟨m, q2⟩ := I'.base.tbls b ps q
    exact ⟨m, by rw [upd_ne (ne_of_none q2 hn)]; exact q2⟩
  · rw [upd_ne hL]; exact I'.free
  · rw [upd_ne (hcell x c q)]; exact I'.freeC x c q
  · obtain ⟨q1, q2, q3, q4, q5⟩ := I'.pin p hp
    have hp1 : p.1 ≠ a := Nat.ne_of_lt (Nat.lt_of_lt_of_le (Heap.lt_size (I.pin p hp).1) ha)
    exact ⟨q1, by rw [upd_ne hp1]; exact q2, q3, q4, q5⟩
  · by_cases hb : b = a
    · subst hb
      rw [upd_same] at q; cases q
      exact ⟨hz, its, n, rv, e⟩
    · rw [upd_ne hb] at q
      exact (I'.hok b u q).stay (fun c v _ w => w) (fun c w => by rw [upd_ne (ne_of_none w hn)]; exact w) fun c ys w => by rw [upd_ne (ne_of_none w hn)]; exact w

theorem comp_core (hc : X.calm = true) (Sc : CScope X scope) (hcl : ∀ x c, cl.lookup x = some c → X.env.cells.lookup x = some c) (hall : ∀ y ∈ scope.names, y.2 = .free → ∃ c, cl.lookup y.1 = some c)
    (hN : N.length = k + ys.length) (hdrop : N.drop k = ys) (hix : ix.length = ys.length) (hiy : ∀ (j : Nat) (y : Str) (i : Nat), ys[j]? = some y → ix[j]? = some i → X.N[i]? = some y ∧ (y, NameKind.free) ∈ scope.names)
    (hkind : ∀ y ∈ ys, (relabel scope X.env).names.lookup y = some .cell ∨ (relabel scope X.env).names.lookup y = some .free)
    (hg : ∀ C s H fp, DG (cxComp X scope N cl C s H fp) target g) (he : ∀ C s H fp, DE (cxComp X scope N cl C s H fp) elt te)
    (I2 : Inv X pins σ H s2) (so : StOk X ρ σ H) (T : Turn X.prog X.w X.K target J fp it tn) (st : tn 0 s2.heap) (hf : ∀ b ∈ fp, FpOk X pins H b) (ok : ItOk X J xs H) (hz : xs.length ≤ sizeLine)
    (hP : compD g te xs (capE ρ k ix) [] P) {RR : Value → Addr → Result → Shared → Prop} {E : Value → Shared → Prop}
    (post : ∀ (ds : List D) (vs : List V) (its : List Value) (n : Nat) (C : Addr) (s' : Shared) (H' : Hp), P ds → Same H H' → H' s2.heap.objs.size = none → Reps X.K H' ds vs → Vals vs its → vs.length ≤ sizeLine →
      s'.heap.get? s2.heap.objs.size = some { cls := .type "list", data := .seq its.toArray n } → Inv X pins σ H' s' → (∃ m, s'.heap.Ns C m) → s2.heap.objs.size < C → H' C = none → RR (.ref s2.heap.objs.size) C (.ok .next) s') :
    wpAny (model X.prog X.w) X.A (newList []) (fun acc s₃ => wpAny (model X.prog X.w) X.A (newFunctionEnv scope X.env.globals cl [] X.env.qual none .none (some X.env)) (fun cenv s₄ =>
      codeAny (model X.prog X.w) X.A (.compStart (.ListComp elt [⟨target, iter, [], 0⟩] scope pos) 0 (.ref it) acc { cenv with scope := relabel scope X.env }) (RR acc cenv.locals) s₄) E s₃) E s2 := by
  refine wpAny_newObj_type (wpAny_newFunctionEnv Sc.nocell (by intro y hy; simp at hy) (fun h₁ hns₁ hsb₁ => ?_) Sc.kind)
  dsimp only at hns₁ hsb₁ ⊢
  generalize hH2 : s2.heap.push { cls := .type "list", dict := none, data := .seq ([] : List Value).toArray } = HP2 at hns₁ hsb₁ ⊢
  have hCs : HP2.objs.size = s2.heap.objs.size + 1 := by rw [← hH2, Heap.size_push]
  have hltC : s2.heap.objs.size < HP2.objs.size := by rw [hCs]; exact Nat.lt_succ_self _
  have hlt : ∀ b ∈ fp, b < s2.heap.objs.size := fun b hb => by
    obtain ⟨o, ho, _⟩ := T.obj 0 _ st b hb
    exact Heap.lt_size ho
  have old : ∀ b o, s2.heap.get? b = some o → h₁.get? b = some o := fun b o e =>
    hsb₁.extBut b o (Nat.ne_of_lt (Nat.lt_trans (Heap.lt_size e) hltC)) (Heap.get?_push_of_some _ (hH2 ▸ Heap.get?_push_of_some _ e))
  have hacc : h₁.get? s2.heap.objs.size = some { cls := .type "list", data := .seq ([] : List Value).toArray 0 } :=
    hsb₁.extBut _ _ (Nat.ne_of_lt hltC) (Heap.get?_push_of_some _ (hH2 ▸ Heap.get?_push_size _ rfl))
  have hfr : H s2.heap.objs.size = none := I2.hok.fresh (Nat.le_refl _)
  -- the block's context
  let X' := cxComp X scope N cl HP2.objs.size s2 H fp
  have J0 : Inv X' [] (capS σ k ix) H { s2 with heap := h₁, toks := s2.toks + ([] : List (Str × Value)).length } :=
    comp_inv I2 Sc hcl hall (Nat.le_of_lt hltC) hf hlt old rfl I2.bare hns₁ hN hdrop hix hiy hkind
  have S0 : StOk X' (capE ρ k ix) (capS σ k ix) H := cap_ok so rfl rfl
  have hD0fs : s2.heap.objs.size ∉ X'.fs := fun hb => by
    have hb : s2.heap.objs.size ∈ frs X.stack := hb
    rcases List.mem_cons.mp (I2.stkSub _ hb) with e | e
    · exact absurd (show X.env.locals < X.env.locals from Nat.lt_of_lt_of_eq I2.lt e) (Nat.lt_irrefl _)
    · exact I2.nofs (Nat.le_refl _) e
  have fpok : ∀ {H' : Hp} {o : Obj}, (∀ b ∈ fp, H' b = none) → ∀ b ∈ fp, FpOk X' [(s2.heap.objs.size, o)] H' b := fun {H' o} hn b hb => by
    obtain ⟨f0, f1, f2, f3, f4, f5⟩ := hf b hb
    refine ⟨hn b hb, Nat.ne_of_lt (Nat.lt_trans (hlt b hb) hltC), fun hfs => ?_, .inl hb, fun x c e => f4 x c (hcl x c e), fun p hp => ?_⟩
    · rcases List.mem_cons.mp (I2.stkSub b hfs) with e | e
      · exact f1 e
      · exact f2 e
    · have : p = (s2.heap.objs.size, o) := by simpa [X', cxComp] using hp
      subst this
      exact Nat.ne_of_gt (hlt b hb)
  have pinD : ∀ {σ' : St} {H' : Hp} {s' : Shared} {its : List Value} {n : Nat}, Inv X' [] σ' H' s' → H' s2.heap.objs.size = none → s'.heap.get? s2.heap.objs.size = some { cls := .type "list", data := .seq its.toArray n } → Inv X' [(s2.heap.objs.size, { cls := .type "list", data := .seq its.toArray n })] σ' H' s' := fun I' hn e =>
    I'.pins_of fun p hp => by
      have := List.mem_singleton.mp hp
      subst this
      exact ⟨e, hn, Nat.ne_of_lt hltC, hD0fs, fun v z => by cases z⟩
  -- the loop
  have loop : ∀ s₃ : Shared, s₃ = { s2 with heap := h₁, toks := s2.toks + ([] : List (Str × Value)).length } →
      codeAny (model X.prog X.w) X.A (.compLoop (.ListComp elt [⟨target, iter, [], 0⟩] scope pos) 0 (.ref it) (.ref s2.heap.objs.size) (compEnvC scope cl HP2.objs.size X.env)) (RR (.ref s2.heap.objs.size) HP2.objs.size) s₃ := by
    rintro s₃ rfl
    refine comp_loop (fun m s' => ∃ (i : Nat) (ρ' : En) (σ' : St) (H' : Hp) (ds : List D) (vs : List V) (its : List Value) (n : Nat), m = xs.length - i ∧ i ≤ xs.length ∧ Inv X' [] σ' H' s' ∧ StOk X' ρ' σ' H' ∧ tn i s'.heap ∧ (∀ b ∈ fp, H' b = none) ∧
      H' s2.heap.objs.size = none ∧ s'.heap.get? s2.heap.objs.size = some { cls := .type "list", data := .seq its.toArray n } ∧ Reps X.K H' ds vs ∧ Vals vs its ∧ vs.length = i ∧ compD g te (xs.drop i) ρ' ds P) ?_ xs.length
      ⟨0, capE ρ k ix, capS σ k ix, H, [], [], [], 0, rfl, Nat.zero_le _, J0, S0, T.keep _ _ _ st (fun b hb o e => old b o e), fun b hb => (hf b hb).1, hfr, hacc, .nil, .nil, rfl, by simpa using hP⟩
    rintro m s' ⟨i, ρ', σ', H', ds, vs, its, n, rfl, hi, I', S', st', fr', hn', e', rr, rv, hl, hD⟩ E'
    obtain ⟨o1, o2⟩ := ok i H' (.of S'.same)
    have I1 := pinD I' hn' e'
    by_cases hlt' : i < xs.length
    · have e : xs.drop i = xs[i] :: xs.drop (i + 1) := List.drop_eq_getElem_cons hlt'
      rw [e] at hD
      obtain ⟨go, yl⟩ := o1 xs[i] (List.getElem?_eq_getElem hlt')
      refine thn (T.item X' rfl rfl rfl hc i _ s' σ' H' E' I1 (fpok fr') st' go) fun r s4 ⟨u, hr, h4⟩ => ?_
      subst hr
      refine thn h4 fun _ s5 ⟨x, H5, I5, r5, y5, st5, fr5⟩ => ?_
      obtain ⟨s45, rx5⟩ := yl x H5 y5
      have I5' := I5.pinned (fpok fr5) (T.obj _ _ st5)
      refine wpAny_mono (hg _ _ _ _ _ s5 σ' H5 x u (fun σ6 H6 => ∃ ρ6, te ρ6 (fun d => compD g te (xs.drop (i + 1)) ρ6 (ds ++ [d]) P) ∧ Keep H5 H6 ∧ StOk X' ρ6 σ6 H6) I5' r5 ⟨xs[i], ρ', _, rx5, S'.ext s45, hD, fun ρ6 σ6 H6 q6 k6 s6 => ⟨ρ6, q6, k6, s6⟩⟩) (fun _ s6 ⟨σ6, H6, I6, ρ6, q6, k6, S6⟩ => ?_) fun _ _ z => z.elim
      refine wpAny_mono (he _ _ _ _ _ s6 σ6 H6 (fun v H7 => ∃ d, compD g te (xs.drop (i + 1)) ρ6 (ds ++ [d]) P ∧ Same H6 H7 ∧ Rep X.K H7 d v) I6 ⟨ρ6, _, S6, q6, fun d v H7 q7 s7 r7 => ⟨d, q7, s7, r7⟩⟩) (fun u7 s7 ⟨v7, H7, I7, rv7, d, q7, s67, r7⟩ => ?_) fun _ _ z => z.elim
      -- the list is as it was, and is grown
      obtain ⟨e7, n7, _, _, _⟩ := I7.pin (s2.heap.objs.size, _) (List.mem_append_right _ (List.mem_append_left _ List.mem_cons_self))
      have hsz : its.toArray.size + 1 ≤ sizeLine := by
        rw [List.size_toArray, ← rv.length, hl]
        omega
      refine call_meets F.slot_list_append ⟨_, e7, rfl⟩ F.entry_list_append (F.args_list_append_2 _ _) (PySem.list_append s2.heap.objs.size its.toArray n u7 (by omega)) ⟨e7, ?_⟩
      have e8 := PySem.IsL.update e7 (fun a => a.push u7)
      have I8 : Inv X' [] σ6 H7 s7 := I7.pins_of fun p hp => absurd hp (by simp)
      have upd8 : ∀ b o, b ≠ s2.heap.objs.size → s7.heap.get? b = some o → (s7.heap.update s2.heap.objs.size (Obj.mapSeq fun a => a.push u7)).get? b = some o := fun b o hb q => (Heap.get?_update_other s7.heap _ (Ne.symm hb)).trans q
      have I9 : Inv X' [] σ6 H7 { s7 with heap := s7.heap.update s2.heap.objs.size (Obj.mapSeq fun a => a.push u7) } :=
        I8.turned (t' := s7.toks) upd8 n7 (Nat.ne_of_lt hltC) (.inr (Nat.le_refl _)) (fun x c q z => by
          obtain ⟨v, hv⟩ := I2.cell x c (hcl x c q)
          exact absurd hv.lt (by rw [z]; exact Nat.lt_irrefl _)) (fun p hp => absurd (show p ∈ ([] : List (Addr × Obj)) from hp) (by simp))
      have k57 : Keep H5 H7 := k6.trans (.of s67)
      have k' : Keep H' H7 := (Keep.of s45).trans k57
      refine ⟨xs.length - (i + 1), by omega, i + 1, ρ6, σ6, H7, ds ++ [d], vs ++ [v7], its ++ [u7], _, rfl, hlt', I9, S6.ext s67, ?_, fun b hb => ?_, n7, by simpa using e8, (rr.keep k').append (.cons r7 .nil), rv.append (.cons rv7 .nil), by rw [List.length_append, hl]; rfl, q7⟩
      · refine T.keep _ _ _ st5 fun b hb o q => ?_
        have q7' := (I7.pin (b, o) (List.mem_append_right _ (List.mem_append_right _ (mem_pinsAt hb q)))).1
        exact upd8 b o (Nat.ne_of_lt (hlt b hb)) q7'
      · obtain ⟨o, q, _⟩ := T.obj _ _ st5 b hb
        exact (I7.pin (b, o) (List.mem_append_right _ (List.mem_append_right _ (mem_pinsAt hb q)))).2.1
    · have hie : i = xs.length := by omega
      subst hie
      rw [List.drop_length] at hD
      refine thn (T.done X' rfl rfl rfl hc _ _ s' σ' H' E' I1 (fpok fr') st' (o2 (Nat.le_refl _))) fun r s4 ⟨hr, I4⟩ => ?_
      subst hr
      obtain ⟨e4, n4, _, _, _⟩ := I4.pin (s2.heap.objs.size, _) (List.mem_append_right _ List.mem_cons_self)
      obtain ⟨m4, hn4, _⟩ := I4.loc
      have I5 : Inv X pins σ H' s4 := I2.call' (ch := fp) I4.os I4.base I4.hok I4.bare fun b hb => by
        obtain ⟨f0, f1, f2, f3, f4, f5⟩ := hf b hb
        exact ⟨f3, f1, f4, f5⟩
      exact post ds vs its n HP2.objs.size s4 H' hD S'.same n4 rr rv (by rw [hl]; exact hz) e4 I5 ⟨m4, hn4⟩ hltC I4.free
  exact codeAny_compStart_list (loop _ rfl) (T.self X.A 0 _ _ _ (T.keep _ _ _ st fun b hb o e => old b o e) (loop _ rfl))
end
end L2.R2

set_option Elab.async false
set_option linter.all false
set_option maxRecDepth 100000
namespace L2.R2
open PySem PySem.Spec PyProof.Rows L2

/-- all that is asked of a comprehension's names, in one look: N its own names (k of them), then those it takes from around; ix the slots of these around -/
def compB (X : Cx) (scope : Scope) (N : List Str) (k : Nat) (ix : List Nat) : Bool :=
  scope.kind == .function && scope.names.all (fun y => y.2 != .cell) && scope.names.all (fun y => y.2 != .local || scope.names.lookup y.1 == some .local) &&
  scope.names.all (fun y => y.2 != .free || X.env.kindOf y.1 == some .cell || X.env.kindOf y.1 == some .free) &&
  N.length == k + ix.length && ((N.drop k).zip ix).all (fun p => X.N[p.2]? == some p.1 && scope.names.contains (p.1, .free)) &&
  (N.drop k).all (fun y => (relabel scope X.env).names.lookup y == some .cell || (relabel scope X.env).names.lookup y == some .free)
structure CompF (X : Cx) (scope : Scope) (N : List Str) (k : Nat) (ix : List Nat) : Prop where
  sc : CScope X scope
  hN : N.length = k + (N.drop k).length
  hix : ix.length = (N.drop k).length
  hiy : ∀ (j : Nat) (y : Str) (i : Nat), (N.drop k)[j]? = some y → ix[j]? = some i → X.N[i]? = some y ∧ (y, NameKind.free) ∈ scope.names
  hkind : ∀ y ∈ N.drop k, (relabel scope X.env).names.lookup y = some .cell ∨ (relabel scope X.env).names.lookup y = some .free
theorem compB_ok {X : Cx} {scope : Scope} {N : List Str} {k : Nat} {ix : List Nat} (h : compB X scope N k ix = true) : CompF X scope N k ix := by
  unfold compB at h
  simp only [Bool.and_eq_true, List.all_eq_true, bne_iff_ne, ne_eq, Bool.or_eq_true, beq_iff_eq] at h
  obtain ⟨⟨⟨⟨⟨⟨h1, h2⟩, h3⟩, h4⟩, h5⟩, h6⟩, h7⟩ := h
  have hl : (N.drop k).length = ix.length := by rw [List.length_drop]; omega
  refine ⟨⟨h1, h2, fun y hy e => ?_, fun y hy e => ?_⟩, by omega, hl.symm, fun j y i e1 e2 => ?_, h7⟩
  · rcases h3 y hy with q | q
    · exact absurd e q
    · exact q
  · rcases h4 y hy with (q | q) | q
    · exact absurd e q
    · exact .inl q
    · exact .inr q
  · have hm : (y, i) ∈ (N.drop k).zip ix := by
      refine List.mem_of_getElem? (i := j) ?_
      rw [List.getElem?_zip_eq_some]
      exact ⟨e1, e2⟩
    obtain ⟨q1, q2⟩ := h6 _ hm
    exact ⟨q1, List.contains_iff_mem.mp q2⟩
def rComp (ti : RA) (k : Nat) (ix : List Nat) (g : RG) (te : RE) : RA := fun ρ Q => ti ρ fun xs => Sz xs.length ∧ compD g te xs (capE ρ k ix) [] Q
section
variable {X : Cx} {scope : Scope} {elt target iter : Expr} {pos : Pos} {g : RG} {te : RE} {ti : RA}
/-- the facts of a fresh block's frame -/
theorem fresh_frame {pins : List (Addr × Obj)} {σ : St} {H H' : Hp} {s s' : Shared} {C : Addr} {h' : Heap} {t' : Nat} (I2 : Inv X pins σ H s) {σ' : St} (I' : Inv X pins σ' H' s') (hC : s.heap.objs.size ≤ C) (hn : H' C = none) (hs : Heap.SameBut C s'.heap h') :
    Inv X pins σ' H' { s' with heap := h', toks := t' } :=
  I'.turned (fun b o hb e => (hs.2 b hb).trans e) hn (Nat.ne_of_gt (Nat.lt_of_lt_of_le I2.lt hC)) (.inr (Nat.le_trans I2.sz hC)) (fun x c e z => by
    obtain ⟨v, hv⟩ := I2.cell x c e
    exact absurd (Nat.lt_of_lt_of_le hv.lt (by rw [z]; exact hC)) (Nat.lt_irrefl _)) fun p hp z => absurd (Nat.lt_of_lt_of_le (Heap.lt_size (I2.pin p hp).1) (by rw [z]; exact hC)) (Nat.lt_irrefl _)
theorem do_comp (N : List Str) (k : Nat) (ix : List Nat) (hi : DI X target iter ti) (hg : ∀ cl C s H fp, DG (cxComp X scope N cl C s H fp) target g) (he : ∀ cl C s H fp, DE (cxComp X scope N cl C s H fp) elt te)
    (hc : X.calm = true := by rfl) (hB : compB X scope N k ix = true := by rfl) (hs : ∀ x, foldedSetIterable iter X.env x = pure x := by intro _; rfl) : DO X (.ListComp elt [⟨target, iter, [], 0⟩] scope pos) (rComp ti k ix g te) := by
  intro pins s σ H Q I ⟨ρ, P, so, q, kk⟩
  have F := compB_ok hB
  obtain ⟨cl, hclos, hcl, hall⟩ := closure_ok (scope := scope) (env := X.env) fun y hy hf => I.ok.has _ (F.sc.frees y hy hf)
  rw [eval_ListComp]
  refine wpAny_comprehension_free (use := none) rfl hs hclos F.sc.kind F.sc.locs (thn (hi pins s σ H (fun J H' => ∃ xs, Same H H' ∧ ItOk X J xs H' ∧ xs.length ≤ sizeLine ∧ compD g te xs (capE ρ k ix) [] P) I ⟨ρ, _, so, q, fun xs J H' hx s1 ok => ⟨xs, s1, ok, hx.1.ok, hx.2⟩⟩) fun v s1 h1 => thn h1 fun itv s2 h2 => ?_)
  obtain ⟨it, fp, tn, J, H', rfl, I2, T, st, hf, xs, s01, ok, hz, hD⟩ := h2
  refine comp_core (RR := fun acc C => compPost (model X.prog X.w) X.A X.xe none (EP X pins σ Q) acc C) hc F.sc hcl hall F.hN rfl F.hix F.hiy F.hkind (hg cl) (he cl) I2 (so.ext s01) T st hf ok hz hD ?_
  intro ds vs its n C s' H2 hP s12 hn rr rv hl e I' ⟨m, hns⟩ hltC hnC
  refine ⟨m, hns, fun h' hs' => ?_⟩
  have I3 : Inv X pins σ H2 { s' with heap := h' } := fresh_frame (t' := s'.toks) I2 I' (Nat.le_of_lt hltC) hnC hs'
  have e3 : h'.get? s2.heap.objs.size = some { cls := .type "list", data := .seq its.toArray n } := (hs'.2 _ (Nat.ne_of_lt hltC)).trans e
  exact ⟨.ref s2.heap.objs.size, _, I2.track I3 (Nat.le_refl _) hn e3 rv hl, rfl, kk ds _ vs H2 hP (s01.trans s12) hn rr⟩
end
end L2.R2

set_option Elab.async false
set_option linter.all false
set_option maxRecDepth 100000
namespace L2.R2
open PySem PySem.Spec PyProof.Rows L2

/-! ## a list that a name keeps, changed in place -/
section
variable {X : Cx} {e a b : Expr} {pos apos cpos npos : Pos} {te : RE} {x : Str}
def rAppD (i : Nat) (te : RE) : RS := fun E ρ => match ρ[i]? with
  | some (some (.own xs)) => te ρ fun d => Sz (xs.length + 1) ∧ E.nx (ρ.set i (some (.own (xs ++ [d]))))
  | _ => False
theorem ds_append (i : Nat) (he : DE X e te) (hN : X.N[i]? = some x := by rfl) (hv : Vis X.env.scope x := by first | exact Or.inl rfl | exact Or.inr (Or.inl rfl) | exact Or.inr (Or.inr rfl)) (hd : (x == ("__debug__" : Str)) = false := by decide) (hcd : (x == ("__classdict__" : Str)) = false := by decide)
    (hbase : attributeBase (.Name x npos) "append" X.env (eval (.Name x npos) X.env) = eval (.Name x npos) X.env := by rfl)
    (hfew : ((backTo cpos (starEach [e] X.env)).all (fun x => !x.1) && (backToKw cpos (keywordEach [] X.env)).all (fun x => x.1.isSome) && decide (([e] : List Expr).length + ([] : List Keyword).length + (if ([] : List Keyword).isEmpty then 0 else 1) < 30)) = true := by rfl)
    (hline : (apos.endLine == cpos.line) = true := by rfl) (hs : starEach [e] X.env = [(false, eval e X.env)] := by rfl) (hn : starEach [] X.env = [] := by rfl) (hsw : swapsWith (.Call (.Attribute (.Name x npos) "append" apos) [e] [] cpos) none pos.line X.env = pure false := by rfl) :
    DS X (.Expr (.Call (.Attribute (.Name x npos) "append" apos) [e] [] cpos) pos) (rAppD i te) := by
  refine PS.mono (ps_expr (pe_bm PySem.F.plainAttrs_list PySem.F.slot_list_append PySem.F.type_list_append mt_append (pv i hN hv hd hcd) (pa_one he hs hn) hbase hfew hline (by rw [hs, hn]) (by rw [hn]; rfl)) hsw) fun De σ H ⟨ρ, E, so, q, n, r, bk, ct⟩ => ?_
  unfold rAppD at q
  split at q
  · rename_i xs ex
    obtain ⟨v, h1, p, vs, ev, hp, h0, rr⟩ := so.rel i _ ex
    subst ev
    refine ⟨.ref p, h1, .inl ⟨rfl, vs, SqL.of hp⟩, ρ, _, so, q, fun d v H1 hd s1 rd => ?_⟩
    have hp1 := s1 _ _ hp
    obtain ⟨so2, k2⟩ := (so.ext s1).upd_own ex h1 hp1 h0 ((rr.keep (.of s1)).append (.cons rd .nil))
    have hsz : xs.length + 1 ≤ sizeLine := hd.1.ok
    exact ⟨p, vs, v, rfl, rfl, hp1, by rw [← rr.length]; omega, n _ _ _ hd.2 ((Keep.of s1).trans k2) so2⟩
  · exact q.elim
def rPopD (i : Nat) : RS := fun E ρ => match ρ[i]? with
  | some (some (.own xs)) => xs ≠ [] ∧ E.nx (ρ.set i (some (.own xs.dropLast)))
  | _ => False
/-- x[k] = e -/
def rSetIx (i : Nat) (te tk : RE) : RS := fun E ρ => match ρ[i]? with
  | some (some (.own xs)) => te ρ fun d => tk ρ fun kd => match kd with
    | .int k => match ixN xs.length k with
      | some j => E.nx (ρ.set i (some (.own (xs.set j d))))
      | none => False
    | _ => False
  | _ => False
end
end L2.R2

set_option Elab.async false
set_option linter.all false
set_option maxRecDepth 100000
namespace L2.R2
open PySem PySem.Spec PyProof.Rows L2

/-! ## sums of sequences, parts of sequences -/
section
variable {X : Cx} {e a b : Expr} {pos p : Pos}
/-- Q, or Q once the fresh list is frozen -/
def FzQ (X : Cx) (Q : VK) : VK := fun v H' => Q v H' ∨ ∃ p vs H1, v = .ref p ∧ H' = upd H1 p (.lst vs) ∧ H1 p = none ∧ ∀ H2, Same H1 H2 → FzL X.K H2 p vs → Q v H2
theorem ep_fz {pins : List (Addr × Obj)} {σ : St} {Q : VK} {u : Value} {s : Shared} (h : EP X pins σ (FzQ X Q) u s) : EP X pins σ Q u s := by
  obtain ⟨v, H', I, rv, q | ⟨p, vs, H1, rfl, rfl, hn, q⟩⟩ := h
  · exact ⟨v, H', I, rv, q⟩
  · obtain ⟨o, I2⟩ := Inv.freeze I (a := p) (xs := vs) upd_same
    exact ⟨.ref p, _, I2, rv, q _ (fun b u e => by rw [upd_ne (ne_of_none e hn), upd_ne (ne_of_none e hn)]; exact e) (.inl ⟨o, upd_same⟩)⟩
theorem PE.frz {t : TE} (h : PE X e t) : PE X e (fun σ H Q => t σ H (FzQ X Q)) := fun pins s σ H Q I q => thn (h pins s σ H _ I q) fun _ _ => ep_fz
theorem OpR.frz {f : Value → Value → Sem Value} {r : R2} (h : OpR X f r) : OpR X f (fun x y H Q => r x y H (FzQ X Q)) := fun pins s σ H x y v u Q I rx ry q => thn (h pins s σ H x y v u _ I rx ry q) fun _ _ => ep_fz
theorem CallR.frz {f : Value} {r : List V → Hp → VK → Prop} (h : CallR X f r) : CallR X f (fun xs H Q => r xs H (FzQ X Q)) := fun pins s σ H xs us Q I rs q => thn (h pins s σ H xs us _ I rs q) fun _ _ => ep_fz
def dAddA : R22 := fun x y Q => match x, y with
  | .int i, .int j => Q (.int (i + j))
  | .lst xs, .lst ys => Sz (xs.length + ys.length) ∧ Q (.lst (xs ++ ys))
  | .tup xs, .tup ys => xs ≠ [] ∧ Sz (xs.length + ys.length) ∧ Q (.tup (xs ++ ys))
  | _, _ => False
theorem upd_new {H : Hp} {p : Addr} {o : HO} (hp : H p = none) : Same H (upd H p o) := fun b u e => by rw [upd_ne (ne_of_none e hp)]; exact e
/-- a slice of a list or of a tuple, of a tuple not the whole -/
def rSlA (te : RE) (tl th : RO) : RE := fun ρ Q => te ρ fun x => tl ρ fun l => th ρ fun u => match x with
  | .lst ds => Q (.lst (cutD ds l u))
  | .tup ds => ¬ (HT.sIx ds.length 0 l = 0 ∧ HT.sIx ds.length ds.length u = ds.length) ∧ Q (.tup (cutD ds l u))
  | _ => False
/-! ## list(x), tuple(x), sum, max, min of a list -/
variable {te : RE}
def dListOf : D → (D → Prop) → Prop := fun d Q => match d with
  | .lst ds => Q (.lst ds)
  | .tup ds => Q (.lst ds)
  | _ => False
theorem boot_list : bootBuiltins "list" = some (.type "list") := by decide +kernel
theorem boot_tuple : bootBuiltins "tuple" = some (.type "tuple") := by decide +kernel
theorem de_listOf (hm : X.mg "list" = none) (h : DB X e te) (hg : Gl X "list" := by rfl) (hs : starEach [e] X.env = [(false, eval e X.env)] := by rfl) (hn : starEach [] X.env = [] := by rfl) : DE X (.Call (.Name "list" p) [e] [] pos) (r1 dListOf te) := by
  refine PE.mono (PE.frz (pe_callTy call_list_of hg hm boot_list (pa_one h hs hn) (by decide) (by decide) (by rw [hs, hn]) (by rw [hn]; rfl))) fun σ H Q ⟨ρ, P, st, q, k⟩ => ⟨ρ, _, st, q, fun d v H1 hd s1 r => ?_⟩
  unfold dListOf at hd; split at hd
  · obtain ⟨p, vs, rfl, hq, rr⟩ := r.lst
    exact ⟨p, vs, rfl, .inl hq, fun p' hp' => .inr ⟨p', _, H1, rfl, rfl, hp', fun H4 s4 fz => k _ _ H4 hd (s1.trans s4) (.lst fz (rr.keep (.of s4)))⟩⟩
  · obtain ⟨p, vs, rfl, hq, rr⟩ := r.tup
    exact ⟨p, vs, rfl, .inr (SqT.of hq), fun p' hp' => .inr ⟨p', _, H1, rfl, rfl, hp', fun H4 s4 fz => k _ _ H4 hd (s1.trans s4) (.lst fz (rr.keep (.of s4)))⟩⟩
  · exact hd.elim
def dTupOf : D → (D → Prop) → Prop := fun d Q => match d with
  | .lst ds => Q (.tup ds)
  | .tup ds => Q (.tup ds)
  | _ => False
theorem de_tupOf (hm : X.mg "tuple" = none) (h : DB X e te) (hg : Gl X "tuple" := by rfl) (hs : starEach [e] X.env = [(false, eval e X.env)] := by rfl) (hn : starEach [] X.env = [] := by rfl) : DE X (.Call (.Name "tuple" p) [e] [] pos) (r1 dTupOf te) := by
  refine PE.mono (pe_callTy call_tuple_of hg hm boot_tuple (pa_one h hs hn) (by decide) (by decide) (by rw [hs, hn]) (by rw [hn]; rfl)) fun σ H Q ⟨ρ, P, st, q, k⟩ => ⟨ρ, _, st, q, fun d v H1 hd s1 r => ?_⟩
  unfold dTupOf at hd; split at hd
  · obtain ⟨p, vs, rfl, hq, rr⟩ := r.lst
    exact ⟨p, vs, rfl, .inl ⟨hq, fun p' hp' => k _ _ _ hd (s1.trans (upd_new hp')) (.tup upd_same (rr.keep (.of (upd_new hp'))))⟩⟩
  · obtain ⟨p, vs, rfl, hq, rr⟩ := r.tup
    exact ⟨p, vs, rfl, .inr ⟨SqT.of hq, k _ _ H1 hd s1 (.tup hq rr)⟩⟩
  · exact hd.elim
def dSum : D → (D → Prop) → Prop := fun d Q => match d with
  | .lst ds => ∃ ns : List Int, ds = ns.map D.int ∧ Q (.int ns.sum)
  | _ => False
end
end L2.R2

set_option Elab.async false
set_option linter.all false
set_option maxRecDepth 100000
namespace L2.R2
open PySem PySem.Spec PyProof.Rows L2

/-! ## reversed(the list at a), n items -/
section
variable {X : Cx} {tg e : Expr} {te : RE} {pos p : Pos}
def riRev (te : RE) : RA := fun ρ Q => te ρ fun d => match d with
  | .lst ds => Q ds.reverse
  | _ => False
end
end L2.R2

set_option Elab.async false
set_option linter.all false
set_option maxRecDepth 100000
set_option maxHeartbeats 1000000
namespace L2.R2
open PySem PySem.Spec PyProof.Rows L2

/-! ## an iterator over a list or a tuple that another one draws from -/
structure Sub (prog : Program) (w : World) (I a : Addr) (vs : List Value) (T : Nat → Heap → Prop) : Prop where
  stay : ∀ {k : Nat} {h h' : Heap}, T k h → (∀ o, h.get? I = some o → h'.get? I = some o) → (∀ o, h.get? a = some o → h'.get? a = some o) → T k h'
  lt : ∀ {k : Nat} {h : Heap}, T k h → I < h.objs.size ∧ a < h.objs.size
  item : ∀ {A : Around} {E : Value → Shared → Prop} {s : Shared} {k : Nat} {x : Value} {Q : Value → Shared → Prop}, T k s.heap → vs[k]? = some x → (∀ h', T (k + 1) h' → Heap.SameBut I s.heap h' → Q x { s with heap := h' }) →
    wpAny (model prog w) A (Builtin.SmallTypes.nextOf (.ref I)) Q E s
  done : ∀ {A : Around} {E : Value → Shared → Prop} {s : Shared} {k : Nat} {Q : Value → Shared → Prop}, A.handled = none → T k s.heap → vs[k]? = none →
    (∀ h' e, Heap.ExtBut I s.heap h' → (∃ o, h'.get? e = some o ∧ o.cls = .type "StopIteration") → E (.ref e) { s with heap := h' }) → wpAny (model prog w) A (Builtin.SmallTypes.nextOf (.ref I)) Q E s
section
variable {prog : Program} {w : World} {A : Around} {E : Value → Shared → Prop} {s : Shared}
end
/-! ## zip over two of these, its tuples kept by who draws -/
abbrev ZipRec (h : Heap) (z TI TO : Addr) (f0 f1 : Value) : Prop := h.get? z = some { cls := .type "zip", dict := none, data := .fields #[f0, f1, .bool false, .ref TI, .ref TO], slots := #[] }
/-- handed out: nothing, or a tuple that still stands -/
def ZipOut (h : Heap) (z TI TO i1 i2 : Addr) : Prop := ZipRec h z TI TO .none (.bool false) ∨ ∃ (T : Addr) (b : Bool) (o : Obj), ZipRec h z TI TO (rawInt T) (.bool b) ∧ (h.get? T = some o ∧ o.cls = .type "tuple") ∧ T ≠ z ∧ T ≠ i1 ∧ T ≠ i2
structure ZipAp (z TI TO i1 i2 a1 a2 : Addr) : Prop where
  TIz : TI ≠ z
  TOz : TO ≠ z
  i1z : i1 ≠ z
  i2z : i2 ≠ z
  a1z : a1 ≠ z
  a2z : a2 ≠ z
  IO : TI ≠ TO
  I1 : TI ≠ i1
  I2 : TI ≠ i2
  O1 : TO ≠ i1
  O2 : TO ≠ i2
  i12 : i1 ≠ i2
  a1O : a1 ≠ TO
  a2O : a2 ≠ TO
  a1i1 : a1 ≠ i1
  a1i2 : a1 ≠ i2
  a2i1 : a2 ≠ i1
  a2i2 : a2 ≠ i2
section
variable {prog : Program} {w : World} {A : Around} {E : Value → Shared → Prop} {s : Shared} {z TI TO i1 i2 a1 a2 : Addr} {vs us : List Value} {T1 T2 : Nat → Heap → Prop}
/-- its state, k pairs drawn -/
structure ZipSt (z TI TO i1 i2 : Addr) (T1 T2 : Nat → Heap → Prop) (k : Nat) (h : Heap) : Prop where
  out : ZipOut h z TI TO i1 i2
  its : IsPair h TI (.ref i1) (.ref i2)
  own : ∃ a b, IsPair h TO a b
  one : T1 k h
  two : T2 k h
end

/-! ## zip(a, b) made -/
abbrev itRec (c : String) (l : Addr) : Obj := { cls := .type c, data := .fields #[.ref l, .int 0 0] }
section
variable {prog : Program} {w : World} {A : Around} {E : Value → Shared → Prop} {s : Shared}
/-! ## list(an iterator): the loop that fills it -/
end
end L2.R2

set_option Elab.async false
set_option linter.all false
set_option maxRecDepth 100000
set_option maxHeartbeats 1000000
namespace L2.R2
open PySem PySem.Spec PyProof.Rows L2
section
variable {prog : Program} {w : World} {A : Around} {E : Value → Shared → Prop} {s : Shared} {z TI TO i1 i2 a1 a2 : Addr} {vs us : List Value} {T1 T2 : Nat → Heap → Prop}
/-- the pairs that were drawn stand one behind the other, from N on -/
structure ZipGot (z TI TO i1 i2 : Addr) (T1 T2 : Nat → Heap → Prop) (vs us : List Value) (N : Nat) (fixed : Heap) (S : Addr) (acc : List Value) (h : Heap) : Prop where
  st : ZipSt z TI TO i1 i2 T1 T2 acc.length h
  size : h.objs.size = N + acc.length
  refs : ∀ j, j < acc.length → acc[j]? = some (.ref (N + j))
  got : ∀ j, j < acc.length → ∀ x y, vs[j]? = some x → us[j]? = some y → IsPair h (N + j) x y
  kept : ∀ b o, b ≠ z → b ≠ TO → b ≠ i1 → b ≠ i2 → b ≠ S → fixed.get? b = some o → h.get? b = some o
/-- .. and at the end -/
structure ZipHad (z TO i1 i2 : Addr) (vs us : List Value) (N : Nat) (fixed : Heap) (S : Addr) (acc : List Value) (h : Heap) : Prop where
  refs : ∀ j, j < acc.length → acc[j]? = some (.ref (N + j))
  got : ∀ j, j < acc.length → ∀ x y, vs[j]? = some x → us[j]? = some y → IsPair h (N + j) x y
  kept : ∀ b o, b ≠ z → b ≠ TO → b ≠ i1 → b ≠ i2 → b ≠ S → fixed.get? b = some o → h.get? b = some o
end
end L2.R2

set_option Elab.async false
set_option linter.all false
set_option maxRecDepth 100000
set_option maxHeartbeats 1000000
namespace L2.R2
open PySem PySem.Spec PyProof.Rows L2
section
variable {X : Cx} {pins : List (Addr × Obj)} {σ : St}
end
/-! ## list(zip(a, b)) -/
def seqD : D → Option (List D)
  | .lst xs => some xs
  | .tup xs => some xs
  | _ => none
def rZip (ta tb : RE) : RA := fun ρ Q => ta ρ fun x => tb ρ fun y => ∃ xs ys, seqD x = some xs ∧ seqD y = some ys ∧ xs.length = ys.length ∧ Q (xs.zipWith (fun a b => D.tup [a, b]) ys)
/-- what is walked: a list or a tuple -/
structure Src (h : Heap) (a : Addr) (its : List Value) (c : String) (P : Heap → Prop) (T : Addr → Nat → Heap → Prop) : Prop where
  here : P h
  lt : a < h.objs.size
  stay : ∀ {h1 h2 : Heap}, P h1 → (∀ o, h1.get? a = some o → h2.get? a = some o) → P h2
  sub : ∀ {prog : Program} {w : World} {I : Addr}, a ≠ I → Sub prog w I a its (T I)
  start : ∀ {h1 : Heap} {I : Addr}, h1.get? I = some (itRec c a) → P h1 → T I 0 h1
section
variable {X : Cx} {a b : Expr} {ta tb : RE} {p pz pos posz : Pos}
end
end L2.R2

set_option Elab.async false
set_option linter.all false
set_option maxRecDepth 100000
set_option maxHeartbeats 1000000
namespace L2.R2
open PySem PySem.Spec PyProof.Rows L2
/-! ## for x, y in zip(the list at l, the list at m) -/
section
variable {X : Cx} {a b : Expr} {ta tb : RE} {pos p : Pos} {elts : List Expr} {k : Nat} {tp : Pos}
def riZip (ta tb : RE) : RA := fun ρ Q => ta ρ fun x => tb ρ fun y => match x, y with
  | .lst xs, .lst ys => Q (xs.zipWith (fun a b => D.tup [a, b]) ys)
  | _, _ => False
end
end L2.R2

set_option Elab.async false
set_option linter.all false
set_option maxRecDepth 100000
set_option maxHeartbeats 1000000
namespace L2.R2
open PySem PySem.Spec PyProof.Rows L2
/-! ## min of a list of tuples of ints -/
section
variable {prog : Program} {w : World} {A : Around} {E : Value → Shared → Prop} {s : Shared}
end
end L2.R2

set_option Elab.async false
set_option linter.all false
set_option maxRecDepth 100000
set_option maxHeartbeats 1000000
namespace L2.R2
open PySem PySem.Spec PyProof.Rows L2
section
variable {X : Cx} {e a b : Expr} {te ta tb : RE} {p pos : Pos}
/-! ### tuples of ints: < -/
/-! ### min of a list of them -/
/-! ### != -/
def dNe : R22 := fun x y Q => match x, y with
  | .int i, .int j => Q (.bl !(decide (i = j)))
  | .bl i, .bl j => Q (.bl !(decide (i = j)))
  | .tup xs, .tup ys => match eqL (eqF 5) xs ys with
    | some b => Q (.bl !b)
    | none => False
  | _, _ => False
theorem od_ne {k : Nat} (hr : Room k X.A) : OpD X (compareOp .NotEq) dNe := by
  intro pins s σ H x y v u Q I rx ry ⟨d, e, P, r1, r2, q, kk⟩
  have hu := hr.un
  unfold dNe at q
  split at q
  · rename_i i j
    rw [r1.int_inv] at rx; rw [r2.int_inv] at ry
    obtain ⟨t, rfl⟩ := rx
    obtain ⟨t', rfl⟩ := ry
    have e : (!(decide (i = j))) = !(i == j) := by rw [Bool.beq_eq_decide_eq]
    rw [e] at q
    exact SeqAt.RcNeAt.int_int i t j t' _ _ _ _ ⟨.bl _, H, I, rfl, kk _ _ H q (Same.refl H) (.bl _)⟩
  · rename_i i j
    rw [r1.bl_inv] at rx; rw [r2.bl_inv] at ry
    cases rx; cases ry
    have e : (!(decide (i = j))) = !(i == j) := by rw [Bool.beq_eq_decide_eq]
    rw [e] at q
    exact SeqAt.RcNeAt.bool_bool i j _ _ _ _ ⟨.bl _, H, I, rfl, kk _ _ H q (Same.refl H) (.bl _)⟩
  · rename_i xs ys
    split at q
    · rename_i b h
      obtain ⟨a, vs, rfl, h1, q1⟩ := r1.tup
      obtain ⟨c, ws, rfl, h2, q2⟩ := r2.tup
      cases rx; cases ry
      obtain ⟨its, rv, ht, _⟩ := I.tuple (SqT.of h1)
      obtain ⟨its2, rv2, ht2, _⟩ := I.tuple (SqT.of h2)
      have l1 : xs.length = its.length := q1.length.trans rv.length
      have l2 : ys.length = its2.length := q2.length.trans rv2.length
      have rc : SeqAt.RcNeAt X.A s (.ref a) (.ref c) (!b) := by
        have := SeqAt.RcNeAt.tuples (A := X.A) (s := s) (e := fun j => match xs[j]?, ys[j]? with | some x, some y => (eqF 5 x y).getD false | _, _ => false) ht ht2 (by omega) (fun j g1 g2 => ?_)
        · simp only [List.size_toArray, ← l1, ← l2] at this
          have al := eqL_all h
          rw [← al]
          exact this
        · simp only [List.size_toArray] at g1 g2
          have e1 : xs[j]? = some (xs[j]'(by omega)) := List.getElem?_eq_getElem _
          have e2 : ys[j]? = some (ys[j]'(by omega)) := List.getElem?_eq_getElem _
          obtain ⟨k, hk⟩ := eqL_get h j _ _ e1 e2
          rw [e1, e2]
          simp only [hk, Option.getD_some]
          obtain ⟨v1, f1, f2⟩ := q1.get e1
          obtain ⟨v2, f3, f4⟩ := q2.get e2
          obtain ⟨u1, g3, g4⟩ := rv.get f1
          obtain ⟨u2, g5, g6⟩ := rv2.get f3
          have a1 : its.toArray[j] = u1 := by
            have := List.getElem?_eq_getElem g1
            rw [this] at g3
            simpa using Option.some.inj g3
          have a2 : its2.toArray[j] = u2 := by
            have := List.getElem?_eq_getElem g2
            rw [this] at g5
            simpa using Option.some.inj g5
          rw [a1, a2]
          exact (eqF_at I 5 hk f2 f4 g4 g6 (by show X.A.units + 1 + 5 < cLine; omega)).2
      exact rc _ _ _ _ ⟨.bl _, H, I, rfl, kk _ _ H q (Same.refl H) (.bl _)⟩
    · exact q.elim
  · exact q.elim
/-! ### xs.index(y) -/
def dIndex : R22 := fun x y Q => match x with
  | .lst xs => ∃ j : Nat, (∃ d, xs[j]? = some d ∧ eqF 6 d y = some true) ∧ (∀ (i : Nat) d, i < j → xs[i]? = some d → eqF 6 d y = some false) ∧ (∀ d ∈ xs, ∃ b, eqF 6 d y = some b) ∧ Q (.int (j : Int))
  | _ => False
theorem RelV.det {v v' : V} {u : Value} (h : RelV v u) (h' : RelV v' u) : v = v' := by
  cases v <;> cases v' <;> simp only [RelV] at h h' <;> first
    | rfl
    | (subst h; cases h'; rfl)
    | (obtain ⟨t, rfl⟩ := h; obtain ⟨t', e⟩ := h'; cases e; rfl)
    | (subst h; cases h'; done)
    | (obtain ⟨t, rfl⟩ := h; cases h'; done)
    | (obtain ⟨t, rfl⟩ := h; obtain ⟨t', e⟩ := h'; cases e; done)
    | (obtain ⟨t', rfl⟩ := h'; cases h; done)
end
section
variable {X : Cx} {pins : List (Addr × Obj)} {σ : St} {H : Hp} {s : Shared}
mutual
theorem Rep.det (I : Inv X pins σ H s) : ∀ {d d' : D} {v : V}, Rep X.K H d v → Rep X.K H d' v → d = d'
  | _, _, _, .non, r => by cases r; rfl
  | _, _, _, .bl b, r => by cases r; rfl
  | _, _, _, .int i, r => by cases r; rfl
  | _, _, _, .str x, r => by cases r; rfl
  | _, _, _, .tup h q, r => by
    cases r with
    | tup h' q' => rw [h] at h'; cases h'; rw [Reps.det I q q']
    | lst h' q' =>
      obtain ⟨its, rv, pl, _⟩ := I.list h'.sq
      obtain ⟨jts, rv', ⟨o, e, c, _⟩, _⟩ := I.tuple (SqT.of (K := X.K) h)
      obtain ⟨o', e', c', _⟩ := pl.isList
      rw [e] at e'; cases e'; rw [c] at c'; simp at c'
  | _, _, _, .lst h q, r => by
    cases r with
    | tup h' q' =>
      obtain ⟨its, rv, pl, _⟩ := I.list h.sq
      obtain ⟨jts, rv', ⟨o, e, c, _⟩, _⟩ := I.tuple (SqT.of (K := X.K) h')
      obtain ⟨o', e', c', _⟩ := pl.isList
      rw [e] at e'; cases e'; rw [c] at c'; simp at c'
    | lst h' q' => rw [I.list_inj h'.sq h.sq] at q'; rw [Reps.det I q q']
theorem Reps.det (I : Inv X pins σ H s) : ∀ {d d' : List D} {v : List V}, Reps X.K H d v → Reps X.K H d' v → d = d'
  | _, _, _, .nil, r => by cases r; rfl
  | _, _, _, .cons h t, r => by
    cases r with
    | cons h' t' => rw [Rep.det I h h', Reps.det I t t']
end
end
section
variable {X : Cx} {e a b : Expr} {te ta tb : RE} {p pos : Pos}
def rIndex (ta tb : RE) : RE := fun ρ Q => ta ρ fun x => (∃ xs, x = .lst xs) ∧ tb ρ fun y => dIndex x y Q
end
end L2.R2

set_option Elab.async false
set_option linter.all false
set_option maxRecDepth 100000
set_option maxHeartbeats 1000000
namespace L2.R2
open PySem PySem.SetTable
/-! ## the places of a set's table: every search comes to an empty one -/
def hop (N i : Nat) : Nat := (i * 5 + 1) % N
def hops (N : Nat) : Nat → Nat → Nat
  | 0, i => i
  | m + 1, i => hops N m (hop N i)
theorem hops_add (N : Nat) : ∀ a b i, hops N (a + b) i = hops N b (hops N a i)
  | 0, b, i => by rw [Nat.zero_add]; rfl
  | a + 1, b, i => by rw [Nat.add_right_comm]; exact hops_add N a b (hop N i)
def trail (N : Nat) : Nat → Nat → List Nat
  | 0, _ => []
  | m + 1, i => i :: trail N m (hop N i)
theorem mem_trail {N j : Nat} : ∀ {m i : Nat}, j ∈ trail N m i → ∃ k, k < m ∧ hops N k i = j
  | 0, _, h => by cases h
  | m + 1, i, h => by
    rcases List.mem_cons.mp h with rfl | h
    · exact ⟨0, by omega, rfl⟩
    · obtain ⟨k, hk, e⟩ := mem_trail h
      exact ⟨k + 1, by omega, e⟩
def Round (N : Nat) : Prop := (∀ j, j < N → j ∈ trail N N 0) ∧ hops N N 0 = 0
theorem Round.reach {N : Nat} (h : Round N) {i j : Nat} (hi : i < N) (hj : j < N) : ∃ k, k < N ∧ hops N k i = j := by
  obtain ⟨a, ha, ea⟩ := mem_trail (h.1 i hi)
  obtain ⟨b, hb, eb⟩ := mem_trail (h.1 j hj)
  by_cases hab : a ≤ b
  · refine ⟨b - a, by omega, ?_⟩
    rw [← ea, ← hops_add, show a + (b - a) = b by omega, eb]
  · refine ⟨b + (N - a), by omega, ?_⟩
    rw [← ea, ← hops_add, show a + (b + (N - a)) = N + b by omega, hops_add, h.2, eb]

structure TabOk (t : SetTable) (n : Nat) : Prop where
  size : t.place.size = n
  dum : t.dummies = #[]
  room : n ≤ t.mask
  round : Round (t.mask + 1)
  ris : t.place.toList.Pairwise (· < ·)

/-! ## a table laid anew -/
/-! ## the places rise -/
def placeAt (t : SetTable) (k : Nat) : Nat := if k = 0 then 0 else t.place.getD (k - 1) 0 + 1
end L2.R2

set_option Elab.async false
set_option linter.all false
set_option maxRecDepth 100000
set_option maxHeartbeats 1000000
namespace L2.R2
open PySem PySem.SetTable
/-! ## tuples of ints put into a set -/
section
variable {prog : Program} {w : World} {A : Around} {E : Value → Shared → Prop} {s : Shared}

def byText (w : World) : Bool := w.params.followText "set-order"
/-- the elements of a set: tuples of ints with their hashes -/
def EsOk (prog : Program) (w : World) (h : Heap) (es : Array (Int × Value)) : Prop := ∀ e ∈ es.toList, ∃ ks b, e = (tupleKeyHash (intKind prog w) ks, .ref b) ∧ IsTupleKey (intKind prog w) h ks b
def Full (mask n : Nat) : Prop := (mask = 7 ∧ n ≤ 4) ∨ (mask = 31 ∧ n ≤ 18) ∨ (mask = 127 ∧ n ≤ 76)
def setRec (es : Array (Int × Value)) (ep : Nat) (t : SetTable) : Obj := { cls := .type "set", dict := none, data := .set es ep t }

/-- a set of tuples of ints -/
structure SetTup (prog : Program) (w : World) (h : Heap) (S : Addr) (es : Array (Int × Value)) : Prop where
  tab : ∃ ep t, h.get? S = some (setRec es ep t) ∧ TabOk t es.size ∧ Full t.mask es.size ∧ t.led = !byText w ∧ t.plain = true
  els : EsOk prog w h es

end
end L2.R2

set_option Elab.async false
set_option linter.all false
set_option maxRecDepth 100000
set_option maxHeartbeats 3200000
namespace L2.R2
open PySem PySem.SetTable PyProof.Rows
/-! ## set(a list of tuples of ints) -/
section
variable {prog : Program} {w : World} {A : Around} {E : Value → Shared → Prop} {s : Shared}

theorem SetTup.other {h h' : Heap} {S : Addr} {es : Array (Int × Value)} (H : SetTup prog w h S es) (up : ∀ b o, h.get? b = some o → (∃ e ∈ es.toList, e.2 = .ref b) ∨ b = S → h'.get? b = some o) : SetTup prog w h' S es := by
  obtain ⟨⟨ep, t, ho, r⟩, els⟩ := H
  refine ⟨⟨ep, t, up _ _ ho (Or.inr rfl), r⟩, fun e he => ?_⟩
  obtain ⟨ks, b, e1, o, items, n, h1, h2, h3, h4⟩ := els e he
  exact ⟨ks, b, e1, o, items, n, up b o h1 (Or.inl ⟨e, he, by rw [e1]⟩), h2, h3, h4⟩

structure SetDone (prog : Program) (w : World) (items : Array Value) (key : Nat → List Int) (S : Addr) (i : Nat) (h : Heap) : Prop where
  ex : ∃ es, SetTup prog w h S es ∧ (∀ y ∈ es.toList, ∃ j, j < i ∧ items[j]? = some y.2) ∧ (∀ j, j < i → ∃ y ∈ es.toList, ∃ b, y.2 = .ref b ∧ IsTupleKey (intKind prog w) h (key j) b) ∧ es.size ≤ i

end
end L2.R2

set_option Elab.async false
set_option linter.all false
set_option maxRecDepth 100000
set_option maxHeartbeats 3200000
namespace L2.R2
open PySem PySem.SetTable PyProof.Rows
/-! ## walking over such a set -/
section
variable {prog : Program} {w : World} {A : Around} {E : Value → Shared → Prop} {s : Shared}
def slotAt (w : World) (t : SetTable) (k : Nat) : Nat := if byText w = true then 0 else placeAt t k
def sitRec (w : World) (S : Addr) (n ep : Nat) (t : SetTable) (k : Nat) : Obj := { cls := .type "set_iterator", data := .fields #[rawInt (slotAt w t k), rawInt k, .ref S, rawInt n, rawInt ep] }

structure SetIt (w : World) (S I : Addr) (es : Array (Int × Value)) (ep : Nat) (t : SetTable) (k : Nat) (h : Heap) : Prop where
  set : h.get? S = some (setRec es ep t)
  it : h.get? I = some (sitRec w S es.size ep t k)

end
end L2.R2

set_option Elab.async false
set_option linter.all false
set_option maxRecDepth 100000
set_option maxHeartbeats 3200000
namespace L2.R2
open PySem PySem.SetTable PyProof.Rows
section
variable {prog : Program} {w : World} {A : Around} {E : Value → Shared → Prop} {s : Shared}
end
end L2.R2

set_option Elab.async false
set_option linter.all false
set_option maxRecDepth 100000
set_option maxHeartbeats 1000000
namespace L2.R2
open PySem PySem.W PyProof.Rows
/-! ## the sort of the library's trees puts in order -/
def kIn {α : Type} (lt : Nat → Nat → Bool) (n : Nat) : KasT α → Prop
  | .ret _ => True
  | .ask i j k => i < n ∧ j < n ∧ kIn lt n (k (lt i j))
section
variable {O : KeyOrd} {key : Nat → O.α} {N : Nat}
def kk (O : KeyOrd) (key : Nat → O.α) (p : Array Nat) (i : Nat) : O.α := key (p.getD i 0)
end
end L2.R2

set_option Elab.async false
set_option linter.all false
set_option maxRecDepth 100000
set_option maxHeartbeats 3200000
namespace L2.R2
open PySem PySem.W PySem.SetTable PyProof.Rows
/-! ## sorted(set(..)) of tuples of ints -/
section
variable {prog : Program} {w : World} {A : Around} {E : Value → Shared → Prop} {s : Shared}
theorem int_inv {k : Int} {v : Value} (h : (intKind prog w).is k v = true) : ∃ t, v = .int k t := by
  cases v <;> simp [intKind, Value.isInt] at h
  exact ⟨_, by rw [h]⟩
/-- where the keys of a list's items lie -/
def KeysAt (prog : Program) (w : World) (h : Heap) (vs : List Value) (nss : List (List Int)) : Prop := vs.length = nss.length ∧ ∀ i v, vs[i]? = some v → ∃ a, v = .ref a ∧ IsTupleKey (intKind prog w) h (nss.getD i []) a
theorem KeysAt.other {h h' : Heap} {vs : List Value} {nss : List (List Int)} {a : Addr} {xs : Array Value} {n : Nat} (K : KeysAt prog w h vs nss) (ho : h.get? a = some (seqObj "list" xs n)) (up : ∀ b o, b ≠ a → h.get? b = some o → h'.get? b = some o) : KeysAt prog w h' vs nss := by
  refine ⟨K.1, fun i v e => ?_⟩
  obtain ⟨b, rfl, o, its, m, h1, h2, h3, h4⟩ := K.2 i v e
  refine ⟨b, rfl, o, its, m, up b o ?_ h1, h2, h3, h4⟩
  rintro rfl
  rw [ho] at h1; cases h1
  exact absurd h2 (by simp [seqObj])

end
end L2.R2

set_option Elab.async false
set_option linter.all false
set_option maxRecDepth 100000
set_option maxHeartbeats 3200000
namespace L2.R2
open PySem PySem.W PyProof.Rows
/-! ## list(reversed(a list)) -/
section
variable {prog : Program} {w : World} {A : Around} {E : Value → Shared → Prop} {s : Shared}
end
end L2.R2

set_option Elab.async false
set_option linter.all false
set_option maxRecDepth 100000
set_option maxHeartbeats 1000000
namespace L2.R2
open PySem PySem.Spec PyProof.Rows L2
/-! ## sorted(set(..)) and list(reversed(..)) over plain data -/
section
variable {X : Cx} {e : Expr} {te : RE} {p pz pos posz : Pos}
end
end L2.R2

set_option Elab.async false
set_option linter.all false
set_option maxRecDepth 100000
set_option maxHeartbeats 1000000
namespace L2.R2
open PySem PySem.Spec PyProof.Rows L2
/-! ## range in steps of two -/
def Itr2 (lo : Int) (n : Nat) : It := ⟨fun i _ => i < n, fun i H x H' => H' = H ∧ x = .int (lo + i * 2), fun i _ => n ≤ i⟩
theorem turn_range2 {P : Program} {w : World} {K : PySem.W.Frag} {tg : Expr} (it : Addr) (lo : Int) (n : Nat) : Turn P w K tg (Itr2 lo n) [it] it (fun i h => IsRangeIter h it (lo + (i : Nat) * 2) ((n : Int) - (i : Nat)) 2) where
  mem := by simp
  obj := fun i h st b hb => by
    have e : b = it := by simpa using hb
    subst e
    exact ⟨_, st, fun v z => by have z' : Data.fields _ = Data.cell v := z; cases z'⟩
  keep := fun i h h' st k => k it (by simp) _ st
  item := by
    intro X hP hw hK hc i pins s σ H E I hf st hg
    subst hP hw hK
    obtain ⟨f0, f1, f2, f3, f4, f5⟩ := hf it (by simp)
    have W := Walks.range (prog := X.prog) (w := X.w) (I.ok.hd hc) it lo 2 n
    refine W.item i s _ _ hg st fun v h' tk hv st' kk => ?_
    obtain ⟨t, rfl⟩ := hv
    have I1 : Inv X pins σ H { s with heap := h', toks := tk } := I.turned (fun b o hb e => kk b o (by simpa using hb) e) f0 f1 f3 f4 f5
    exact ⟨_, rfl, go_of (s := { s with heap := h', toks := tk }) (n := "range_iterator") st' rfl rfl (by decide) ⟨.int (lo + i * 2), H, I1, ⟨t, rfl⟩, ⟨rfl, rfl⟩, st', fun b hb => (hf b hb).1⟩⟩
  done := by
    intro X hP hw hK hc i pins s σ H E I hf st hg
    subst hP hw hK
    obtain ⟨f0, f1, f2, f3, f4, f5⟩ := hf it (by simp)
    exact wpAny_pyNext_range_end (I.ok.hd hc) st (by have : n ≤ i := hg; omega) fun h' eb => ⟨rfl, I.turned (t' := s.toks) (fun b o hb e => eb b o hb e) f0 f1 f3 f4 f5⟩
  self := fun _ _ _ _ _ st h => wpAny_pyIter_rangeiter st h
theorem rsize2 (a b : Int) : Builtin.Range.rangeSize a b 2 = if a < b then (b - a - 1) / 2 + 1 else 0 := by
  unfold Builtin.Range.rangeSize
  simp only [show (2 : Int) > 0 by decide, if_true]
theorem small2 {a b : Int} (ha : -(2 ^ 60) ≤ a) (ha' : a < 2 ^ 60) (hb : -(2 ^ 60) ≤ b) (hb' : b < 2 ^ 60) : Builtin.Range.small a b 2 = true := by
  unfold Builtin.Range.small
  rw [rsize2]
  simp only [Builtin.Range.rangeFitsLong, Bool.and_eq_true, Bool.or_eq_true, decide_eq_true_eq, beq_iff_eq, show (2 : Int) > 0 by decide, if_true]
  split <;> omega
section
variable {X : Cx} {tg : Expr}
theorem range_it2 {pins : List (Addr × Obj)} {σ : St} {H : Hp} {s : Shared} {R : It → Hp → Prop} {E : Value → Shared → Prop} {lo hi : Int} {t u v : Tok} {tk : Nat} (I : Inv X pins σ H s) (h1 : -(2 ^ 60) ≤ lo) (h2 : lo < 2 ^ 60) (h3 : -(2 ^ 60) ≤ hi) (h4 : hi < 2 ^ 60)
    (q : R (Itr2 lo ((hi - lo + 1) / 2).toNat) H) : wpAny (model X.prog X.w) X.A (pyIter (.ref s.heap.objs.size)) (PIE X pins σ tg R) E { s with heap := s.heap.push { cls := .type "range", data := .fields #[.int lo t, .int hi u, .int 2 v] }, toks := tk } := by
  refine wpAny_pyIter_range (IsRange.new ..) (small2 h1 h2 h3 h4) ?_
  have I1 : Inv X pins σ H { s with heap := s.heap.push { cls := .type "range", data := .fields #[.int lo t, .int hi u, .int 2 v] }, toks := tk } := I.kept fun b o e => Heap.get?_push_of_some _ e
  have e1 : lo + ((0 : Nat) : Int) * 2 = lo := by simp
  have e2 : ((((hi - lo + 1) / 2).toNat : Nat) : Int) - ((0 : Nat) : Int) = Builtin.Range.rangeSize lo hi 2 := by rw [rsize2]; split <;> omega
  generalize hh : s.heap.push { cls := .type "range", data := .fields #[.int lo t, .int hi u, .int 2 v] } = h1 at I1
  refine ⟨h1.objs.size, [h1.objs.size], _, _, H, rfl, I1.kept (t' := tk) fun b o e => Heap.get?_push_of_some _ e, turn_range2 _ lo ((hi - lo + 1) / 2).toNat, ?_, fun b hb => ?_, q⟩
  · show IsRangeIter _ _ (lo + ((0 : Nat) : Int) * 2) (((((hi - lo + 1) / 2).toNat : Nat) : Int) - ((0 : Nat) : Int)) 2
    rw [e1, e2]
    exact Heap.get?_push_size _ rfl
  · have e : b = h1.objs.size := by simpa using hb
    subst e
    exact I1.fpOk (Nat.le_refl _) (I1.hok.fresh (Nat.le_refl _))
def stepD (lo : Int) (n : Nat) : List D := (List.range n).map fun k : Nat => D.int (lo + (k : Int) * 2)
theorem itr2_ok {H0 : Hp} (lo : Int) (n : Nat) : ItOk X (Itr2 lo n) (stepD lo n) H0 := fun i H kp => by
  refine ⟨fun d e => ?_, fun hl => by show n ≤ i; simpa [stepD] using hl⟩
  unfold stepD at e
  rw [List.getElem?_map] at e
  by_cases hi : i < n
  · rw [List.getElem?_range hi] at e
    cases e
    exact ⟨hi, fun x H' y => by obtain ⟨rfl, rfl⟩ := y; exact ⟨Same.refl _, .int _⟩⟩
  · rw [List.getElem?_eq_none (by simpa using hi)] at e; cases e
structure StpOk (j : Int) : Prop where
  lo : -(2 ^ 60) ≤ j
  hi : j < 2 ^ 60
def riStep (t : RA) : RA := fun ρ Q => t ρ fun ds => match ds with
  | [.int i, .int j, .int c] => (StpOk i ∧ StpOk j ∧ c = 2) ∧ Q (stepD i ((j - i + 1) / 2).toNat)
  | _ => False
def iStep (ta : TA) : TI := fun σ H R => ta σ H fun vs H1 => ∃ i j : Int, vs = [.int i, .int j, .int 2] ∧ (-(2 ^ 60) ≤ i ∧ i < 2 ^ 60 ∧ -(2 ^ 60) ≤ j ∧ j < 2 ^ 60) ∧ R (Itr2 i ((j - i + 1) / 2).toNat) H1
theorem pi_step {a b c : Expr} {ta : TA} {p pos : Pos} (hg : Gl X "range") (hm : X.mg "range" = none) (ha : PA X [a, b, c] ta) (hs : starEach [a, b, c] X.env = (false, eval a X.env) :: starEach [b, c] X.env) (hs2 : (backTo pos (starEach [b, c] X.env)).any (·.1) = false) :
    PI X tg (.Call (.Name "range" p) [a, b, c] [] pos) (iStep ta) := by
  intro pins s σ H R I h
  refine Call_ (ld_blt I hg hm boot_range (PyProof.Rows.callWith_type1 (thn (ha pos pins s σ H _ I h) fun us s1 ⟨vs, H1, I1, r1, q1⟩ => ?_) hs hs2))
  obtain ⟨i, j, e, ⟨q1, q2, q3, q4⟩, q⟩ := q1
  subst e
  cases r1 with
  | cons r rr =>
    cases rr with
    | cons r' rr =>
      cases rr with
      | cons r'' rr =>
        cases rr
        obtain ⟨t, rfl⟩ := r
        obtain ⟨t', rfl⟩ := r'
        obtain ⟨t'', rfl⟩ := r''
        exact call_range_3 (by decide) (range_it2 I1 q1 q2 q3 q4 q) (Or.inl (BL.noPy (show BL 9000 2 from (by exact Nat.lt_of_lt_of_le (show 2 < 2 ^ 2 by decide) (Nat.pow_le_pow_right (by decide) (by decide))))))
theorem di_step {a b c : Expr} {t : RA} {p pos : Pos} (hm : X.mg "range" = none) (ha : DA X [a, b, c] t) (hg : Gl X "range" := by rfl)
    (hs : starEach [a, b, c] X.env = (false, eval a X.env) :: starEach [b, c] X.env := by rfl) (hs2 : (backTo pos (starEach [b, c] X.env)).any (·.1) = false := by rfl) : DI X tg (.Call (.Name "range" p) [a, b, c] [] pos) (riStep t) := by
  refine PI.mono (pi_step hg hm ha hs hs2) fun σ H R ⟨ρ, P, st, q, k⟩ => ⟨ρ, _, st, q, fun ds vs H1 hd s1 r => ?_⟩
  match ds, vs, r, hd with
  | [.int i, .int j, .int c], _, .cons r1 (.cons r2 (.cons r3 .nil)), hd =>
    rw [r1.int_inv, r2.int_inv, r3.int_inv, hd.1.2.2]
    exact ⟨i, j, rfl, ⟨hd.1.1.lo, hd.1.1.hi, hd.1.2.1.lo, hd.1.2.1.hi⟩, k _ _ H1 hd.2 s1 (itr2_ok i _)⟩
end
end L2.R2

set_option Elab.async false
set_option linter.all false
set_option maxRecDepth 100000
namespace L2.R2
open PySem PySem.Spec PyProof.Rows L2
/-- shared_divisor ["one", "other", "larger", "smaller", "rest"] -/
def rd_shared_divisor_b1 : RS :=
  rSeq (rSet 4 (r2 dMod (rVarB 2) (rVarB 3)))
  (rSeq (rSet 2 (rVar 3))
  (rSet 3 (rVar 4)))
def rd_shared_divisor : RS :=
  rSeq (rSet 2 (rCB dAbs (raCons (rVar 0) (raNil))))
  (rSeq (rSet 3 (rCB dAbs (raCons (rVar 1) (raNil))))
  (rSeq (rWhile (rTest (r2 (dEqS true) (rVarB 3) (rC (.int 0)))) (rd_shared_divisor_b1))
  (rRet (rVar 2))))

/-- ratio ["top", "bottom", "divisor"] -/
def rd_ratio (F_shared_divisor : FD) : RS :=
  rSeq (rIfS (rTest (r2 (dEqS false) (rVarB 1) (rC (.int 0)))) ((fun _ _ => False)) (rNext))
  (rSeq (rSet 2 (rCall F_shared_divisor (raCons (rVar 0) (raCons (rVar 1) (raNil)))))
  (rSeq (rIfS (rTest (r2 (dCmp fun i j => decide (i < j)) (rVarB 1) (rC (.int 0)))) (rSet 2 (r1 dNeg (rVarB 2))) (rNext))
  (rRet (rTup (raCons (r2 dFdiv (rVarB 0) (rVarB 2)) (raCons (r2 dFdiv (rVarB 1) (rVarB 2)) (raNil)))))))

/-- _law_cell_at ["_law_script", "_law_k"] -/
def rd__law_cell_at : RS :=
  rSeq (rIfS (rTest (r2 (dCmp fun i j => decide (i < j)) (rVarB 1) (r1 dLen (rVarB 0)))) (rRet (r2 dIx (rVarB 0) (rVarB 1))) (rNext))
  (rRet (rC (.int 0)))

/-- _law_whole ["_law_found"] -/
def rd__law_whole : RS :=
  rRet (rAndV (r1 (dIsi "int") (rVar 0)) (rNotV (r1 (dIsi "bool") (rVar 0))))

/-- plus ["one", "other"] -/
def rd_plus (F_ratio : FD) : RS :=
  rRet (rCall F_ratio (raCons (r2 dAdd (r2 dMul (r2 dIx (rVarB 0) (rC (.int 0))) (r2 dIx (rVarB 1) (rC (.int 1)))) (r2 dMul (r2 dIx (rVarB 1) (rC (.int 0))) (r2 dIx (rVarB 0) (rC (.int 1))))) (raCons (r2 dMul (r2 dIx (rVarB 0) (rC (.int 1))) (r2 dIx (rVarB 1) (rC (.int 1)))) (raNil))))

/-- minus ["one", "other"] -/
def rd_minus (F_ratio : FD) : RS :=
  rRet (rCall F_ratio (raCons (r2 dSub (r2 dMul (r2 dIx (rVarB 0) (rC (.int 0))) (r2 dIx (rVarB 1) (rC (.int 1)))) (r2 dMul (r2 dIx (rVarB 1) (rC (.int 0))) (r2 dIx (rVarB 0) (rC (.int 1))))) (raCons (r2 dMul (r2 dIx (rVarB 0) (rC (.int 1))) (r2 dIx (rVarB 1) (rC (.int 1)))) (raNil))))

/-- times ["one", "other"] -/
def rd_times (F_ratio : FD) : RS :=
  rRet (rCall F_ratio (raCons (r2 dMul (r2 dIx (rVarB 0) (rC (.int 0))) (r2 dIx (rVarB 1) (rC (.int 0)))) (raCons (r2 dMul (r2 dIx (rVarB 0) (rC (.int 1))) (r2 dIx (rVarB 1) (rC (.int 1)))) (raNil))))

/-- _law_divisor ["_law_one", "_law_other"] -/
def rd__law_divisor_b1 : RS :=
  rPar 0 1 (raCons (rVar 1) (raCons (r2 dMod (rVarB 0) (rVarB 1)) (raNil)))
def rd__law_divisor : RS :=
  rSeq (rSet 0 (rCB dAbs (raCons (rVar 0) (raNil))))
  (rSeq (rSet 1 (rCB dAbs (raCons (rVar 1) (raNil))))
  (rSeq (rWhile (rTest (r2 (dCmp fun i j => decide (j < i)) (rVarB 1) (rC (.int 0)))) (rd__law_divisor_b1))
  (rRet (rVar 0))))

/-- _law_lowest ["_law_top", "_law_bottom", "_law_by"] -/
def rd__law_lowest (F__law_divisor : FD) : RS :=
  rSeq (rSet 2 (rCall F__law_divisor (raCons (rVar 0) (raCons (rVar 1) (raNil)))))
  (rRet (rTup (raCons (r2 dFdiv (rVarB 0) (rVarB 2)) (raCons (r2 dFdiv (rVarB 1) (rVarB 2)) (raNil)))))

/-- law ["_law_script", "_law_head", "_law_ring_here", "_law_share_here", "_law_corners", "_law_found", "_law_x", "_law_y", "_law_total", "_law_k"] -/
def rd_law_k12_b1 : RS :=
  rSeq (rSet 8 (r2 dAdd (rVarB 8) (r2 dMul (r2 dSub (r2 dIx (r2 dIx (rVarB 4) (r2 dSub (rVarB 9) (rC (.int 1)))) (rC (.int 0))) (rVarB 6)) (r2 dSub (r2 dIx (r2 dIx (rVarB 4) (rVarB 9)) (rC (.int 1))) (rVarB 7)))))
  (rSet 8 (r2 dSub (rVarB 8) (r2 dMul (r2 dSub (r2 dIx (r2 dIx (rVarB 4) (r2 dSub (rVarB 9) (rC (.int 1)))) (rC (.int 1))) (rVarB 7)) (r2 dSub (r2 dIx (r2 dIx (rVarB 4) (rVarB 9)) (rC (.int 0))) (rVarB 6)))))
def rd_law_k12 (F__law_due : FD) (F__law_fraction : FD) (F__law_numbers : FD) (F__law_ring : FD) (F__law_share : FD) (F__law_whole : FD) (F_doubled : FD) : RS :=
  rSeq (rSet 1 (rCall F__law_numbers (raCons (rVar 0) (raCons (rC (.int 8)) (raNil)))))
  (rSeq (rSet 2 (rCall F__law_ring (raCons (rVar 1) (raCons (r2 dIx ((fun ρ Q => (rLst (raCons (rC (.int 10)) (raCons (r2 dPow (rC (.int 10)) (rC (.int 60))) (raNil)))) ρ fun ds => Q (.lst ds))) (r2 dMod (r2 dIx (rVarB 1) (rC (.int 7))) (rC (.int 2)))) (raNil)))))
  (rSeq (rAsg (rCall F__law_due (raCons (rCall F__law_share (raCons (r2 dFdiv (r2 dIx (rVarB 1) (rC (.int 7))) (rC (.int 2))) (raNil))) (raCons (rVar 2) (raNil)))) (rgTup 2 (rgCons (rgName 3) (rgCons (rgName 4) (rgNil)))))
  (rSeq (rSet 5 (rCall F_doubled (raCons (rTup (raCons (rVar 3) (raCons (rVar 4) (raNil)))) (raNil))))
  (rSeq (rAsg (r2 dIx (rVarB 4) (rC (.int 0))) (rgTup 2 (rgCons (rgName 6) (rgCons (rgName 7) (rgNil)))))
  (rSeq (rSet 8 (rC (.int 0)))
  (rSeq (rFor (riR2 (raCons (rC (.int 2)) (raCons (r1 dLen (rVarB 4)) (raNil)))) (rgName 9) (rd_law_k12_b1))
  (rSeq (rIfS (rOr (rNot (rTest (r1 (dIsi "tuple") (rVar 5)))) (rTest (r2 (dNe) (rVarB 5) (rCall F__law_fraction (raCons (rVar 8) (raCons (r2 dMul (rVarB 3) (rVarB 3)) (raNil))))))) (rRet (rC (.bl false))) (rNext))
  (rRet (rAndV (rCall F__law_whole (raCons (r2 dIx (rVarB 5) (rC (.int 0))) (raNil))) (rCall F__law_whole (raCons (r2 dIx (rVarB 5) (rC (.int 1))) (raNil))))))))))))

/-- left_height ["row"] -/
def rd_left_height (F_minus : FD) : RS :=
  rRet (rCall F_minus (raCons (r2 dIx (rVarB 0) (rC (.int 3))) (raCons (r2 dIx (rVarB 0) (rC (.int 1))) (raNil))))

/-- right_height ["row"] -/
def rd_right_height (F_minus : FD) : RS :=
  rRet (rCall F_minus (raCons (r2 dIx (rVarB 0) (rC (.int 4))) (raCons (r2 dIx (rVarB 0) (rC (.int 2))) (raNil))))

/-- area ["rows", "total", "row"] -/
def rd_area_b1 (F_left_height : FD) (F_plus : FD) (F_right_height : FD) : RS :=
  rSet 1 (rCall F_plus (raCons (rVar 1) (raCons (rCall F_plus (raCons (rCall F_left_height (raCons (rVar 2) (raNil))) (raCons (rCall F_right_height (raCons (rVar 2) (raNil))) (raNil)))) (raNil))))
def rd_area (F_left_height : FD) (F_plus : FD) (F_right_height : FD) (F_times : FD) : RS :=
  rSeq (rSet 1 (rTup (raCons (rC (.int 0)) (raCons (rC (.int 1)) (raNil)))))
  (rSeq (rFor (riL (rVar 0)) (rgName 2) (rd_area_b1 F_left_height F_plus F_right_height))
  (rRet (rCall F_times (raCons (rVar 1) (raCons (rTup (raCons (rC (.int 1)) (raCons (rC (.int 2)) (raNil)))) (raNil))))))

/-- _law_mixed ["_law_script", "_law_k", "_law_cell", "_law_number"] -/
def rd__law_mixed : RS :=
  rSeq (rSet 2 (rC (.int 0)))
  (rSeq (rIfS (rTest (r2 (dCmp fun i j => decide (j < i)) (r1 dLen (rVarB 0)) (rC (.int 0)))) (rSet 2 (r2 dIx (rVarB 0) (r2 dMod (rVarB 1) (rCB dMin2 (raCons (rC (.int 63)) (raCons (r1 dLen (rVarB 0)) (raNil))))))) (rNext))
  (rSeq (rSet 3 (r2 dAdd (r2 dMod (rVarB 2) (r2 dPow (rC (.int 10)) (rC (.int 18)))) (r2 dMul (rC (.int 48271)) (r2 dAdd (rVarB 1) (rC (.int 1))))))
  (rRet (r2 dMod (r2 dMul (rVarB 3) (rVarB 3)) (rC (.int 2147483647))))))

/-- _law_threads ["_law_script", "_law_found", "_law_k", "_law_wide"] -/
def rd__law_threads_b1 (F__law_cell_at : FD) (F__law_mixed : FD) : RS :=
  rSeq (rSet 3 (r2 dAdd (rC (.int 1)) (r2 dMod (rCall F__law_mixed (raCons (rVar 0) (raCons (r2 dAdd (rC (.int 100)) (rVarB 2)) (raNil)))) (rC (.int 3)))))
  (rSeq (rIfS (rAnd (rTest (r2 (dEqS false) (rVarB 2) (rC (.int 0)))) (rTest (r2 (dEqS false) (r2 dMod (rCall F__law_cell_at (raCons (rVar 0) (raCons (rC (.int 2)) (raNil)))) (rC (.int 8))) (rC (.int 1))))) (rSet 3 (r2 dAdd (rC (.int 1)) (r2 dMod (r2 dFdiv (rCall F__law_cell_at (raCons (rVar 0) (raCons (rC (.int 2)) (raNil)))) (rC (.int 8))) (rC (.int 40))))) (rNext))
  (rAppD 1 (r2 dAdd (r2 dIx (rVarB 1) (r1 dNeg (rC (.int 1)))) (rVarB 3))))
def rd__law_threads (F__law_cell_at : FD) (F__law_mixed : FD) : RS :=
  rSeq (rSetO 1 (rLst (raCons (r2 dSub (r2 dMod (rCall F__law_cell_at (raCons (rVar 0) (raCons (rC (.int 0)) (raNil)))) (rC (.int 2001))) (rC (.int 1000))) (raNil))))
  (rSeq (rIfS (rTest (r2 (dEqS false) (r2 dMod (r2 dFdiv (rCall F__law_cell_at (raCons (rVar 0) (raCons (rC (.int 1)) (raNil)))) (rC (.int 4))) (rC (.int 4))) (rC (.int 1)))) (rSetO 1 (rLst (raCons (r2 dSub (r2 dMod (rCall F__law_cell_at (raCons (rVar 0) (raCons (rC (.int 0)) (raNil)))) (r2 dMul (rC (.int 2)) (r2 dPow (rC (.int 10)) (rC (.int 50))))) (r2 dPow (rC (.int 10)) (rC (.int 50)))) (raNil)))) (rNext))
  (rSeq (rFor (riR1 (raCons (r2 dAdd (rC (.int 1)) (r2 dMod (rCall F__law_cell_at (raCons (rVar 0) (raCons (rC (.int 1)) (raNil)))) (rC (.int 4)))) (raNil))) (rgName 2) (rd__law_threads_b1 F__law_cell_at F__law_mixed))
  ((fun E ρ => (rRet (rVar 1)) E (fzAt 1 ρ)))))

/-- _law_heights ["_law_script", "_law_many", "_law_place", "_law_cell", "_law_number", "_law_found", "_law_k", "_law_step"] -/
def rd__law_heights_b1 (F__law_mixed : FD) : RS :=
  rSeq (rSet 4 (rCall F__law_mixed (raCons (rVar 0) (raCons (r2 dAdd (r2 dMul (rC (.int 9)) (rVarB 2)) (rVarB 6)) (raNil)))))
  (rSeq (rSet 7 (r2 dIx ((fun ρ Q => (rLst (raCons (rC (.int 0)) (raCons (rC (.int 1)) (raCons (r2 dMod (r2 dFdiv (rVarB 4) (rC (.int 4))) (rC (.int 5))) (raCons (r2 dMod (r2 dFdiv (rVarB 4) (rC (.int 4))) (r2 dPow (rC (.int 10)) (rC (.int 8)))) (raNil)))))) ρ fun ds => Q (.lst ds))) (r2 dMod (rVarB 4) (rC (.int 4)))))
  (rAppD 5 (r2 dAdd (r2 dIx (rVarB 5) (r1 dNeg (rC (.int 1)))) (rVarB 7))))
def rd__law_heights (F__law_cell_at : FD) (F__law_mixed : FD) : RS :=
  rSeq (rSet 3 (rCall F__law_cell_at (raCons (rVar 0) (raCons (r2 dAdd (rC (.int 5)) (rVarB 2)) (raNil)))))
  (rSeq (rSet 4 (r2 dSub (r2 dMod (rVarB 3) (rC (.int 41))) (rC (.int 20))))
  (rSeq (rIfS (rTest (r2 (dEqS false) (r2 dMod (rCall F__law_cell_at (raCons (rVar 0) (raCons (rC (.int 3)) (raNil)))) (rC (.int 4))) (rC (.int 1)))) (rSet 4 (r2 dSub (r2 dMod (rVarB 3) (r2 dMul (rC (.int 2)) (r2 dPow (rC (.int 10)) (rC (.int 58))))) (r2 dPow (rC (.int 10)) (rC (.int 58))))) (rNext))
  (rSeq (rSetO 5 (rLst (raCons (rVar 4) (raNil))))
  (rSeq (rFor (riR2 (raCons (rC (.int 1)) (raCons (rVar 1) (raNil)))) (rgName 6) (rd__law_heights_b1 F__law_mixed))
  ((fun E ρ => (rRet (rVar 5)) E (fzAt 5 ρ)))))))

/-- _law_curves ["_law_script", "_law_threads_here", "_law_many"] -/
def rd__law_curves (F__law_cell_at : FD) (F__law_heights : FD) (F__law_threads : FD) : RS :=
  rSeq (rSet 1 (rCall F__law_threads (raCons (rVar 0) (raNil))))
  (rSeq (rSet 2 (r2 dAdd (rC (.int 2)) (r2 dMul (rC (.int 2)) (r2 dMod (rCall F__law_cell_at (raCons (rVar 0) (raCons (rC (.int 4)) (raNil)))) (rC (.int 3))))))
  (rRet (rTup (raCons (rVar 1) (raCons ((fun ρ Q => (rComp (riR1 (raCons (r1 dLen (rVarB 1)) (raNil))) 1 [0, 2] (rgName 0) (rCall F__law_heights (raCons (rVar 1) (raCons (rVar 2) (raCons (rVar 0) (raNil)))))) ρ fun ds => Q (.lst ds))) (raNil))))))

/-- _law_at ["_law_threads_here", "_law_heights_here", "_law_zone", "_law_k", "_law_curve", "_law_wide", "_law_left"] -/
def rd__law_at (F__law_lowest : FD) : RS :=
  rSeq (rSet 5 (r2 dSub (r2 dIx (rVarB 0) (r2 dAdd (rVarB 2) (rC (.int 1)))) (r2 dIx (rVarB 0) (rVarB 2))))
  (rSeq (rSet 6 (r2 dIx (r2 dIx (rVarB 1) (rVarB 2)) (rVarB 4)))
  (rRet (rCall F__law_lowest (raCons (r2 dAdd (r2 dMul (rVarB 6) (r2 dSub (rVarB 5) (rVarB 3))) (r2 dMul (r2 dIx (r2 dIx (rVarB 1) (r2 dAdd (rVarB 2) (rC (.int 1)))) (rVarB 4)) (rVarB 3))) (raCons (rVar 5) (raNil))))))

/-- _law_bands ["_law_threads_here", "_law_heights_here", "_law_found", "_law_zone", "_law_k", "_law_low", "_law_band", "_law_curve"] -/
def rd__law_bands_b1 (F__law_at : FD) : RS :=
  rSeq (rAppD 6 (rCall F__law_at (raCons (rVar 0) (raCons (rVar 1) (raCons (rVar 3) (raCons (rVar 4) (raCons (rVar 7) (raNil))))))))
  (rAppD 6 (rCall F__law_at (raCons (rVar 0) (raCons (rVar 1) (raCons (rVar 3) (raCons (r2 dAdd (rVarB 4) (rC (.int 1))) (raCons (rVar 7) (raNil))))))))
def rd__law_bands_b2 (F__law_at : FD) : RS :=
  rSeq (rSetO 6 (rLst (raCons (r2 dAdd (r2 dIx (rVarB 0) (rVarB 3)) (rVarB 4)) (raNil))))
  (rSeq (rFor (riL ((fun ρ Q => (rLst (raCons (rVar 5) (raCons (r2 dAdd (rVarB 5) (rC (.int 1))) (raNil)))) ρ fun ds => Q (.lst ds)))) (rgName 7) (rd__law_bands_b1 F__law_at))
  (rIfS (rOr (rTest (r2 (dNe) (r2 dIx (rVarB 6) (rC (.int 1))) (r2 dIx (rVarB 6) (rC (.int 3))))) (rTest (r2 (dNe) (r2 dIx (rVarB 6) (rC (.int 2))) (r2 dIx (rVarB 6) (rC (.int 4)))))) (rAppD 2 (r1 dTupOf (rVarB 6))) (rNext)))
def rd__law_bands_b3 (F__law_at : FD) : RS :=
  rFor (riStep (raCons (rC (.int 0)) (raCons (r1 dLen (r2 dIx (rVarB 1) (rC (.int 0)))) (raCons (rC (.int 2)) (raNil))))) (rgName 5) (rd__law_bands_b2 F__law_at)
def rd__law_bands_b4 (F__law_at : FD) : RS :=
  rFor (riR1 (raCons (r2 dSub (r2 dIx (rVarB 0) (r2 dAdd (rVarB 3) (rC (.int 1)))) (r2 dIx (rVarB 0) (rVarB 3))) (raNil))) (rgName 4) (rd__law_bands_b3 F__law_at)
def rd__law_bands (F__law_at : FD) : RS :=
  rSeq (rSetO 2 (rLst (raNil)))
  (rSeq (rFor (riR1 (raCons (r2 dSub (r1 dLen (rVarB 0)) (rC (.int 1))) (raNil))) (rgName 3) (rd__law_bands_b4 F__law_at))
  ((fun E ρ => (rRet (rVar 2)) E (fzAt 2 ρ))))

/-- law ["_law_script", "_law_threads_here", "_law_heights_here", "_law_rows", "_law_handed", "_law_found", "_law_total", "_law_zone", "_law_low", "_law_ends", "_law_high"] -/
def rd_law_k21_b1 : RS :=
  rSeq (rSet 10 (r2 dSub (r2 dIx (rVarB 9) (r2 dAdd (rVarB 8) (rC (.int 1)))) (r2 dIx (rVarB 9) (rVarB 8))))
  (rSet 6 (r2 dAdd (rVarB 6) (r2 dMul (rVarB 10) (r2 dSub (r2 dIx (rVarB 1) (r2 dAdd (rVarB 7) (rC (.int 1)))) (r2 dIx (rVarB 1) (rVarB 7))))))
def rd_law_k21_b2 : RS :=
  rFor (riL ((fun ρ Q => (rLst (raCons (r2 dIx (rVarB 2) (rVarB 7)) (raCons (r2 dIx (rVarB 2) (r2 dAdd (rVarB 7) (rC (.int 1)))) (raNil)))) ρ fun ds => Q (.lst ds)))) (rgName 9) (rd_law_k21_b1)
def rd_law_k21_b3 : RS :=
  rFor (riStep (raCons (rC (.int 0)) (raCons (r1 dLen (r2 dIx (rVarB 2) (rC (.int 0)))) (raCons (rC (.int 2)) (raNil))))) (rgName 8) (rd_law_k21_b2)
def rd_law_k21 (F__law_bands : FD) (F__law_curves : FD) (F__law_lowest : FD) (F__law_whole : FD) (F_area : FD) : RS :=
  rSeq (rAsg (rCall F__law_curves (raCons (rVar 0) (raNil))) (rgTup 2 (rgCons (rgName 1) (rgCons (rgName 2) (rgNil)))))
  (rSeq (rSet 3 (rCall F__law_bands (raCons (rVar 1) (raCons (rVar 2) (raNil)))))
  (rSeq (rSet 4 (r1 dListOf (rVarB 3)))
  (rSeq (rSet 5 (rCall F_area (raCons (rVar 4) (raNil))))
  (rSeq (rSet 6 (rC (.int 0)))
  (rSeq (rFor (riR1 (raCons (r2 dSub (r1 dLen (rVarB 1)) (rC (.int 1))) (raNil))) (rgName 7) (rd_law_k21_b3))
  (rSeq (rIfS (rOr (rNot (rTest (r1 (dIsi "tuple") (rVar 5)))) (rOr (rTest (r2 (dEqS true) (r1 dLen (rVarB 5)) (rC (.int 2)))) (rOr (rNot (rTest (rCall F__law_whole (raCons (r2 dIx (rVarB 5) (rC (.int 0))) (raNil))))) (rNot (rTest (rCall F__law_whole (raCons (r2 dIx (rVarB 5) (rC (.int 1))) (raNil)))))))) (rRet (rC (.bl false))) (rNext))
  (rRet (rAndV (r2 (dEq) (rVarB 5) (rCall F__law_lowest (raCons (rVar 6) (raCons (rC (.int 2)) (raNil))))) (rAndV (r2 (dEq) (rVarB 4) (rVarB 3)) (r2 (dEq) (rCall F_area (raCons ((fun ρ Q => (rLst (raNil)) ρ fun ds => Q (.lst ds))) (raNil))) (rTup (raCons (rC (.int 0)) (raCons (rC (.int 1)) (raNil))))))))))))))

end L2.R2

set_option Elab.async false
set_option linter.all false
set_option maxRecDepth 100000
namespace L2.R2
open PySem PySem.Spec PyProof.Rows L2
theorem atI_0 {α : Type} (x : α) (xs : List α) : atI (x :: xs) 0 = some x := by
  unfold atI ixN; simp
theorem atI_1 {α : Type} (x y : α) (xs : List α) : atI (x :: y :: xs) 1 = some y := by
  unfold atI ixN
  rw [if_pos (by decide), if_pos (by simp only [List.length_cons]; omega)]; rfl
theorem atI_2 {α : Type} (x y z : α) (xs : List α) : atI (x :: y :: z :: xs) 2 = some z := by
  unfold atI ixN
  rw [if_pos (by decide), if_pos (by simp only [List.length_cons]; omega)]; rfl
theorem atI_of {α : Type} {xs : List α} {i : Int} {j : Nat} {x : α} (h : i = (j : Int)) (e : xs[j]? = some x) : atI xs i = some x := by
  subst h; exact atI_nat e
theorem dEq_rd {x y : D} {Q : D → Prop} : dEq x y Q = (match eqF 6 x y with | some b => Q (.bl b) | none => False) := rfl
theorem BL.const {n : Nat} {i : Int} (h : i.natAbs < 2 ^ n := by decide) : BL n i := h
theorem pow_ok {i j : Int} (h : 0 ≤ j ∧ j ≤ 1000000 ∧ i.natAbs < 2 ^ 64 := by decide) : PowOk i j := ⟨h⟩
theorem mod_ok {j : Int} (h : j ≠ 0 := by decide) : ModOk j := ⟨h⟩
theorem dIx_tup0 {x : D} {xs : List D} {Q : D → Prop} : dIx (.tup (x :: xs)) (.int 0) Q = Q x := by simp only [dIx, atI_0]
theorem dIx_tup1 {x y : D} {xs : List D} {Q : D → Prop} : dIx (.tup (x :: y :: xs)) (.int 1) Q = Q y := by simp only [dIx, atI_1]
theorem dIx_tup2 {x y z : D} {xs : List D} {Q : D → Prop} : dIx (.tup (x :: y :: z :: xs)) (.int 2) Q = Q z := by simp only [dIx, atI_2]
theorem dIx_lst {xs : List D} {i : Int} {Q : D → Prop} {x : D} (e : atI xs i = some x) (h : Q x) : dIx (.lst xs) (.int i) Q := by simp only [dIx, e]; exact h
theorem dIx_tup {xs : List D} {i : Int} {Q : D → Prop} {x : D} (e : atI xs i = some x) (h : Q x) : dIx (.tup xs) (.int i) Q := by simp only [dIx, e]; exact h
/-- one of a list's items -/
theorem dIx_any {xs : List D} {i : Int} {Q : D → Prop} (h0 : 0 ≤ i) (h1 : i < xs.length) (h : ∀ x, x ∈ xs → Q x) : dIx (.lst xs) (.int i) Q := by
  have hj : i.toNat < xs.length := by omega
  exact dIx_lst (atI_of (j := i.toNat) (by omega) (List.getElem?_eq_getElem hj)) (h _ (List.getElem_mem hj))
theorem dIx_lk {xs : List D} {k : Nat} {x : D} {Q : D → Prop} (e : xs[k]? = some x) : dIx (.lst xs) (.int (k : Int)) Q = Q x := by simp only [dIx, atI_nat e]
theorem dIx_lst0 {a0 : D} {r : List D} {Q : D → Prop} : dIx (.lst (a0 :: r)) (.int 0) Q = Q a0 := dIx_lk (k := 0) rfl
theorem dIx_lst1 {a0 a1 : D} {r : List D} {Q : D → Prop} : dIx (.lst (a0 :: a1 :: r)) (.int 1) Q = Q a1 := dIx_lk (k := 1) rfl
theorem dIx_lst2 {a0 a1 a2 : D} {r : List D} {Q : D → Prop} : dIx (.lst (a0 :: a1 :: a2 :: r)) (.int 2) Q = Q a2 := dIx_lk (k := 2) rfl
theorem dIx_lst3 {a0 a1 a2 a3 : D} {r : List D} {Q : D → Prop} : dIx (.lst (a0 :: a1 :: a2 :: a3 :: r)) (.int 3) Q = Q a3 := dIx_lk (k := 3) rfl
theorem dIx_lst4 {a0 a1 a2 a3 a4 : D} {r : List D} {Q : D → Prop} : dIx (.lst (a0 :: a1 :: a2 :: a3 :: a4 :: r)) (.int 4) Q = Q a4 := dIx_lk (k := 4) rfl
theorem dIx_lst5 {a0 a1 a2 a3 a4 a5 : D} {r : List D} {Q : D → Prop} : dIx (.lst (a0 :: a1 :: a2 :: a3 :: a4 :: a5 :: r)) (.int 5) Q = Q a5 := dIx_lk (k := 5) rfl
theorem dIx_lst6 {a0 a1 a2 a3 a4 a5 a6 : D} {r : List D} {Q : D → Prop} : dIx (.lst (a0 :: a1 :: a2 :: a3 :: a4 :: a5 :: a6 :: r)) (.int 6) Q = Q a6 := dIx_lk (k := 6) rfl
theorem dIx_lst7 {a0 a1 a2 a3 a4 a5 a6 a7 : D} {r : List D} {Q : D → Prop} : dIx (.lst (a0 :: a1 :: a2 :: a3 :: a4 :: a5 :: a6 :: a7 :: r)) (.int 7) Q = Q a7 := dIx_lk (k := 7) rfl
theorem dIx_lst8 {a0 a1 a2 a3 a4 a5 a6 a7 a8 : D} {r : List D} {Q : D → Prop} : dIx (.lst (a0 :: a1 :: a2 :: a3 :: a4 :: a5 :: a6 :: a7 :: a8 :: r)) (.int 8) Q = Q a8 := dIx_lk (k := 8) rfl
theorem dIx_lst9 {a0 a1 a2 a3 a4 a5 a6 a7 a8 a9 : D} {r : List D} {Q : D → Prop} : dIx (.lst (a0 :: a1 :: a2 :: a3 :: a4 :: a5 :: a6 :: a7 :: a8 :: a9 :: r)) (.int 9) Q = Q a9 := dIx_lk (k := 9) rfl
theorem dIx_lst10 {a0 a1 a2 a3 a4 a5 a6 a7 a8 a9 a10 : D} {r : List D} {Q : D → Prop} : dIx (.lst (a0 :: a1 :: a2 :: a3 :: a4 :: a5 :: a6 :: a7 :: a8 :: a9 :: a10 :: r)) (.int 10) Q = Q a10 := dIx_lk (k := 10) rfl
theorem dIx_lst11 {a0 a1 a2 a3 a4 a5 a6 a7 a8 a9 a10 a11 : D} {r : List D} {Q : D → Prop} : dIx (.lst (a0 :: a1 :: a2 :: a3 :: a4 :: a5 :: a6 :: a7 :: a8 :: a9 :: a10 :: a11 :: r)) (.int 11) Q = Q a11 := dIx_lk (k := 11) rfl
end L2.R2

set_option Elab.async false
set_option linter.all false
set_option maxRecDepth 100000
set_option maxHeartbeats 4000000
namespace L2.R2
open PySem PySem.Spec PyProof.Rows L2
def startN (n : Nat) (ds : List D) : En := ds.map (fun d => some (.d d)) ++ List.replicate n none
theorem startD_eq {N : List Str} {ds : List D} (n : Nat) (h : N.length = ds.length + n) : startD N ds = startN n ds := by
  unfold startD startN; rw [h, Nat.add_sub_cancel_left]
theorem isi_ii {i : Int} : isiD "int" (.int i) = some true := rfl
theorem isi_bi {i : Int} : isiD "bool" (.int i) = some false := rfl
theorem isi_ib {i : Bool} : isiD "int" (.bl i) = some true := rfl
theorem isi_bb {i : Bool} : isiD "bool" (.bl i) = some true := rfl
theorem isi_tt {xs : List D} : isiD "tuple" (.tup xs) = some true := rfl
theorem rep0 {α : Type} {x : α} : List.replicate 0 x = [] := rfl
theorem rep1 {α : Type} {x : α} : List.replicate 1 x = [x] := rfl
theorem rep2 {α : Type} {x : α} : List.replicate 2 x = [x, x] := rfl
theorem rep3 {α : Type} {x : α} : List.replicate 3 x = [x, x, x] := rfl
theorem rep4 {α : Type} {x : α} : List.replicate 4 x = [x, x, x, x] := rfl
theorem rep5 {α : Type} {x : α} : List.replicate 5 x = [x, x, x, x, x] := rfl
theorem rep6 {α : Type} {x : α} : List.replicate 6 x = [x, x, x, x, x, x] := rfl
theorem rep7 {α : Type} {x : α} : List.replicate 7 x = [x, x, x, x, x, x, x] := rfl
theorem rep8 {α : Type} {x : α} : List.replicate 8 x = [x, x, x, x, x, x, x, x] := rfl
theorem rep9 {α : Type} {x : α} : List.replicate 9 x = [x, x, x, x, x, x, x, x, x] := rfl
theorem rep10 {α : Type} {x : α} : List.replicate 10 x = [x, x, x, x, x, x, x, x, x, x] := rfl
theorem rep11 {α : Type} {x : α} : List.replicate 11 x = [x, x, x, x, x, x, x, x, x, x, x] := rfl
theorem rep12 {α : Type} {x : α} : List.replicate 12 x = [x, x, x, x, x, x, x, x, x, x, x, x] := rfl
theorem sz2 : Sz (0 + 1 + 1) := ⟨by decide⟩
theorem sz3 : Sz (0 + 1 + 1 + 1) := ⟨by decide⟩
theorem sz4 : Sz (0 + 1 + 1 + 1 + 1) := ⟨by decide⟩
theorem sz1 : Sz (0 + 1) := ⟨by decide⟩
theorem sz0 : Sz 0 := ⟨by decide⟩
local macro_rules | `(tactic| walk_at "rd") => `(tactic| simp only [rSeq, rNext, rRet, rDrop, rIfS, rSet, rSetO, rPar, rAsg, rgName, rgTup, rgCons, rgNil, rVar, rVarB, rC, r2, r1, rTest, rAnd, rOr, rNot, rAndV, rOrV, rNotV, rIf, raNil, raCons, rTup, rLst, rCall, rCB, rNoPart, rPart, rSlL', rFor, riEn, riL, riT, riR1, riR2,
  dAdd, dSub, dMul, dFdiv, dMod, dPow, dNeg, dCmp, dEqS, dIsN, isNon, dIx_tup0, dIx_tup1, dIx_tup2, dAbs, dInt, dMax2, dMin2, dLen, dIsi, isi_ii, isi_bi, isi_ib, isi_bb, isi_tt, S.val, startN, rep0, rep1, rep2, rep3, rep4, rep5, rep6, rep7, rep8,
  List.map_cons, List.map_nil, List.cons_append, List.nil_append, List.length_cons, List.length_nil, List.getElem?_cons_zero, List.getElem?_cons_succ, List.set_cons_zero, List.set_cons_succ, List.append_nil,
  Bool.or_false, Bool.or_true, Bool.false_or, Bool.true_or, Bool.not_true, Bool.not_false, if_true, if_false, Bool.false_eq_true, sz0, sz1, sz2, sz3, sz4, true_and, decide_eq_true_eq])

/-! ## gcd -/
theorem abs_cast (i : Int) : (if i < 0 then -i else i) = ((i.natAbs : Nat) : Int) := by split <;> omega
theorem fmod_cast (x y : Nat) : ((x : Nat) : Int).fmod (y : Nat) = ((x % y : Nat) : Int) := by
  rw [Int.fmod_eq_emod_of_nonneg _ (Int.natCast_nonneg y)]; exact (Int.natCast_emod x y).symm
def F_gcd : FD := fun ds Q => ∃ a b : Int, ds = [.int a, .int b] ∧ Q (.int (Int.gcd a b : Nat))
theorem len_gcd : ∀ ds Q, F_gcd ds Q → ds.length = 2 := by rintro ds Q ⟨a, b, rfl, _⟩; rfl
theorem loop_law_divisor (E : DEnds) : ∀ (y x : Nat), E.nx [some (.d (.int (Nat.gcd x y : Nat))), some (.d (.int (0 : Nat)))] →
    rWhile (rTest (r2 (dCmp fun i j => decide (j < i)) (rVarB 1) (rC (.int 0)))) rd__law_divisor_b1 E [some (.d (.int (x : Nat))), some (.d (.int (y : Nat)))] := by
  intro y
  induction y using Nat.strongRecOn with
  | ind y ih =>
    intro x h
    cases Nat.eq_zero_or_pos y with
    | inl hy =>
      subst hy
      refine ⟨1, ?_⟩
      unfold whileD
      walk_at "rd"
      rw [if_neg (by decide)]
      rw [Nat.gcd_zero_right] at h
      exact h
    | inr hy =>
      have h2 := ih (x % y) (Nat.mod_lt x hy) y (by
        rw [Nat.gcd_comm y, ← Nat.gcd_rec, Nat.gcd_comm]; exact h)
      obtain ⟨n, hn⟩ := h2
      refine ⟨n + 1, ?_⟩
      unfold whileD rd__law_divisor_b1
      walk_at "rd"
      rw [if_pos (by omega)]
      refine ⟨⟨by omega⟩, ?_⟩
      rw [fmod_cast]
      exact hn
theorem pure_law_divisor : ∀ ds Q, F_gcd ds Q → rd__law_divisor { nx := fun _ => Q .non, rt := Q } (startD ["_law_one", "_law_other"] ds) := by
  rintro ds Q ⟨a, b, rfl, q⟩
  rw [startD_eq 0 rfl]
  unfold rd__law_divisor
  walk_at "rd"
  rw [abs_cast, abs_cast]
  refine loop_law_divisor _ _ _ ?_
  walk_at "rd"
  exact q
theorem loop_shared_divisor (E : DEnds) (u v : Option S) : ∀ (y x : Nat) (r : Option S), (∀ r, E.nx [u, v, some (.d (.int (Nat.gcd x y : Nat))), some (.d (.int (0 : Nat))), r]) →
    rWhile (rTest (r2 (dEqS true) (rVarB 3) (rC (.int 0)))) rd_shared_divisor_b1 E [u, v, some (.d (.int (x : Nat))), some (.d (.int (y : Nat))), r] := by
  intro y
  induction y using Nat.strongRecOn with
  | ind y ih =>
    intro x r h
    cases Nat.eq_zero_or_pos y with
    | inl hy =>
      subst hy
      refine ⟨1, ?_⟩
      unfold whileD
      walk_at "rd"
      rw [if_neg (by simp)]
      rw [Nat.gcd_zero_right] at h
      exact h r
    | inr hy =>
      obtain ⟨n, hn⟩ := ih (x % y) (Nat.mod_lt x hy) y (some (.d (.int ((x % y : Nat))))) (by
        rw [Nat.gcd_comm y, ← Nat.gcd_rec, Nat.gcd_comm]; exact h)
      refine ⟨n + 1, ?_⟩
      unfold whileD rd_shared_divisor_b1
      walk_at "rd"
      rw [if_pos (by simp; omega)]
      refine ⟨⟨by omega⟩, ?_⟩
      rw [fmod_cast]
      exact hn
theorem pure_shared_divisor : ∀ ds Q, F_gcd ds Q → rd_shared_divisor { nx := fun _ => Q .non, rt := Q } (startD ["one", "other", "larger", "smaller", "rest"] ds) := by
  rintro ds Q ⟨a, b, rfl, q⟩
  rw [startD_eq 3 rfl]
  unfold rd_shared_divisor
  walk_at "rd"
  rw [abs_cast, abs_cast]
  refine loop_shared_divisor _ _ _ _ _ _ fun r => ?_
  walk_at "rd"
  exact q
end L2.R2

set_option Elab.async false
set_option linter.all false
set_option maxRecDepth 100000
set_option maxHeartbeats 4000000
namespace L2.R2
open PySem PySem.Spec PyProof.Rows L2
local macro_rules | `(tactic| walk_at "rd") => `(tactic| simp only [rSeq, rNext, rRet, rDrop, rIfS, rSet, rSetO, rPar, rAsg, rgName, rgTup, rgCons, rgNil, rVar, rVarB, rC, r2, r1, rTest, rAnd, rOr, rNot, rAndV, rOrV, rNotV, rIf, raNil, raCons, rTup, rLst, rCall, rCB, rNoPart, rPart, rSlL', rFor, riEn, riL, riT, riR1, riR2, rComp, compD, capE, capO, fzAt, rAppD, rPopD, rSetIx, rZip, seqD, rSlA, dAddA, dListOf, dTupOf, dSum, dNe, rIndex, riRev, riZip,
  dAdd, dSub, dMul, dFdiv, dMod, dPow, dNeg, dCmp, dEqS, dIsN, dEq_rd, isNon, dIx_tup0, dIx_tup1, dIx_tup2, dIx_lst0, dIx_lst1, dIx_lst2, dIx_lst3, dIx_lst4, dIx_lst5, dIx_lst6, dIx_lst7, dIx_lst8, dIx_lst9, dIx_lst10, dIx_lst11, dAbs, dInt, dMax2, dMin2, dLen, dIsi, isi_ii, isi_bi, isi_ib, isi_bb, isi_tt, S.val, startN, rep0, rep1, rep2, rep3, rep4, rep5, rep6, rep7, rep8, rep9, rep10, rep11, rep12,
  List.map_cons, List.map_nil, List.cons_append, List.nil_append, List.length_cons, List.length_nil, List.getElem?_cons_zero, List.getElem?_cons_succ, List.set_cons_zero, List.set_cons_succ, List.append_nil,
  Bool.or_false, Bool.or_true, Bool.false_or, Bool.true_or, Bool.not_true, Bool.not_false, if_true, if_false, Bool.false_eq_true, sz0, sz1, sz2, sz3, sz4, true_and, decide_eq_true_eq, Int.reduceToNat, Int.reducePow, Int.reduceMul, Int.reduceSub, Int.reduceAdd, Int.reduceNeg])
local macro_rules | `(tactic| walk_at "side") => `(tactic| first | exact pow_ok | exact mod_ok | exact (BL.const (n := 9000) (by decide)).divOk (by decide) | exact (BL.const (n := 300) (by decide)).mulOk (BL.const (n := 300) (by decide)))
local macro_rules | `(tactic| walk_at "sides") => `(tactic| repeat (refine And.intro (by walk_at "side") ?_))
/-! ## fractions -/
abbrev fr (a b : Int) : D := .tup [.int a, .int b]
theorem gcd_pos {a b : Int} (h : b ≠ 0) : 0 < (Int.gcd a b : Int) := by
  have : 0 < Int.gcd a b := Int.gcd_pos_of_ne_zero_right a h
  omega
theorem BL.gcd {n : Nat} {a b : Int} (hb : b ≠ 0) (h : BL n b) : BL n (Int.gcd a b : Int) := by
  refine h.le ?_
  rw [Int.natAbs_natCast]
  exact Nat.le_of_dvd (by omega) (Int.gcd_dvd_natAbs_right a b)
/-- the reduced fraction of a over b: what is left by the divisor g -/
structure Low (a b p q : Int) : Prop where
  pos : 0 < q
  cop : Int.gcd p q = 1
  worth : p * b = a * q
  lea : p.natAbs ≤ a.natAbs
  leb : q.natAbs ≤ b.natAbs
theorem low_pos {a b : Int} (hb : 0 < b) : Low a b (a.fdiv (Int.gcd a b : Nat)) (b.fdiv (Int.gcd a b : Nat)) := by
  have hg : 0 < (Int.gcd a b : Int) := gcd_pos (by omega)
  have ea : ((Int.gcd a b : Nat) : Int) ∣ a := Int.gcd_dvd_left ..
  have eb : ((Int.gcd a b : Nat) : Int) ∣ b := Int.gcd_dvd_right ..
  rw [Int.fdiv_eq_ediv_of_nonneg _ (by omega), Int.fdiv_eq_ediv_of_nonneg _ (by omega)]
  have e1 : a / (Int.gcd a b : Int) * (Int.gcd a b : Int) = a := Int.ediv_mul_cancel ea
  have e2 : b / (Int.gcd a b : Int) * (Int.gcd a b : Int) = b := Int.ediv_mul_cancel eb
  have hc : Int.gcd (a / (Int.gcd a b : Int)) (b / (Int.gcd a b : Int)) = 1 := Int.gcd_ediv_gcd_ediv_gcd (by omega)
  generalize (Int.gcd a b : Int) = g at *
  generalize a / g = p at *
  generalize b / g = q at *
  subst e1 e2
  refine ⟨?_, hc, by rw [Int.mul_assoc, Int.mul_comm q g], ?_, ?_⟩
  · exact Int.pos_of_mul_pos_left hb (by omega)
  · rw [Int.natAbs_mul]; exact Nat.le_mul_of_pos_right _ (by omega)
  · rw [Int.natAbs_mul]; exact Nat.le_mul_of_pos_right _ (by omega)
theorem low_neg {a b : Int} (hb : b < 0) : Low a b (a.fdiv (-(Int.gcd a b : Nat))) (b.fdiv (-(Int.gcd a b : Nat))) := by
  have h := low_pos (a := -a) (b := -b) (by omega)
  have e : Int.gcd (-a) (-b) = Int.gcd a b := by rw [Int.neg_gcd, Int.gcd_neg]
  rw [e] at h
  have f : ∀ x g : Int, (-x).fdiv g = x.fdiv (-g) := fun x g => by
    have := Int.neg_fdiv_neg (-x) g
    rw [Int.neg_neg] at this
    exact this.symm
  rw [f, f] at h
  refine ⟨h.pos, h.cop, ?_, by have := h.lea; omega, by have := h.leb; omega⟩
  have w := h.worth
  rw [Int.mul_neg, Int.neg_mul] at w
  exact Int.neg_inj.mp w
/-! ratio -/
def F_ratio : FD := fun ds Q => ∃ a b : Int, ds = [.int a, .int b] ∧ (b ≠ 0 ∧ BL 9000 b) ∧ ∀ p q, Low a b p q → Q (fr p q)
theorem len_ratio : ∀ ds Q, F_ratio ds Q → ds.length = 2 := by rintro ds Q ⟨a, b, rfl, _⟩; rfl
theorem pure_ratio : ∀ ds Q, F_ratio ds Q → rd_ratio F_gcd { nx := fun _ => Q .non, rt := Q } (startD ["top", "bottom", "divisor"] ds) := by
  rintro ds Q ⟨a, b, rfl, ⟨h0, hb⟩, q⟩
  rw [startD_eq 1 rfl]
  unfold rd_ratio
  walk_at "rd"
  rw [if_neg h0]
  refine ⟨a, b, rfl, ?_⟩
  have hg := gcd_pos (a := a) h0
  have bg := BL.gcd (a := a) h0 hb
  walk_at "rd"
  split
  · rename_i hlt
    refine ⟨bg.neg.divOk (by omega), bg.neg.divOk (by omega), q _ _ (low_neg hlt)⟩
  · rename_i hlt
    refine ⟨bg.divOk (by omega), bg.divOk (by omega), q _ _ (low_pos (by omega))⟩
/-! plus, minus, times -/
/-- a plain fraction of at most n bits, on both sides -/
structure Fr (n : Nat) (a b : Int) : Prop where
  pos : 0 < b
  top : BL n a
  bot : BL n b
  cop : Int.gcd a b = 1
def F_two (f : Int → Int → Int → Int → Int) : FD := fun ds Q => ∃ a b c d : Int, ds = [fr a b, fr c d] ∧ (0 < b ∧ 0 < d) ∧ (BL 4000 a ∧ BL 4000 b ∧ BL 4000 c ∧ BL 4000 d) ∧ ∀ p q, Low (f a b c d) (b * d) p q → Q (fr p q)
theorem len_two' {f : Int → Int → Int → Int → Int} : ∀ ds Q, F_two f ds Q → ds.length = 2 := by rintro ds Q ⟨a, b, c, d, rfl, _⟩; rfl
abbrev F_plus : FD := F_two fun a b c d => a * d + c * b
abbrev F_minus : FD := F_two fun a b c d => a * d - c * b
abbrev F_times : FD := F_two fun a b c d => a * c
theorem pure_plus : ∀ ds Q, F_plus ds Q → rd_plus F_ratio { nx := fun _ => Q .non, rt := Q } (startD ["one", "other"] ds) := by
  rintro ds Q ⟨a, b, c, d, rfl, ⟨h1, h2⟩, ⟨ba, bb, bc, bd⟩, q⟩
  rw [startD_eq 0 rfl]
  unfold rd_plus
  walk_at "rd"
  refine ⟨ba.mulOk bd, bc.mulOk bb, bb.mulOk bd, _, _, rfl, ⟨Int.ne_of_gt (Int.mul_pos h1 h2), (bb.mul bd).mono (by decide)⟩, q⟩
theorem pure_minus : ∀ ds Q, F_minus ds Q → rd_minus F_ratio { nx := fun _ => Q .non, rt := Q } (startD ["one", "other"] ds) := by
  rintro ds Q ⟨a, b, c, d, rfl, ⟨h1, h2⟩, ⟨ba, bb, bc, bd⟩, q⟩
  rw [startD_eq 0 rfl]
  unfold rd_minus
  walk_at "rd"
  refine ⟨ba.mulOk bd, bc.mulOk bb, bb.mulOk bd, _, _, rfl, ⟨Int.ne_of_gt (Int.mul_pos h1 h2), (bb.mul bd).mono (by decide)⟩, q⟩
theorem pure_times : ∀ ds Q, F_times ds Q → rd_times F_ratio { nx := fun _ => Q .non, rt := Q } (startD ["one", "other"] ds) := by
  rintro ds Q ⟨a, b, c, d, rfl, ⟨h1, h2⟩, ⟨ba, bb, bc, bd⟩, q⟩
  rw [startD_eq 0 rfl]
  unfold rd_times
  walk_at "rd"
  refine ⟨ba.mulOk bc, bb.mulOk bd, _, _, rfl, ⟨Int.ne_of_gt (Int.mul_pos h1 h2), (bb.mul bd).mono (by decide)⟩, q⟩
/-! ## the laws' own helpers -/
def F_low : FD := fun ds Q => ∃ a b : Int, ds = [.int a, .int b] ∧ (0 < b ∧ BL 9000 b) ∧ ∀ p q, Low a b p q → Q (fr p q)
theorem len_low : ∀ ds Q, F_low ds Q → ds.length = 2 := by rintro ds Q ⟨a, b, rfl, _⟩; rfl
theorem pure_law_lowest : ∀ ds Q, F_low ds Q → rd__law_lowest F_gcd { nx := fun _ => Q .non, rt := Q } (startD ["_law_top", "_law_bottom", "_law_by"] ds) := by
  rintro ds Q ⟨a, b, rfl, ⟨h0, hb⟩, q⟩
  rw [startD_eq 1 rfl]
  unfold rd__law_lowest
  walk_at "rd"
  refine ⟨a, b, rfl, ?_⟩
  have hg := gcd_pos (a := a) (b := b) (by omega)
  have bg := BL.gcd (a := a) (b := b) (by omega) hb
  walk_at "rd"
  exact ⟨bg.divOk (by omega), bg.divOk (by omega), q _ _ (low_pos h0)⟩
def F_whole : FD := fun ds Q => ∃ a : Int, ds = [.int a] ∧ Q (.bl true)
theorem len_whole : ∀ ds Q, F_whole ds Q → ds.length = 1 := by rintro ds Q ⟨a, rfl, _⟩; rfl
theorem pure_law_whole : ∀ ds Q, F_whole ds Q → rd__law_whole { nx := fun _ => Q .non, rt := Q } (startD ["_law_found"] ds) := by
  rintro ds Q ⟨a, rfl, q⟩
  rw [startD_eq 0 rfl]
  unfold rd__law_whole
  walk_at "rd"
  exact q
def F_cell : FD := fun ds Q => ∃ (ns : List Int) (k : Int), ds = [.lst (ns.map .int), .int k] ∧ 0 ≤ k ∧ ∀ c, Q (.int c)
theorem len_cell : ∀ ds Q, F_cell ds Q → ds.length = 2 := by rintro ds Q ⟨a, b, rfl, _⟩; rfl
theorem pure_law_cell_at : ∀ ds Q, F_cell ds Q → rd__law_cell_at { nx := fun _ => Q .non, rt := Q } (startD ["_law_script", "_law_k"] ds) := by
  rintro ds Q ⟨ns, k, rfl, hk, q⟩
  rw [startD_eq 0 rfl]
  unfold rd__law_cell_at
  walk_at "rd"
  split
  · rename_i hlt
    refine dIx_any hk hlt ?_
    intro x hx
    obtain ⟨c, _, rfl⟩ := List.mem_map.mp hx
    exact q c
  · exact q 0
theorem fmod_range {a b : Int} (h : 0 < b) : 0 ≤ a.fmod b ∧ a.fmod b < b := ⟨Int.fmod_nonneg_of_pos a h, Int.fmod_lt_of_pos a h⟩
theorem len_law : ∀ ds Q, FLaw 63 ds Q → ds.length = 1 := by rintro ds Q ⟨a, rfl, _⟩; rfl
end L2.R2

set_option Elab.async false
set_option linter.all false
set_option maxRecDepth 100000
set_option maxHeartbeats 4000000
namespace L2.R2
open PySem PySem.Spec PyProof.Rows L2
/-! ## loops and comprehensions -/
theorem for_ind {g : RG} {t : RS} {E : DEnds} (J : List D → En → Prop)
    (step : ∀ x xs ρ, J (x :: xs) ρ → ∀ F : DEnds, F.rt = E.rt → F.bk = E.nx → (∀ ρ', J xs ρ' → F.nx ρ') → (∀ ρ', J xs ρ' → F.ct ρ') → g x ρ fun ρ1 => t F ρ1) (last : ∀ ρ, J [] ρ → E.nx ρ) : ∀ xs ρ, J xs ρ → forD g t xs E ρ
  | [], ρ, h => last ρ h
  | x :: xs, ρ, h => step x xs ρ h _ rfl rfl (fun ρ' h' => for_ind J step last xs ρ' h') fun ρ' h' => for_ind J step last xs ρ' h'
abbrev il (ns : List Int) : D := .lst (ns.map .int)
abbrev pt (p : Int × Int) : D := .tup [.int p.1, .int p.2]
abbrev pts (ps : List (Int × Int)) : D := .lst (ps.map pt)
theorem sz_le {n : Nat} (h : n ≤ 100000) : Sz n := ⟨Nat.le_trans h (by decide)⟩
local macro_rules | `(tactic| walk_at "rd") => `(tactic| simp only [rSeq, rNext, rRet, rDrop, rIfS, rSet, rSetO, rPar, rAsg, rgName, rgTup, rgCons, rgNil, rVar, rVarB, rC, r2, r1, rTest, rAnd, rOr, rNot, rAndV, rOrV, rNotV, rIf, raNil, raCons, rTup, rLst, rCall, rCB, rNoPart, rPart, rSlL', rFor, riEn, riL, riT, riR1, riR2, rComp, compD, capE, capO, fzAt, rAppD, rPopD, rSetIx, rZip, seqD, rSlA, dAddA, dListOf, dTupOf, dSum, dNe, rIndex, riRev, riZip,
  dAdd, dSub, dMul, dFdiv, dMod, dPow, dNeg, dCmp, dEqS, dIsN, dEq_rd, isNon, dIx_tup0, dIx_tup1, dIx_tup2, dIx_lst0, dIx_lst1, dIx_lst2, dIx_lst3, dIx_lst4, dIx_lst5, dIx_lst6, dIx_lst7, dIx_lst8, dIx_lst9, dIx_lst10, dIx_lst11, dAbs, dInt, dMax2, dMin2, dLen, dIsi, isi_ii, isi_bi, isi_ib, isi_bb, isi_tt, S.val, startN, rep0, rep1, rep2, rep3, rep4, rep5, rep6, rep7, rep8, rep9, rep10, rep11, rep12,
  List.map_cons, List.map_nil, List.cons_append, List.nil_append, List.length_cons, List.length_nil, List.getElem?_cons_zero, List.getElem?_cons_succ, List.set_cons_zero, List.set_cons_succ, List.append_nil,
  Bool.or_false, Bool.or_true, Bool.false_or, Bool.true_or, Bool.not_true, Bool.not_false, if_true, if_false, Bool.false_eq_true, sz0, sz1, sz2, sz3, sz4, true_and, decide_eq_true_eq, Int.reduceToNat, Int.reducePow, Int.reduceMul, Int.reduceSub, Int.reduceAdd, Int.reduceNeg])
local macro_rules | `(tactic| walk_at "side") => `(tactic| first | exact pow_ok | exact mod_ok | exact (BL.const (n := 9000) (by decide)).divOk (by decide) | exact (BL.const (n := 300) (by decide)).mulOk (BL.const (n := 300) (by decide)))
local macro_rules | `(tactic| walk_at "sides") => `(tactic| repeat (refine And.intro (by walk_at "side") ?_))
/-! ## the law's own numbers -/
abbrev big : Int := 1000000000000000000000000000000000000000000000000000000000007
structure Drawn (m : Nat) (xs : List Int) : Prop where
  len : xs.length = m
  lo : ∀ x ∈ xs, 0 ≤ x
  hi : ∀ x ∈ xs, x < big
theorem Drawn.bl {m : Nat} {xs : List Int} (h : Drawn m xs) {x : Int} (hx : x ∈ xs) : BL 200 x := by
  have h0 := h.lo x hx
  have h1 := h.hi x hx
  have e : big < ((2 ^ 200 : Nat) : Int) := by decide
  exact BL.of_lt (by omega) (by omega)
def F_numbers : FD := fun ds Q => ∃ (ns : List Int) (m : Nat), ds = [il ns, .int m] ∧ (ns.length ≤ 100 ∧ 1 ≤ m ∧ m ≤ 100) ∧ ∀ xs, Drawn m xs → Q (il xs)
theorem mem_rangeD {lo : Int} {n : Nat} {x : D} (h : x ∈ rangeD lo n) : ∃ j : Int, x = .int j ∧ lo ≤ j ∧ j < lo + n := by
  unfold rangeD at h
  obtain ⟨k, hk, rfl⟩ := List.mem_map.mp h
  have := List.mem_range.mp hk
  exact ⟨_, rfl, by omega, by omega⟩
theorem rangeD_len {lo : Int} {n : Nat} : (rangeD lo n).length = n := by simp [rangeD]
/-! ## rising numbers -/
structure Rises (xs : List Int) : Prop where
  first : ∀ a, xs[0]? = some a → -4 ≤ a ∧ a ≤ -1
  step : ∀ (i : Nat) a b, xs[i]? = some a → xs[i + 1]? = some b → a + 1 ≤ b ∧ b ≤ a + 3
theorem Rises.snoc {xs : List Int} {a b : Int} (h : Rises xs) (hl : xs.getLast? = some a) (h1 : a + 1 ≤ b) (h2 : b ≤ a + 3) : Rises (xs ++ [b]) := by
  have hne : 0 < xs.length := by
    cases xs with
    | nil => cases hl
    | cons _ _ => simp
  refine ⟨fun x e => h.first x (by rwa [List.getElem?_append_left hne] at e), fun i x y e1 e2 => ?_⟩
  by_cases hi : i + 1 < xs.length
  · rw [List.getElem?_append_left hi] at e2
    rw [List.getElem?_append_left (by omega)] at e1
    exact h.step i x y e1 e2
  · have hi2 : i + 1 = xs.length := by
      have := (List.getElem?_eq_some_iff.mp e2).1
      simp at this; omega
    rw [hi2, List.getElem?_append_right (Nat.le_refl _)] at e2
    simp at e2; subst e2
    rw [List.getElem?_append_left (by omega)] at e1
    rw [List.getLast?_eq_getElem?, ← hi2] at hl
    simp at hl
    rw [hl] at e1; cases e1
    exact ⟨h1, h2⟩
theorem Rises.bound {xs : List Int} (h : Rises xs) : ∀ (i : Nat) a, xs[i]? = some a → -4 ≤ a ∧ a ≤ 3 * (i : Int) - 1
  | 0, a, e => by have := h.first a e; omega
  | i + 1, a, e => by
    have hi : i < xs.length := by have := (List.getElem?_eq_some_iff.mp e).1; omega
    have e1 : xs[i]? = some xs[i] := List.getElem?_eq_getElem hi
    have b := Rises.bound h i _ e1
    have c := h.step i _ _ e1 e
    omega
/-! ## reading a list that is written out -/
/-! ## the ring -/
abbrev aff (p q r s ox oy : Int) (z : Int × Int) : Int × Int := (p * z.1 + q * z.2 + ox, r * z.1 + s * z.2 + oy)
def bowed (lows highs : List Int) (top : Int) : List (Int × Int) := lows.map (fun x => (x, x * x)) ++ highs.reverse.map fun x => (x, top - x * x)
structure RingForm (lows highs : List Int) (top p q r s ox oy : Int) : Prop where
  lowsR : Rises lows
  highsR : Rises highs
  lowsN : 2 ≤ lows.length ∧ lows.length ≤ 21
  highsN : 1 ≤ highs.length ∧ highs.length ≤ 3
  topL : ∀ x ∈ lows ++ highs, 2 * (x * x) + 1 ≤ top
  topH : top ≤ 10000
  pB : 1 ≤ p ∧ p ≤ 3
  qB : -3 ≤ q ∧ q ≤ 3
  rB : -3 ≤ r ∧ r ≤ 3
  sB : -9 ≤ s ∧ s ≤ 12
  det : 0 < p * s - q * r
  oxB : BL 202 ox
  oyB : BL 202 oy
abbrev ringOf (lows highs : List Int) (top p q r s ox oy : Int) : List (Int × Int) := (bowed lows highs top).map (aff p q r s ox oy)
theorem seq_by {t u : RS} {E : DEnds} {ρ : En} (I : En → Prop) (h1 : ∀ K : En → Prop, (∀ ρ', I ρ' → K ρ') → t { E with nx := K } ρ) (h2 : ∀ ρ', I ρ' → u E ρ') : rSeq t u E ρ := h1 (u E) h2
def F_ring : FD := fun ds Q => ∃ (h0 h1 h2 h3 h4 h5 h6 : Int) (rest : List D) (far : Int), ds = [.lst (.int h0 :: .int h1 :: .int h2 :: .int h3 :: .int h4 :: .int h5 :: .int h6 :: rest), .int far] ∧ (0 ≤ far ∧ BL 200 far) ∧
  ∀ lows highs top p q r s ox oy, RingForm lows highs top p q r s ox oy → Q (pts (ringOf lows highs top p q r s ox oy))
theorem sq_nn (x : Int) : 0 ≤ x * x := by
  rcases Int.le_total 0 x with h | h
  · exact Int.mul_nonneg h h
  · have := Int.mul_nonneg (Int.neg_nonneg.mpr h) (Int.neg_nonneg.mpr h)
    rwa [Int.neg_mul_neg] at this
end L2.R2

set_option Elab.async false
set_option linter.all false
set_option maxRecDepth 100000
set_option maxHeartbeats 4000000
namespace L2.R2
open PySem PySem.Spec PyProof.Rows L2
local macro_rules | `(tactic| walk_at "rd") => `(tactic| simp only [rSeq, rNext, rRet, rDrop, rIfS, rSet, rSetO, rPar, rAsg, rgName, rgTup, rgCons, rgNil, rVar, rVarB, rC, r2, r1, rTest, rAnd, rOr, rNot, rAndV, rOrV, rNotV, rIf, raNil, raCons, rTup, rLst, rCall, rCB, rNoPart, rPart, rSlL', rFor, riEn, riL, riT, riR1, riR2, rComp, compD, capE, capO, fzAt, rAppD, rPopD, rSetIx, rZip, seqD, rSlA, dAddA, dListOf, dTupOf, dSum, dNe, rIndex, riRev, riZip,
  dAdd, dSub, dMul, dFdiv, dMod, dPow, dNeg, dCmp, dEqS, dIsN, dEq_rd, isNon, dIx_tup0, dIx_tup1, dIx_tup2, dIx_lst0, dIx_lst1, dIx_lst2, dIx_lst3, dIx_lst4, dIx_lst5, dIx_lst6, dIx_lst7, dIx_lst8, dIx_lst9, dIx_lst10, dIx_lst11, dAbs, dInt, dMax2, dMin2, dLen, dIsi, isi_ii, isi_bi, isi_ib, isi_bb, isi_tt, S.val, startN, rep0, rep1, rep2, rep3, rep4, rep5, rep6, rep7, rep8, rep9, rep10, rep11, rep12,
  List.map_cons, List.map_nil, List.cons_append, List.nil_append, List.length_cons, List.length_nil, List.getElem?_cons_zero, List.getElem?_cons_succ, List.set_cons_zero, List.set_cons_succ, List.append_nil,
  Bool.or_false, Bool.or_true, Bool.false_or, Bool.true_or, Bool.not_true, Bool.not_false, if_true, if_false, Bool.false_eq_true, sz0, sz1, sz2, sz3, sz4, true_and, decide_eq_true_eq, Int.reduceToNat, Int.reducePow, Int.reduceMul, Int.reduceSub, Int.reduceAdd, Int.reduceNeg])
local macro_rules | `(tactic| walk_at "side") => `(tactic| first | exact pow_ok | exact mod_ok | exact (BL.const (n := 9000) (by decide)).divOk (by decide) | exact (BL.const (n := 300) (by decide)).mulOk (BL.const (n := 300) (by decide)))
local macro_rules | `(tactic| walk_at "sides") => `(tactic| repeat (refine And.intro (by walk_at "side") ?_))
/-! ## a share, a fraction -/
def F_share : FD := fun ds Q => ∃ n : Int, ds = [.int n] ∧ ∀ s, 1 ≤ s → s ≤ 1000000000 → Q (.int s)
/-! ## the piece that is due -/
structure DueOf (share : Int) (cs : List (Int × Int)) (m sh : Int) (ds : List (Int × Int)) (j : Nat) : Prop where
  mpos : 0 < m
  sh_eq : share = m * sh
  cs_eq : cs = ds.map fun z => (m * z.1, m * z.2)
  j_lt : j < ds.length
  least : ∀ z ∈ ds, ∀ w, ds[j]? = some w → HT.lexLt [z.1, z.2] [w.1, w.2] = false
  cop : ∀ d : Nat, (d : Int) ∣ sh → (∀ z ∈ ds, (d : Int) ∣ z.1 ∧ (d : Int) ∣ z.2) → d = 1
abbrev turned {α : Type} (j : Nat) (ds : List α) : List α := ds.drop j ++ ds.take j
def F_due : FD := fun ds Q => ∃ (share : Int) (cs : List (Int × Int)), ds = [.int share, pts cs] ∧ (0 < share ∧ BL 100 share) ∧ (cs ≠ [] ∧ cs.length ≤ 100) ∧
  ∀ m sh zs j, DueOf share cs m sh zs j → Q (.tup [.int sh, .tup ((turned j zs).map pt)])
structure GcdOf (share : Int) (zs : List (Int × Int)) (g : Nat) : Prop where
  pos : 0 < g
  sh : (g : Int) ∣ share
  all : ∀ z ∈ zs, (g : Int) ∣ z.1 ∧ (g : Int) ∣ z.2
  most : ∀ d : Nat, (d : Int) ∣ share → (∀ z ∈ zs, (d : Int) ∣ z.1 ∧ (d : Int) ∣ z.2) → d ∣ g
theorem GcdOf.bl {share : Int} {zs : List (Int × Int)} {g : Nat} (h : GcdOf share zs g) (hs : 0 < share) {n : Nat} (b : BL n share) : BL n (g : Int) := by
  refine b.le ?_
  have := Int.le_of_dvd hs h.sh
  omega
theorem GcdOf.snoc {share : Int} {zs : List (Int × Int)} {g : Nat} (h : GcdOf share zs g) (z : Int × Int) : GcdOf share (zs ++ [z]) (Int.gcd (Int.gcd g z.1 : Nat) z.2) := by
  have d1 : ((Int.gcd (Int.gcd g z.1 : Nat) z.2 : Nat) : Int) ∣ ((Int.gcd g z.1 : Nat) : Int) := Int.gcd_dvd_left ..
  have d2 : ((Int.gcd g z.1 : Nat) : Int) ∣ (g : Int) := Int.gcd_dvd_left ..
  have d3 : ((Int.gcd g z.1 : Nat) : Int) ∣ z.1 := Int.gcd_dvd_right ..
  have d4 : ((Int.gcd (Int.gcd g z.1 : Nat) z.2 : Nat) : Int) ∣ z.2 := Int.gcd_dvd_right ..
  have dg := Int.dvd_trans d1 d2
  refine ⟨?_, Int.dvd_trans dg h.sh, fun w hw => ?_, fun d e1 e2 => ?_⟩
  · have := h.pos
    have h1 : 0 < Int.gcd g z.1 := Int.gcd_pos_of_ne_zero_left _ (by omega)
    exact Int.gcd_pos_of_ne_zero_left _ (by omega)
  · rcases List.mem_append.mp hw with h' | h'
    · obtain ⟨a, b⟩ := h.all w h'
      exact ⟨Int.dvd_trans dg a, Int.dvd_trans dg b⟩
    · rw [List.mem_singleton.mp h']
      exact ⟨Int.dvd_trans d1 d3, d4⟩
  · obtain ⟨a, b⟩ := e2 z (by simp)
    have := h.most d e1 fun w hw => e2 w (List.mem_append_left _ hw)
    have h1 : (d : Int) ∣ ((Int.gcd g z.1 : Nat) : Int) := Int.dvd_coe_gcd (by exact_mod_cast this) a
    exact_mod_cast Int.dvd_coe_gcd h1 b
end L2.R2

set_option Elab.async false
set_option linter.all false
set_option maxRecDepth 100000
set_option maxHeartbeats 4000000
namespace L2.R2
open PySem PySem.Spec PyProof.Rows L2
local macro_rules | `(tactic| walk_at "rd") => `(tactic| simp only [rSeq, rNext, rRet, rDrop, rIfS, rSet, rSetO, rPar, rAsg, rgName, rgTup, rgCons, rgNil, rVar, rVarB, rC, r2, r1, rTest, rAnd, rOr, rNot, rAndV, rOrV, rNotV, rIf, raNil, raCons, rTup, rLst, rCall, rCB, rNoPart, rPart, rSlL', rFor, riEn, riL, riT, riR1, riR2, rComp, compD, capE, capO, fzAt, rAppD, rPopD, rSetIx, rZip, seqD, rSlA, dAddA, dListOf, dTupOf, dSum, dNe, rIndex, riRev, riZip,
  dAdd, dSub, dMul, dFdiv, dMod, dPow, dNeg, dCmp, dEqS, dIsN, dEq_rd, isNon, dIx_tup0, dIx_tup1, dIx_tup2, dIx_lst0, dIx_lst1, dIx_lst2, dIx_lst3, dIx_lst4, dIx_lst5, dIx_lst6, dIx_lst7, dIx_lst8, dIx_lst9, dIx_lst10, dIx_lst11, dAbs, dInt, dMax2, dMin2, dLen, dIsi, isi_ii, isi_bi, isi_ib, isi_bb, isi_tt, S.val, startN, rep0, rep1, rep2, rep3, rep4, rep5, rep6, rep7, rep8, rep9, rep10, rep11, rep12,
  List.map_cons, List.map_nil, List.cons_append, List.nil_append, List.length_cons, List.length_nil, List.getElem?_cons_zero, List.getElem?_cons_succ, List.set_cons_zero, List.set_cons_succ, List.append_nil,
  Bool.or_false, Bool.or_true, Bool.false_or, Bool.true_or, Bool.not_true, Bool.not_false, if_true, if_false, Bool.false_eq_true, sz0, sz1, sz2, sz3, sz4, true_and, decide_eq_true_eq, Int.reduceToNat, Int.reducePow, Int.reduceMul, Int.reduceSub, Int.reduceAdd, Int.reduceNeg])
local macro_rules | `(tactic| walk_at "side") => `(tactic| first | exact pow_ok | exact mod_ok | exact (BL.const (n := 9000) (by decide)).divOk (by decide) | exact (BL.const (n := 300) (by decide)).mulOk (BL.const (n := 300) (by decide)))
local macro_rules | `(tactic| walk_at "sides") => `(tactic| repeat (refine And.intro (by walk_at "side") ?_))
/-! ## neighbours -/
/-! ## the doubled area -/
abbrev cr (a b : Int × Int) : Int := a.1 * b.2 - a.2 * b.1
def chain (a : Int × Int) : List (Int × Int) → Int
  | [] => 0
  | b :: r => cr a b + chain b r
def fan (z a : Int × Int) : List (Int × Int) → Int
  | [] => 0
  | b :: r => cr (a.1 - z.1, a.2 - z.2) (b.1 - z.1, b.2 - z.2) + fan z b r
theorem chain_fan (z : Int × Int) : ∀ (r : List (Int × Int)) (a : Int × Int), chain a (r ++ [z]) = fan z a r + cr a z
  | [], a => by simp [chain, fan]
  | b :: r, a => by
    rw [List.cons_append, chain, fan, chain_fan z r b]
    simp only [cr]
    grind
theorem shoe_fan (z a : Int × Int) (r : List (Int × Int)) : chain z (a :: r ++ [z]) = fan z a r := by
  rw [List.cons_append, chain, chain_fan]
  simp only [cr]
  grind
def Small (n : Nat) (zs : List (Int × Int)) : Prop := ∀ z ∈ zs, BL n z.1 ∧ BL n z.2
def F_doubled : FD := fun ds Q => ∃ (sh : Int) (z a b : Int × Int) (r : List (Int × Int)), ds = [.tup [.int sh, .tup ((z :: a :: b :: r).map pt)]] ∧ (0 < sh ∧ BL 4000 sh) ∧ (Small 30000 (z :: a :: b :: r) ∧ r.length ≤ 900) ∧
  ∀ p q, Low (chain z (a :: b :: r ++ [z])) (sh * sh) p q → Q (fr p q)
end L2.R2

set_option Elab.async false
set_option linter.all false
set_option maxRecDepth 100000
set_option maxHeartbeats 4000000
namespace L2.R2
open PySem PySem.Spec PyProof.Rows L2
local macro_rules | `(tactic| walk_at "rd") => `(tactic| simp only [rSeq, rNext, rRet, rDrop, rIfS, rSet, rSetO, rPar, rAsg, rgName, rgTup, rgCons, rgNil, rVar, rVarB, rC, r2, r1, rTest, rAnd, rOr, rNot, rAndV, rOrV, rNotV, rIf, raNil, raCons, rTup, rLst, rCall, rCB, rNoPart, rPart, rSlL', rFor, riEn, riL, riT, riR1, riR2, rComp, compD, capE, capO, fzAt, rAppD, rPopD, rSetIx, rZip, seqD, rSlA, dAddA, dListOf, dTupOf, dSum, dNe, rIndex, riRev, riZip,
  dAdd, dSub, dMul, dFdiv, dMod, dPow, dNeg, dCmp, dEqS, dIsN, dEq_rd, isNon, dIx_tup0, dIx_tup1, dIx_tup2, dIx_lst0, dIx_lst1, dIx_lst2, dIx_lst3, dIx_lst4, dIx_lst5, dIx_lst6, dIx_lst7, dIx_lst8, dIx_lst9, dIx_lst10, dIx_lst11, dAbs, dInt, dMax2, dMin2, dLen, dIsi, isi_ii, isi_bi, isi_ib, isi_bb, isi_tt, S.val, startN, rep0, rep1, rep2, rep3, rep4, rep5, rep6, rep7, rep8, rep9, rep10, rep11, rep12,
  List.map_cons, List.map_nil, List.cons_append, List.nil_append, List.length_cons, List.length_nil, List.getElem?_cons_zero, List.getElem?_cons_succ, List.set_cons_zero, List.set_cons_succ, List.append_nil,
  Bool.or_false, Bool.or_true, Bool.false_or, Bool.true_or, Bool.not_true, Bool.not_false, if_true, if_false, Bool.false_eq_true, sz0, sz1, sz2, sz3, sz4, true_and, decide_eq_true_eq, Int.reduceToNat, Int.reducePow, Int.reduceMul, Int.reduceSub, Int.reduceAdd, Int.reduceNeg])
local macro_rules | `(tactic| walk_at "side") => `(tactic| first | exact pow_ok | exact mod_ok | exact (BL.const (n := 9000) (by decide)).divOk (by decide) | exact (BL.const (n := 300) (by decide)).mulOk (BL.const (n := 300) (by decide)))
local macro_rules | `(tactic| walk_at "sides") => `(tactic| repeat (refine And.intro (by walk_at "side") ?_))
/-! ## what is due for a ring is small -/
theorem RingForm.small {lows highs : List Int} {top p q r s ox oy : Int} (R : RingForm lows highs top p q r s ox oy) : Small 210 (ringOf lows highs top p q r s ox oy) := by
  have sm : ∀ x ∈ lows ++ highs, -4 ≤ x ∧ x ≤ 60 := fun x hx => by
    have := R.lowsN
    have := R.highsN
    rcases List.mem_append.mp hx with h | h
    · obtain ⟨i, hi, rfl⟩ := List.getElem_of_mem h
      have := R.lowsR.bound i _ (List.getElem?_eq_getElem hi)
      omega
    · obtain ⟨i, hi, rfl⟩ := List.getElem_of_mem h
      have := R.highsR.bound i _ (List.getElem?_eq_getElem hi)
      omega
  have tp : ∀ x ∈ lows ++ highs, 0 ≤ x * x ∧ x * x ≤ top ∧ top ≤ 10000 := fun x hx => by
    have := R.topL x hx
    have := R.topH
    have := sq_nn x
    omega
  intro z hz
  obtain ⟨w, hw, rfl⟩ := List.mem_map.mp hz
  have hw' : BL 20 w.1 ∧ BL 20 w.2 := by
    unfold bowed at hw
    rcases List.mem_append.mp hw with h | h
    · obtain ⟨x, hx, rfl⟩ := List.mem_map.mp h
      have := sm x (List.mem_append_left _ hx)
      have := tp x (List.mem_append_left _ hx)
      exact ⟨BL.of_lt (by simp; omega) (by simp; omega), BL.of_lt (by simp; omega) (by simp; omega)⟩
    · obtain ⟨x, hx, rfl⟩ := List.mem_map.mp h
      have hx := List.mem_reverse.mp hx
      have := sm x (List.mem_append_right _ hx)
      have := tp x (List.mem_append_right _ hx)
      exact ⟨BL.of_lt (by simp; omega) (by simp; omega), BL.of_lt (by simp; omega) (by simp; omega)⟩
  have := R.pB
  have := R.qB
  have := R.rB
  have := R.sB
  have cp : BL 20 p := BL.of_lt (by omega) (by omega)
  have cq : BL 20 q := BL.of_lt (by omega) (by omega)
  have cr : BL 20 r := BL.of_lt (by omega) (by omega)
  have cs : BL 20 s := BL.of_lt (by omega) (by omega)
  exact ⟨(((cp.mul hw'.1).add (cq.mul hw'.2)).add R.oxB).mono (by decide), (((cr.mul hw'.1).add (cs.mul hw'.2)).add R.oyB).mono (by decide)⟩
theorem RingForm.len {lows highs : List Int} {top p q r s ox oy : Int} (R : RingForm lows highs top p q r s ox oy) : 3 ≤ (ringOf lows highs top p q r s ox oy).length ∧ (ringOf lows highs top p q r s ox oy).length ≤ 24 := by
  have h1 := R.lowsN
  have h2 := R.highsN
  simp only [ringOf, bowed, List.length_map, List.length_append, List.length_reverse]
  omega
theorem natAbs_mul_le {m a : Int} (hm : 0 < m) : a.natAbs ≤ (m * a).natAbs := by
  rw [Int.natAbs_mul]
  have : 1 ≤ m.natAbs := by omega
  calc a.natAbs = 1 * a.natAbs := (Nat.one_mul _).symm
    _ ≤ m.natAbs * a.natAbs := Nat.mul_le_mul_right _ this
theorem DueOf.small {share : Int} {cs : List (Int × Int)} {m sh : Int} {ds : List (Int × Int)} {j n : Nat} (h : DueOf share cs m sh ds j) (hs : Small n cs) : Small n ds := fun z hz => by
  have := hs (m * z.1, m * z.2) (by rw [h.cs_eq]; exact List.mem_map.mpr ⟨z, hz, rfl⟩)
  exact ⟨this.1.le (natAbs_mul_le h.mpos), this.2.le (natAbs_mul_le h.mpos)⟩
theorem DueOf.sh_pos {share : Int} {cs : List (Int × Int)} {m sh : Int} {ds : List (Int × Int)} {j : Nat} (h : DueOf share cs m sh ds j) (hs : 0 < share) : 0 < sh := by
  have := h.mpos
  have e := h.sh_eq
  rcases Int.lt_or_le 0 sh with h' | h'
  · exact h'
  · have := Int.mul_nonpos_of_nonneg_of_nonpos (Int.le_of_lt this) h'
    omega
theorem DueOf.sh_bl {share : Int} {cs : List (Int × Int)} {m sh : Int} {ds : List (Int × Int)} {j n : Nat} (h : DueOf share cs m sh ds j) (hb : BL n share) : BL n sh := hb.le (by rw [h.sh_eq]; exact natAbs_mul_le h.mpos)
theorem DueOf.len {share : Int} {cs : List (Int × Int)} {m sh : Int} {ds : List (Int × Int)} {j : Nat} (h : DueOf share cs m sh ds j) : ds.length = cs.length := by rw [h.cs_eq]; simp
theorem turned_len {α : Type} {j : Nat} {ds : List α} (h : j ≤ ds.length) : (turned j ds).length = ds.length := by simp [turned]; omega
theorem turned_mem {α : Type} {j : Nat} {ds : List α} {x : α} (h : x ∈ turned j ds) : x ∈ ds := by
  rcases List.mem_append.mp h with h | h
  · exact List.mem_of_mem_drop h
  · exact List.mem_of_mem_take h
theorem share_bl {s : Int} (h0 : 1 ≤ s) (h1 : s ≤ 1000000000) : BL 100 s := by
  have e : (1000000000 : Int) < ((2 ^ 100 : Nat) : Int) := by decide
  exact BL.of_lt (by omega) (by omega)
/-- what _law_numbers hands out, written out -/
theorem drawn8 {xs : List Int} (h : Drawn 8 xs) : ∃ a b c d e f g k, xs = [a, b, c, d, e, f, g, k] := by
  have hl := h.len
  match xs, hl with
  | [a, b, c, d, e, f, g, k], _ => exact ⟨a, b, c, d, e, f, g, k, rfl⟩
theorem far_ok {x : D} (h : x ∈ [D.int 10, D.int 1000000000000000000000000000000000000000000000000000000000000]) : ∃ f : Int, x = .int f ∧ 0 ≤ f ∧ BL 200 f := by
  simp only [List.mem_cons, List.not_mem_nil, or_false] at h
  rcases h with rfl | rfl
  · exact ⟨_, rfl, by decide, BL.const⟩
  · exact ⟨_, rfl, by decide, BL.of_lt (by decide) (by decide)⟩
namespace K12
theorem dvd_cop {q p r : Int} (h : Int.gcd q p = 1) (d : q ∣ p * r) : q ∣ r := by
  have h1 : q.natAbs ∣ p.natAbs * r.natAbs := by rw [← Int.natAbs_mul]; exact Int.natAbs_dvd_natAbs.mpr d
  exact Int.natAbs_dvd_natAbs.mp (Nat.Coprime.dvd_of_dvd_mul_left h h1)
theorem low_eq {a b p q p' q' : Int} (hb : 0 < b) (h : Low a b p q) (h' : Low a b p' q') : p = p' ∧ q = q' := by
  have e : p * q' = p' * q := by
    have h1 := h.worth
    have h2 := h'.worth
    have : (p * q') * b = (p' * q) * b := by grind
    exact Int.eq_of_mul_eq_mul_right (by omega) this
  have d1 : q ∣ q' := by
    have : q ∣ p * q' := by rw [e]; exact Int.dvd_mul_left ..
    exact dvd_cop (by rw [Int.gcd_comm]; exact h.cop) this
  have d2 : q' ∣ q := by
    have : q' ∣ p' * q := by rw [← e]; exact Int.dvd_mul_left ..
    exact dvd_cop (by rw [Int.gcd_comm]; exact h'.cop) this
  have l1 := Int.le_of_dvd h'.pos d1
  have l2 := Int.le_of_dvd h.pos d2
  have eq : q = q' := by omega
  subst eq
  exact ⟨Int.eq_of_mul_eq_mul_right (by have := h.pos; omega) e, rfl⟩
theorem fan_snoc (z : Int × Int) : ∀ (r : List (Int × Int)) (a b : Int × Int) (w : Int × Int), (a :: r).getLast? = some w → fan z a (r ++ [b]) = fan z a r + cr (w.1 - z.1, w.2 - z.2) (b.1 - z.1, b.2 - z.2)
  | [], a, b, w, h => by
    simp at h; subst h
    simp [fan]
  | c :: r, a, b, w, h => by
    rw [List.cons_append, fan, fan, fan_snoc z r c b w (by simpa using h)]
    omega
theorem rangeD_succ {lo : Int} {n : Nat} : rangeD lo (n + 1) = .int lo :: rangeD (lo + 1) n := by
  unfold rangeD
  rw [List.range_succ_eq_map, List.map_cons, List.map_map]
  congr 1
  · simp
  · refine List.map_congr_left fun k _ => ?_
    simp only [Function.comp]
    congr 1; push_cast; omega
theorem pure_law : ∀ ds Q, FLaw 63 ds Q → rd_law_k12 F_due F_low F_numbers F_ring F_share F_whole F_doubled { nx := fun _ => Q .non, rt := Q } (startD ["_law_script", "_law_head", "_law_ring_here", "_law_share_here", "_law_corners", "_law_found", "_law_x", "_law_y", "_law_total", "_law_k"] ds) := by
  rintro ds Q ⟨ns, rfl, hn, q⟩
  rw [startD_eq 9 rfl]
  unfold rd_law_k12
  simp only [startN, rep9, List.map_cons, List.map_nil, List.cons_append, List.nil_append]
  refine seq_by (fun ρ => ∃ a b c d e f g k : Int, ρ = [some (.d (il ns)), some (.d (.lst [.int a, .int b, .int c, .int d, .int e, .int f, .int g, .int k])), none, none, none, none, none, none, none, none]) (fun K hK => ?_) ?_
  · walk_at "rd"
    refine ⟨ns, 8, rfl, ⟨by omega, by decide, by decide⟩, fun xs hx => ?_⟩
    obtain ⟨a, b, c, d, e, f, g, k, rfl⟩ := drawn8 hx
    exact hK _ ⟨a, b, c, d, e, f, g, k, rfl⟩
  rintro ρ ⟨a, b, c, d, e, f, g, k, rfl⟩
  generalize hH : D.lst [.int a, .int b, .int c, .int d, .int e, .int f, .int g, .int k] = HD
  refine seq_by (fun ρ => ∃ cs, Small 210 cs ∧ (3 ≤ cs.length ∧ cs.length ≤ 24) ∧ ρ = [some (.d (il ns)), some (.d HD), some (.d (pts cs)), none, none, none, none, none, none, none]) (fun K hK => ?_) ?_
  · rw [← hH] at hK ⊢
    walk_at "rd"
    walk_at "sides"
    obtain ⟨a0, a1⟩ := fmod_range (a := k) (b := 2) (by decide)
    refine dIx_any a0 (by simpa using a1) fun x hx => ?_
    obtain ⟨far, rfl, f0, f1⟩ := far_ok hx
    exact ⟨_, _, _, _, _, _, _, _, far, rfl, ⟨f0, f1⟩, fun lows highs top p q r s ox oy R => hK _ ⟨_, R.small, R.len, rfl⟩⟩
  rintro ρ ⟨cs, csS, csL, rfl⟩
  refine seq_by (fun ρ => ∃ (sh : Int) (z u v : Int × Int) (r : List (Int × Int)), (0 < sh ∧ BL 100 sh) ∧ Small 210 (z :: u :: v :: r) ∧ r.length ≤ 21 ∧ ρ = [some (.d (il ns)), some (.d HD), some (.d (pts cs)), some (.d (.int sh)), some (.d (.tup ((z :: u :: v :: r).map pt))), none, none, none, none, none]) (fun K hK => ?_) ?_
  · rw [← hH] at hK ⊢
    walk_at "rd"
    walk_at "sides"
    refine ⟨_, rfl, fun share s0 s1 => ?_⟩
    refine ⟨share, cs, rfl, ⟨by omega, share_bl s0 s1⟩, ⟨by intro e; rw [e] at csL; simp at csL, by omega⟩, fun m sh zs j hd => ?_⟩
    have hl := hd.len
    have htl := turned_len (Nat.le_of_lt hd.j_lt)
    have hsm : Small 210 (turned j zs) := fun z hz => hd.small csS z (turned_mem hz)
    generalize turned j zs = ts at htl hsm
    walk_at "rd"
    match ts, htl with
    | z :: u :: v :: r, htl =>
      refine hK _ ⟨sh, z, u, v, r, ⟨hd.sh_pos (by omega), hd.sh_bl (share_bl s0 s1)⟩, hsm, by simp at htl; omega, rfl⟩
    | [], htl => simp at htl; omega
    | [_], htl => simp at htl; omega
    | [_, _], htl => simp at htl; omega
  rintro ρ ⟨sh, z, u, v, r, ⟨hs, bs⟩, hsm, hrl, rfl⟩
  generalize hC : D.tup ((z :: u :: v :: r).map pt) = C
  have bsq := (bs.mul bs)
  refine seq_by (fun ρ => ∃ p q, Low (chain z (u :: v :: r ++ [z])) (sh * sh) p q ∧ ρ = [some (.d (il ns)), some (.d HD), some (.d (pts cs)), some (.d (.int sh)), some (.d C), some (.d (fr p q)), none, none, none, none]) (fun K hK => ?_) ?_
  · rw [← hC] at hK ⊢
    simp only [rSet, rCall, raCons, raNil, rTup, rVar, List.getElem?_cons_zero, List.getElem?_cons_succ, List.length_cons, List.length_nil, List.set_cons_zero, List.set_cons_succ]
    refine ⟨sz2, sh, z, u, v, r, rfl, ⟨hs, bs.mono (by decide)⟩, ⟨fun w hw => ⟨(hsm w hw).1.mono (by decide), (hsm w hw).2.mono (by decide)⟩, by omega⟩, fun p q h => hK _ ⟨p, q, h, rfl⟩⟩
  rintro ρ ⟨p, q', hlow, rfl⟩
  refine seq_by (fun ρ => ρ = [some (.d (il ns)), some (.d HD), some (.d (pts cs)), some (.d (.int sh)), some (.d C), some (.d (fr p q')), some (.d (.int z.1)), some (.d (.int z.2)), none, none]) (fun K hK => ?_) ?_
  · rw [← hC] at hK ⊢
    walk_at "rd"
    exact hK _ rfl
  rintro ρ rfl
  refine seq_by (fun ρ => ρ = [some (.d (il ns)), some (.d HD), some (.d (pts cs)), some (.d (.int sh)), some (.d C), some (.d (fr p q')), some (.d (.int z.1)), some (.d (.int z.2)), some (.d (.int 0)), none]) (fun K hK => ?_) ?_
  · walk_at "rd"
    exact hK _ rfl
  rintro ρ rfl
  -- the fan
  refine seq_by (fun ρ => ∃ o, ρ = [some (.d (il ns)), some (.d HD), some (.d (pts cs)), some (.d (.int sh)), some (.d C), some (.d (fr p q')), some (.d (.int z.1)), some (.d (.int z.2)), some (.d (.int (fan z u (v :: r)))), o]) (fun K hK => ?_) ?_
  · subst hC
    have ln : dLen (D.tup ((z :: u :: v :: r).map pt)) = fun Q => Q (.int ((r.length + 3 : Nat) : Int)) := by
      funext Q; simp only [dLen, List.map_cons, List.length_cons, List.length_map]
    simp only [rFor, riR2, raCons, raNil, rC, r1, rVarB, List.getElem?_cons_zero, List.getElem?_cons_succ, S.val, ln]
    refine ⟨⟨⟨by decide, by decide⟩, ⟨by omega, by omega⟩⟩, ?_⟩
    have en : (((r.length + 3 : Nat) : Int) - 2).toNat = (v :: r).length := by simp; omega
    rw [en]
    obtain ⟨T, hT⟩ : ∃ T, T = v :: r := ⟨_, rfl⟩
    rw [← hT] at hK hsm ⊢
    refine for_ind (fun xs ρ => ∃ (i : Nat) (o : Option S), i ≤ T.length ∧ xs = rangeD (2 + (i : Int)) (T.length - i) ∧ ρ = [some (.d (il ns)), some (.d HD), some (.d (pts cs)), some (.d (.int sh)), some (.d (.tup ((z :: u :: T).map pt))), some (.d (fr p q')), some (.d (.int z.1)), some (.d (.int z.2)), some (.d (.int (fan z u (T.take i)))), o]) ?_ ?_ _ _ ⟨0, none, Nat.zero_le _, by simp, by simp [fan]⟩
    · rintro x xs ρ ⟨i, o, hi, ex, rfl⟩ F _ _ hnx _
      have hlt : i < T.length := by
        rcases Nat.lt_or_ge i T.length with h | h
        · exact h
        · rw [show T.length - i = 0 by omega] at ex; cases ex
      rw [show T.length - i = (T.length - (i + 1)) + 1 by omega, rangeD_succ] at ex
      cases ex
      unfold rd_law_k12_b1
      have w1 : ((z :: u :: T).map pt)[i + 1]? = some (pt ((u :: T)[i]'(by simp; omega))) := by
        rw [List.getElem?_map, List.getElem?_cons_succ, List.getElem?_eq_getElem (by simp; omega)]; rfl
      have w2 : ((z :: u :: T).map pt)[i + 2]? = some (pt T[i]) := by
        rw [List.getElem?_map, List.getElem?_cons_succ, List.getElem?_cons_succ, List.getElem?_eq_getElem hlt]; rfl
      have a1 : atI ((z :: u :: T).map pt) (2 + (i : Int) - 1) = _ := atI_of (j := i + 1) (by omega) w1
      have a2 : atI ((z :: u :: T).map pt) (2 + (i : Int)) = _ := atI_of (j := i + 2) (by omega) w2
      have i1 : ∀ Q, dIx (.tup ((z :: u :: T).map pt)) (.int (2 + (i : Int) - 1)) Q = Q (pt ((u :: T)[i]'(by simp; omega))) := fun Q => by simp only [dIx, a1]
      have i2 : ∀ Q, dIx (.tup ((z :: u :: T).map pt)) (.int (2 + (i : Int))) Q = Q (pt T[i]) := fun Q => by simp only [dIx, a2]
      have hz := hsm z List.mem_cons_self
      have hp := hsm ((u :: T)[i]'(by simp; omega)) (List.mem_cons_of_mem _ (List.getElem_mem _))
      have hc := hsm T[i] (List.mem_cons_of_mem _ (List.mem_cons_of_mem _ (List.getElem_mem _)))
      have hlast : (u :: T.take i).getLast? = some ((u :: T)[i]'(by simp; omega)) := by
        rw [List.getLast?_eq_getElem?]
        simp only [List.length_cons, List.length_take, Nat.min_eq_left hi, Nat.add_sub_cancel]
        cases i with
        | zero => simp
        | succ i => simp
      have step := fan_snoc z (T.take i) u T[i] _ hlast
      rw [← List.take_succ_eq_append_getElem hlt] at step
      generalize (u :: T)[i]'(by simp; omega) = P at *
      generalize T[i] = N at *
      generalize hC : D.tup ((z :: u :: T).map pt) = C at *
      simp only [rgName, rSeq, rSet, r2, rVarB, rC, dSub, dMul, dAdd, List.set_cons_zero, List.set_cons_succ, List.getElem?_cons_zero, List.getElem?_cons_succ, S.val, i1, i2, dIx_tup0, dIx_tup1]
      refine ⟨(hp.1.sub hz.1).mulOk (hc.2.sub hz.2), (hp.2.sub hz.2).mulOk (hc.1.sub hz.1), ?_⟩
      refine hnx _ ⟨i + 1, some (.d (.int (2 + (i : Int)))), hlt, by rw [show (2 + (i : Int) + 1) = 2 + ((i + 1 : Nat) : Int) by omega], ?_⟩
      rw [step]
      simp only [cr, Int.add_sub_assoc]
    · rintro ρ ⟨i, o, hi, ex, rfl⟩
      have : i = T.length := by
        rcases Nat.lt_or_ge i T.length with h | h
        · rw [show T.length - i = (T.length - (i + 1)) + 1 by omega, rangeD_succ] at ex; cases ex
        · omega
      subst this
      rw [List.take_length]
      exact hK _ ⟨o, rfl⟩
  rintro ρ ⟨o, rfl⟩
  rw [shoe_fan] at hlow
  have e5 : ∀ (p' r' : Int), eqL (eqF 5) [.int p, .int q'] [.int p', .int r'] = some (decide (p = p') && (decide (q' = r') && true)) := fun p' r' => by simp [eqL, eqF]
  have hsq := Int.mul_pos hs hs
  have b9 : BL 9000 (sh * sh) := bsq.mono (by decide)
  refine seq_by (fun ρ => ρ = [some (.d (il ns)), some (.d HD), some (.d (pts cs)), some (.d (.int sh)), some (.d C), some (.d (fr p q')), some (.d (.int z.1)), some (.d (.int z.2)), some (.d (.int (fan z u (v :: r)))), o]) (fun K hK => ?_) ?_
  · walk_at "rd"
    refine ⟨bs.mulOk bs, _, _, rfl, ⟨hsq, b9⟩, fun p' r' h' => ?_⟩
    obtain ⟨rfl, rfl⟩ := low_eq hsq hlow h'
    dsimp only [fr]
    rw [e5]
    simp only [decide_true, Bool.true_and, Bool.not_true, Bool.false_eq_true, if_false]
    exact hK _ rfl
  rintro ρ rfl
  walk_at "rd"
  exact ⟨p, rfl, q', rfl, q⟩
end K12
end L2.R2

set_option Elab.async false
set_option linter.all false
set_option maxRecDepth 100000
set_option maxHeartbeats 4000000
namespace L2.R2
open PySem PySem.Spec PyProof.Rows L2
local macro_rules | `(tactic| walk_at "rd") => `(tactic| simp only [rSeq, rNext, rRet, rDrop, rIfS, rSet, rSetO, rPar, rAsg, rgName, rgTup, rgCons, rgNil, rVar, rVarB, rC, r2, r1, rTest, rAnd, rOr, rNot, rAndV, rOrV, rNotV, rIf, raNil, raCons, rTup, rLst, rCall, rCB, rNoPart, rPart, rSlL', rFor, riEn, riL, riT, riR1, riR2, riStep, rComp, compD, capE, capO, fzAt, rAppD, rPopD, rSetIx, rZip, seqD, rSlA, dAddA, dListOf, dTupOf, dSum, dNe, rIndex, riRev, riZip,
  dAdd, dSub, dMul, dFdiv, dMod, dPow, dNeg, dCmp, dEqS, dIsN, dEq_rd, isNon, dIx_tup0, dIx_tup1, dIx_tup2, dIx_lst0, dIx_lst1, dIx_lst2, dIx_lst3, dIx_lst4, dIx_lst5, dIx_lst6, dIx_lst7, dIx_lst8, dIx_lst9, dIx_lst10, dIx_lst11, dAbs, dInt, dMax2, dMin2, dLen, dIsi, isi_ii, isi_bi, isi_ib, isi_bb, isi_tt, S.val, startN, rep0, rep1, rep2, rep3, rep4, rep5, rep6, rep7, rep8, rep9, rep10, rep11, rep12,
  List.map_cons, List.map_nil, List.cons_append, List.nil_append, List.length_cons, List.length_nil, List.getElem?_cons_zero, List.getElem?_cons_succ, List.set_cons_zero, List.set_cons_succ, List.append_nil,
  Bool.or_false, Bool.or_true, Bool.false_or, Bool.true_or, Bool.not_true, Bool.not_false, if_true, if_false, Bool.false_eq_true, sz0, sz1, sz2, sz3, sz4, true_and, decide_eq_true_eq, Int.reduceToNat, Int.reducePow, Int.reduceMul, Int.reduceSub, Int.reduceAdd, Int.reduceNeg])
local macro_rules | `(tactic| walk_at "side") => `(tactic| first | exact pow_ok | exact mod_ok | exact (BL.const (n := 9000) (by decide)).divOk (by decide) | exact (BL.const (n := 300) (by decide)).mulOk (BL.const (n := 300) (by decide)))
local macro_rules | `(tactic| walk_at "sides") => `(tactic| repeat (refine And.intro (by walk_at "side") ?_))
/-! ## loops over ranges -/
theorem for_list {g : RG} {t : RS} {E : DEnds} (xs : List D) (J : Nat → En → Prop) (step : ∀ i x ρ, xs[i]? = some x → J i ρ → ∀ F : DEnds, F.rt = E.rt → F.bk = E.nx → (∀ ρ', J (i + 1) ρ' → F.nx ρ') → (∀ ρ', J (i + 1) ρ' → F.ct ρ') → g x ρ fun ρ1 => t F ρ1)
    (last : ∀ ρ, J xs.length ρ → E.nx ρ) (ρ : En) (h : J 0 ρ) : forD g t xs E ρ := by
  refine for_ind (fun ys ρ => ∃ i, i ≤ xs.length ∧ ys = xs.drop i ∧ J i ρ) ?_ ?_ xs ρ ⟨0, Nat.zero_le _, rfl, h⟩
  · rintro x ys ρ ⟨i, hi, e, hJ⟩ F f1 f2 f3 f4
    have hlt : i < xs.length := by
      apply Nat.not_le.mp
      intro hn
      rw [List.drop_of_length_le hn] at e; cases e
    rw [List.drop_eq_getElem_cons hlt] at e
    cases e
    exact step i _ ρ (List.getElem?_eq_getElem hlt) hJ F f1 f2 (fun ρ' h => f3 ρ' ⟨i + 1, by omega, rfl, h⟩) fun ρ' h => f4 ρ' ⟨i + 1, by omega, rfl, h⟩
  · rintro ρ ⟨i, hi, e, hJ⟩
    have : i = xs.length := by
      have := congrArg List.length e
      simp at this; omega
    subst this
    exact last ρ hJ
theorem rangeD_get {lo : Int} {n i : Nat} {x : D} (h : (rangeD lo n)[i]? = some x) : x = .int (lo + i) ∧ i < n := by
  unfold rangeD at h
  rw [List.getElem?_map] at h
  by_cases hi : i < n
  · rw [List.getElem?_range hi] at h; cases h; exact ⟨rfl, hi⟩
  · rw [List.getElem?_eq_none (by simpa using hi)] at h; cases h
theorem stepD_get {lo : Int} {n i : Nat} {x : D} (h : (stepD lo n)[i]? = some x) : x = .int (lo + i * 2) ∧ i < n := by
  unfold stepD at h
  rw [List.getElem?_map] at h
  by_cases hi : i < n
  · rw [List.getElem?_range hi] at h; cases h; exact ⟨rfl, hi⟩
  · rw [List.getElem?_eq_none (by simpa using hi)] at h; cases h
theorem stepD_len {lo : Int} {n : Nat} : (stepD lo n).length = n := by simp [stepD]
theorem for_rng {g : RG} {t : RS} {E : DEnds} (lo : Int) (n : Nat) (J : Nat → En → Prop) (step : ∀ i ρ, i < n → J i ρ → ∀ F : DEnds, F.rt = E.rt → F.bk = E.nx → (∀ ρ', J (i + 1) ρ' → F.nx ρ') → (∀ ρ', J (i + 1) ρ' → F.ct ρ') → g (.int (lo + i)) ρ fun ρ1 => t F ρ1)
    (last : ∀ ρ, J n ρ → E.nx ρ) (ρ : En) (h : J 0 ρ) : forD g t (rangeD lo n) E ρ := by
  refine for_list _ J (fun i x ρ e hJ => ?_) (fun ρ h => last ρ (by rwa [rangeD_len] at h)) ρ h
  obtain ⟨rfl, hi⟩ := rangeD_get e
  exact step i ρ hi hJ
theorem for_stp {g : RG} {t : RS} {E : DEnds} (lo : Int) (n : Nat) (J : Nat → En → Prop) (step : ∀ i ρ, i < n → J i ρ → ∀ F : DEnds, F.rt = E.rt → F.bk = E.nx → (∀ ρ', J (i + 1) ρ' → F.nx ρ') → (∀ ρ', J (i + 1) ρ' → F.ct ρ') → g (.int (lo + i * 2)) ρ fun ρ1 => t F ρ1)
    (last : ∀ ρ, J n ρ → E.nx ρ) (ρ : En) (h : J 0 ρ) : forD g t (stepD lo n) E ρ := by
  refine for_list _ J (fun i x ρ e hJ => ?_) (fun ρ h => last ρ (by rwa [stepD_len] at h)) ρ h
  obtain ⟨rfl, hi⟩ := stepD_get e
  exact step i ρ hi hJ
theorem il_ix {ns : List Int} {i : Int} {Q : D → Prop} (h0 : 0 ≤ i) (h1 : i < ns.length) (q : ∀ v, ns[i.toNat]? = some v → Q (.int v)) : dIx (il ns) (.int i) Q := by
  have hj : i.toNat < ns.length := by omega
  exact dIx_lst (atI_of (j := i.toNat) (by omega) (by rw [List.getElem?_map, List.getElem?_eq_getElem hj]; rfl)) (q _ (List.getElem?_eq_getElem hj))
theorem il_end {ns : List Int} (hne : ns ≠ []) {Q : D → Prop} (q : ∀ v l, ns = l ++ [v] → Q (.int v)) : dIx (.lst (ns.map D.int)) (.int (-1)) Q := by
  rcases List.eq_nil_or_concat ns with h | ⟨l, v, h⟩
  · exact absurd h hne
  · have e : ns = l ++ [v] := by simpa using h
    have : ns.map D.int = l.map D.int ++ [D.int v] := by rw [e]; simp
    rw [this]
    refine dIx_lst ?_ (q v l e)
    unfold atI ixN
    rw [if_neg (by decide), if_pos (by simp; omega)]
    have : ((-1 : Int) + ((l.map D.int ++ [D.int v]).length : Nat)).toNat = l.length := by simp; omega
    simp only [this, Option.bind_some]
    simp
/-! ## curves over threads -/
def F_mixed : FD := fun ds Q => ∃ (ns : List Int) (k : Int), ds = [il ns, .int k] ∧ (0 ≤ k ∧ k ≤ 100000) ∧ ∀ v, 0 ≤ v → v < 2147483647 → Q (.int v)
theorem len_mixed : ∀ ds Q, F_mixed ds Q → ds.length = 2 := by rintro ds Q ⟨_, _, rfl, _⟩; rfl
theorem pure_law_mixed : ∀ ds Q, F_mixed ds Q → rd__law_mixed { nx := fun _ => Q .non, rt := Q } (startD ["_law_script", "_law_k", "_law_cell", "_law_number"] ds) := by
  rintro ds Q ⟨ns, k, rfl, ⟨k0, k1⟩, q⟩
  rw [startD_eq 2 rfl]
  unfold rd__law_mixed
  simp only [startN, rep2, List.map_cons, List.map_nil, List.cons_append, List.nil_append]
  refine seq_by (fun ρ => ρ = [some (.d (il ns)), some (.d (.int k)), some (.d (.int 0)), none]) (fun K hK => ?_) ?_
  · walk_at "rd"
    exact hK _ rfl
  rintro ρ rfl
  refine seq_by (fun ρ => ∃ c : Int, ρ = [some (.d (il ns)), some (.d (.int k)), some (.d (.int c)), none]) (fun K hK => ?_) ?_
  · walk_at "rd"
    split
    · rename_i h
      have hl : 0 < ns.length := by simp at h; exact h
      have hm : ∃ m : Int, (if (((ns.map D.int).length : Nat) : Int) < 63 then (((ns.map D.int).length : Nat) : Int) else 63) = m ∧ 0 < m ∧ m ≤ ns.length := by
        refine ⟨_, rfl, ?_, ?_⟩ <;> (simp; split <;> omega)
      obtain ⟨m, em, m0, m1⟩ := hm
      rw [em]
      obtain ⟨a0, a1⟩ := fmod_range (a := k) (b := m) m0
      exact ⟨⟨by omega⟩, il_ix a0 (by omega) fun v _ => hK _ ⟨v, rfl⟩⟩
    · exact hK _ ⟨_, rfl⟩
  rintro ρ ⟨c, rfl⟩
  walk_at "rd"
  obtain ⟨a0, a1⟩ := fmod_range (a := c) (b := 1000000000000000000) (by decide)
  have b1 : BL 100 (c.fmod 1000000000000000000 + 48271 * (k + 1)) := BL.of_lt (by omega) (by
    have : ((2 ^ 100 : Nat) : Int) = 1267650600228229401496703205376 := by decide
    omega)
  obtain ⟨c0, c1⟩ := fmod_range (a := (c.fmod 1000000000000000000 + 48271 * (k + 1)) * (c.fmod 1000000000000000000 + 48271 * (k + 1))) (b := 2147483647) (by decide)
  exact ⟨pow_ok, mod_ok, (BL.const (n := 20) (by decide)).mulOk (n := 20) (BL.of_lt (by omega) (by omega)), b1.mulOk b1, mod_ok, q _ c0 c1⟩
structure Thr (ts : List Int) : Prop where
  len : 2 ≤ ts.length ∧ ts.length ≤ 5
  bl : ∀ x ∈ ts, BL 200 x
  step : ∀ (i : Nat) a b, ts[i]? = some a → ts[i + 1]? = some b → 1 ≤ b - a ∧ b - a ≤ 40
abbrev far50 : Int := 100000000000000000000000000000000000000000000000000
def F_threads : FD := fun ds Q => ∃ ns : List Int, ds = [il ns] ∧ ∀ ts, Thr ts → Q (il ts)
theorem len_threads : ∀ ds Q, F_threads ds Q → ds.length = 1 := by rintro ds Q ⟨_, rfl, _⟩; rfl
theorem pure_law_threads : ∀ ds Q, F_threads ds Q → rd__law_threads F_cell F_mixed { nx := fun _ => Q .non, rt := Q } (startD ["_law_script", "_law_found", "_law_k", "_law_wide"] ds) := by
  rintro ds Q ⟨ns, rfl, q⟩
  rw [startD_eq 3 rfl]
  unfold rd__law_threads
  simp only [startN, rep3, List.map_cons, List.map_nil, List.cons_append, List.nil_append]
  refine seq_by (fun ρ => ∃ a : Int, (-far50 ≤ a ∧ a ≤ far50) ∧ ρ = [some (.d (il ns)), some (.own [.int a]), none, none]) (fun K hK => ?_) ?_
  · walk_at "rd"
    refine ⟨ns, 0, rfl, by decide, fun c => ?_⟩
    walk_at "rd"
    obtain ⟨a0, a1⟩ := fmod_range (a := c) (b := 2001) (by decide)
    exact ⟨mod_ok, hK _ ⟨_, ⟨by unfold far50; omega, by unfold far50; omega⟩, rfl⟩⟩
  rintro ρ ⟨a, ha, rfl⟩
  refine seq_by (fun ρ => ∃ a : Int, (-far50 ≤ a ∧ a ≤ far50) ∧ ρ = [some (.d (il ns)), some (.own [.int a]), none, none]) (fun K hK => ?_) ?_
  · walk_at "rd"
    refine ⟨ns, 1, rfl, by decide, fun c => ?_⟩
    walk_at "rd"
    walk_at "sides"
    split
    · refine ⟨ns, 0, rfl, by decide, fun c => ?_⟩
      walk_at "rd"
      obtain ⟨a0, a1⟩ := fmod_range (a := c) (b := 200000000000000000000000000000000000000000000000000) (by decide)
      refine ⟨pow_ok, (BL.const (n := 300) (by decide)).mulOk (BL.const (n := 300) (by decide)), mod_ok, pow_ok, hK _ ⟨_, ⟨by unfold far50; omega, by unfold far50; omega⟩, rfl⟩⟩
    · exact hK _ ⟨a, ha, rfl⟩
  rintro ρ ⟨a, ha, rfl⟩
  refine seq_by (fun ρ => ∃ (ts : List Int) (x y : Option S), Thr ts ∧ ρ = [some (.d (il ns)), some (.own (ts.map D.int)), x, y]) (fun K hK => ?_) ?_
  · walk_at "rd"
    refine ⟨ns, 1, rfl, by decide, fun c => ?_⟩
    walk_at "rd"
    obtain ⟨a0, a1⟩ := fmod_range (a := c) (b := 4) (by decide)
    refine ⟨mod_ok, ⟨by omega, by omega⟩, ?_⟩
    have hn : ((1 + c.fmod 4).toNat : Int) = 1 + c.fmod 4 := by omega
    generalize (1 + c.fmod 4).toNat = n at hn
    refine for_rng 0 n (fun i ρ => ∃ (ts : List Int) (x y : Option S), (ts.length = i + 1 ∧ (∀ z ∈ ts, -far50 ≤ z ∧ z ≤ far50 + 40 * i) ∧ ∀ (i : Nat) a b, ts[i]? = some a → ts[i + 1]? = some b → 1 ≤ b - a ∧ b - a ≤ 40) ∧ ρ = [some (.d (il ns)), some (.own (ts.map D.int)), x, y]) ?_ ?_ _ ⟨[a], none, none, ⟨rfl, fun z hz => by simp at hz; subst hz; unfold far50 at *; omega, fun i a b e1 e2 => by simp at e2⟩, rfl⟩
    · rintro i ρ hi ⟨ts, x, y, ⟨l1, l2, l3⟩, rfl⟩ F _ _ hn' _
      unfold rd__law_threads_b1
      simp only [rgName, List.set_cons_zero, List.set_cons_succ]
      refine seq_by (fun ρ => ∃ w : Int, (1 ≤ w ∧ w ≤ 40) ∧ ρ = [some (.d (il ns)), some (.own (ts.map D.int)), some (.d (.int (0 + i))), some (.d (.int w))]) (fun K hK => ?_) ?_
      · walk_at "rd"
        refine ⟨ns, 100 + (0 + (i : Int)), rfl, ⟨by omega, by omega⟩, fun v v0 v1 => ?_⟩
        walk_at "rd"
        obtain ⟨a0, a1⟩ := fmod_range (a := v) (b := 3) (by decide)
        exact ⟨mod_ok, hK _ ⟨_, ⟨by omega, by omega⟩, rfl⟩⟩
      rintro ρ ⟨w, hw, rfl⟩
      refine seq_by (fun ρ => ∃ w : Int, (1 ≤ w ∧ w ≤ 40) ∧ ρ = [some (.d (il ns)), some (.own (ts.map D.int)), some (.d (.int (0 + i))), some (.d (.int w))]) (fun K hK => ?_) ?_
      · walk_at "rd"
        split
        · refine ⟨ns, 2, rfl, by decide, fun c => ?_⟩
          walk_at "rd"
          walk_at "sides"
          split
          · refine ⟨ns, 2, rfl, by decide, fun c => ?_⟩
            walk_at "rd"
            walk_at "sides"
            obtain ⟨a0, a1⟩ := fmod_range (a := c.fdiv 8) (b := 40) (by decide)
            exact hK _ ⟨_, ⟨by omega, by omega⟩, rfl⟩
          · exact hK _ ⟨w, hw, rfl⟩
        · exact hK _ ⟨w, hw, rfl⟩
      rintro ρ ⟨w, hw, rfl⟩
      walk_at "rd"
      refine il_end (by intro e; rw [e] at l1; simp at l1) fun v l e => ?_
      walk_at "rd"
      refine ⟨sz_le (by simp; omega), hn' _ ⟨ts ++ [v + w], some (.d (.int (0 + (i : Int)))), some (.d (.int w)), ⟨by simp [l1], fun z hz => ?_, fun j p r e1 e2 => ?_⟩, by rw [List.map_append]; rfl⟩⟩
      · rcases List.mem_append.mp hz with h | h
        · have := l2 z h; omega
        · have := l2 v (by rw [e]; simp)
          simp at h; subst h; omega
      · by_cases hj : j + 1 < ts.length
        · rw [List.getElem?_append_left (by omega)] at e1
          rw [List.getElem?_append_left hj] at e2
          exact l3 j p r e1 e2
        · have h2 : j + 1 < (ts ++ [v + w]).length := (List.getElem?_eq_some_iff.mp e2).1
          simp at h2
          have hjl : j + 1 = ts.length := by omega
          rw [List.getElem?_append_right (by omega), hjl, Nat.sub_self] at e2
          simp at e2
          rw [List.getElem?_append_left (by omega), e] at e1
          have : j = l.length := by have := congrArg List.length e; simp at this; omega
          rw [this, List.getElem?_append_right (Nat.le_refl _)] at e1
          simp at e1
          omega
    · rintro ρ ⟨ts, x, y, ⟨l1, l2, l3⟩, rfl⟩
      refine hK _ ⟨ts, x, y, ⟨⟨by omega, by omega⟩, fun z hz => ?_, l3⟩, rfl⟩
      have := l2 z hz
      have e : far50 + 1000 < ((2 ^ 200 : Nat) : Int) := by decide
      exact BL.of_lt (by omega) (by omega)
  rintro ρ ⟨ts, x, y, T, rfl⟩
  walk_at "rd"
  exact q ts T
def F_heights : FD := fun ds Q => ∃ (ns : List Int) (m p : Int), ds = [il ns, .int m, .int p] ∧ (1 ≤ m ∧ m ≤ 20 ∧ 0 ≤ p ∧ p ≤ 20) ∧ ∀ hs : List Int, (hs.length : Int) = m → (∀ x ∈ hs, BL 210 x) → Q (il hs)
theorem len_heights : ∀ ds Q, F_heights ds Q → ds.length = 3 := by rintro ds Q ⟨_, _, _, rfl, _⟩; rfl
abbrev far58 : Int := 10000000000000000000000000000000000000000000000000000000000
theorem pure_law_heights : ∀ ds Q, F_heights ds Q → rd__law_heights F_cell F_mixed { nx := fun _ => Q .non, rt := Q } (startD ["_law_script", "_law_many", "_law_place", "_law_cell", "_law_number", "_law_found", "_law_k", "_law_step"] ds) := by
  rintro ds Q ⟨ns, m, p, rfl, ⟨m0, m1, p0, p1⟩, q⟩
  rw [startD_eq 5 rfl]
  unfold rd__law_heights
  simp only [startN, rep5, List.map_cons, List.map_nil, List.cons_append, List.nil_append]
  refine seq_by (fun ρ => ∃ c : Int, ρ = [some (.d (il ns)), some (.d (.int m)), some (.d (.int p)), some (.d (.int c)), none, none, none, none]) (fun K hK => ?_) ?_
  · walk_at "rd"
    exact ⟨ns, 5 + p, rfl, by omega, fun c => hK _ ⟨c, rfl⟩⟩
  rintro ρ ⟨c, rfl⟩
  refine seq_by (fun ρ => ∃ a : Int, (-far58 ≤ a ∧ a ≤ far58) ∧ ρ = [some (.d (il ns)), some (.d (.int m)), some (.d (.int p)), some (.d (.int c)), some (.d (.int a)), none, none, none]) (fun K hK => ?_) ?_
  · walk_at "rd"
    obtain ⟨a0, a1⟩ := fmod_range (a := c) (b := 41) (by decide)
    exact ⟨mod_ok, hK _ ⟨_, ⟨by unfold far58; omega, by unfold far58; omega⟩, rfl⟩⟩
  rintro ρ ⟨a, ha, rfl⟩
  refine seq_by (fun ρ => ∃ a : Int, (-far58 ≤ a ∧ a ≤ far58) ∧ ρ = [some (.d (il ns)), some (.d (.int m)), some (.d (.int p)), some (.d (.int c)), some (.d (.int a)), none, none, none]) (fun K hK => ?_) ?_
  · walk_at "rd"
    refine ⟨ns, 3, rfl, by decide, fun c' => ?_⟩
    walk_at "rd"
    refine ⟨mod_ok, ?_⟩
    split
    · obtain ⟨a0, a1⟩ := fmod_range (a := c) (b := 20000000000000000000000000000000000000000000000000000000000) (by decide)
      exact ⟨pow_ok, (BL.const (n := 300) (by decide)).mulOk (BL.const (n := 300) (by decide)), mod_ok, pow_ok, hK _ ⟨_, ⟨by unfold far58; omega, by unfold far58; omega⟩, rfl⟩⟩
    · exact hK _ ⟨a, ha, rfl⟩
  rintro ρ ⟨a, ha, rfl⟩
  refine seq_by (fun ρ => ρ = [some (.d (il ns)), some (.d (.int m)), some (.d (.int p)), some (.d (.int c)), some (.d (.int a)), some (.own [.int a]), none, none]) (fun K hK => ?_) ?_
  · walk_at "rd"
    exact hK _ rfl
  rintro ρ rfl
  refine seq_by (fun ρ => ∃ (hs : List Int) (u v w : Option S), ((hs.length : Int) = m ∧ ∀ x ∈ hs, BL 210 x) ∧ ρ = [some (.d (il ns)), some (.d (.int m)), some (.d (.int p)), some (.d (.int c)), u, some (.own (hs.map D.int)), v, w]) (fun K hK => ?_) ?_
  · walk_at "rd"
    refine ⟨⟨⟨by decide, by decide⟩, ⟨by omega, by omega⟩⟩, ?_⟩
    have hn : ((m - 1).toNat : Int) = m - 1 := by omega
    generalize (m - 1).toNat = n at hn
    refine for_rng 1 n (fun i ρ => ∃ (hs : List Int) (u v w : Option S), (hs.length = i + 1 ∧ ∀ z ∈ hs, -far58 ≤ z ∧ z ≤ far58 + 100000000 * i) ∧ ρ = [some (.d (il ns)), some (.d (.int m)), some (.d (.int p)), some (.d (.int c)), u, some (.own (hs.map D.int)), v, w]) ?_ ?_ _ ⟨[a], some (.d (.int a)), none, none, ⟨rfl, fun z hz => by simp at hz; subst hz; unfold far58 at *; omega⟩, rfl⟩
    · rintro i ρ hi ⟨hs, u, v, w, ⟨l1, l2⟩, rfl⟩ F _ _ hn' _
      unfold rd__law_heights_b1
      simp only [rgName, List.set_cons_zero, List.set_cons_succ]
      refine seq_by (fun ρ => ∃ x : Int, (0 ≤ x ∧ x < 2147483647) ∧ ρ = [some (.d (il ns)), some (.d (.int m)), some (.d (.int p)), some (.d (.int c)), some (.d (.int x)), some (.own (hs.map D.int)), some (.d (.int (1 + i))), w]) (fun K hK => ?_) ?_
      · walk_at "rd"
        exact ⟨(BL.const (n := 20) (by decide)).mulOk (n := 20) (BL.of_lt (by omega) (by omega)), ns, 9 * p + (1 + (i : Int)), rfl, ⟨by omega, by omega⟩, fun x x0 x1 => hK _ ⟨x, ⟨x0, x1⟩, rfl⟩⟩
      rintro ρ ⟨x, ⟨x0, x1⟩, rfl⟩
      refine seq_by (fun ρ => ∃ y : Int, (0 ≤ y ∧ y < 100000000) ∧ ρ = [some (.d (il ns)), some (.d (.int m)), some (.d (.int p)), some (.d (.int c)), some (.d (.int x)), some (.own (hs.map D.int)), some (.d (.int (1 + i))), some (.d (.int y))]) (fun K hK => ?_) ?_
      · walk_at "rd"
        obtain ⟨b0, b1⟩ := fmod_range (a := x.fdiv 4) (b := 5) (by decide)
        obtain ⟨c0, c1⟩ := fmod_range (a := x.fdiv 4) (b := 100000000) (by decide)
        obtain ⟨a0, a1⟩ := fmod_range (a := x) (b := 4) (by decide)
        walk_at "sides"
        refine dIx_any a0 (by simpa using a1) fun z hz => ?_
        simp only [List.mem_cons, List.not_mem_nil, or_false] at hz
        rcases hz with rfl | rfl | rfl | rfl
        · exact hK _ ⟨0, by decide, rfl⟩
        · exact hK _ ⟨1, by decide, rfl⟩
        · exact hK _ ⟨_, ⟨by omega, by omega⟩, rfl⟩
        · exact hK _ ⟨_, ⟨by omega, by omega⟩, rfl⟩
      rintro ρ ⟨y, hy, rfl⟩
      walk_at "rd"
      refine il_end (by intro e; rw [e] at l1; simp at l1) fun t l e => ?_
      walk_at "rd"
      refine ⟨sz_le (by simp; omega), hn' _ ⟨hs ++ [t + y], some (.d (.int x)), some (.d (.int (1 + (i : Int)))), some (.d (.int y)), ⟨by simp [l1], fun z hz => ?_⟩, by rw [List.map_append]; rfl⟩⟩
      rcases List.mem_append.mp hz with h | h
      · have := l2 z h; omega
      · have := l2 t (by rw [e]; simp)
        simp at h; subst h; omega
    · rintro ρ ⟨hs, u, v, w, ⟨l1, l2⟩, rfl⟩
      refine hK _ ⟨hs, u, v, w, ⟨by omega, fun z hz => ?_⟩, rfl⟩
      have := l2 z hz
      have e : far58 + 100000000 * 30 < ((2 ^ 210 : Nat) : Int) := by decide
      exact BL.of_lt (by omega) (by omega)
  rintro ρ ⟨hs, u, v, w, ⟨l1, l2⟩, rfl⟩
  walk_at "rd"
  exact q hs l1 l2
structure Curves (ts : List Int) (hss : List (List Int)) (n : Nat) : Prop where
  thr : Thr ts
  len : hss.length = ts.length
  n1 : 1 ≤ n ∧ n ≤ 3
  each : ∀ hs ∈ hss, hs.length = 2 * n
  bl : ∀ hs ∈ hss, ∀ x ∈ hs, BL 210 x
abbrev ill (hss : List (List Int)) : D := .lst (hss.map il)
def F_curves : FD := fun ds Q => ∃ ns : List Int, ds = [il ns] ∧ ∀ ts hss n, Curves ts hss n → Q (.tup [il ts, ill hss])
theorem len_curves : ∀ ds Q, F_curves ds Q → ds.length = 1 := by rintro ds Q ⟨_, rfl, _⟩; rfl
theorem comp_any {g : RG} {te : RE} {R : En → Prop} {P : D → Prop} : ∀ (src : List D) {Q : List D → Prop} (ρ : En) (acc : List D), R ρ → (∀ a ∈ src, ∀ ρ, R ρ → ∀ K : En → D → Prop, (∀ ρ1 d, R ρ1 → P d → K ρ1 d) → g a ρ fun ρ1 => te ρ1 fun d => K ρ1 d) →
    (∀ out : List D, out.length = src.length → (∀ d ∈ out, P d) → Q (acc ++ out)) → compD g te src ρ acc Q
  | [], Q, ρ, acc, _, _, q => by
    show Q acc
    simpa using q [] rfl (by simp)
  | a :: src, Q, ρ, acc, h, step, q => by
    show g a ρ fun ρ' => te ρ' fun d => compD g te src ρ' (acc ++ [d]) Q
    refine step a List.mem_cons_self ρ h (fun ρ1 d => compD g te src ρ1 (acc ++ [d]) Q) fun ρ1 d h1 hd => ?_
    refine comp_any src ρ1 _ h1 (fun b hb => step b (List.mem_cons_of_mem _ hb)) fun out hl hp => ?_
    have := q (d :: out) (by simp [hl]) fun x hx => by
      rcases List.mem_cons.mp hx with rfl | hx
      · exact hd
      · exact hp x hx
    simpa using this
theorem pure_law_curves : ∀ ds Q, F_curves ds Q → rd__law_curves F_cell F_heights F_threads { nx := fun _ => Q .non, rt := Q } (startD ["_law_script", "_law_threads_here", "_law_many"] ds) := by
  rintro ds Q ⟨ns, rfl, q⟩
  rw [startD_eq 2 rfl]
  unfold rd__law_curves
  simp only [startN, rep2, List.map_cons, List.map_nil, List.cons_append, List.nil_append]
  refine seq_by (fun ρ => ∃ ts, Thr ts ∧ ρ = [some (.d (il ns)), some (.d (il ts)), none]) (fun K hK => ?_) ?_
  · walk_at "rd"
    exact ⟨ns, rfl, fun ts T => hK _ ⟨ts, T, rfl⟩⟩
  rintro ρ ⟨ts, T, rfl⟩
  refine seq_by (fun ρ => ∃ n : Nat, (1 ≤ n ∧ n ≤ 3) ∧ ρ = [some (.d (il ns)), some (.d (il ts)), some (.d (.int (2 * n)))]) (fun K hK => ?_) ?_
  · walk_at "rd"
    refine ⟨ns, 4, rfl, by decide, fun c => ?_⟩
    walk_at "rd"
    obtain ⟨a0, a1⟩ := fmod_range (a := c) (b := 3) (by decide)
    refine ⟨mod_ok, (BL.const (n := 20) (by decide)).mulOk (n := 20) (BL.of_lt (by omega) (by omega)), hK _ ⟨(1 + c.fmod 3).toNat, ⟨by omega, by omega⟩, ?_⟩⟩
    have : ((1 + c.fmod 3).toNat : Int) = 1 + c.fmod 3 := by omega
    rw [this, show (2 : Int) * (1 + c.fmod 3) = 2 + 2 * c.fmod 3 by omega]
  rintro ρ ⟨n, hn, rfl⟩
  have tl := T.len
  walk_at "rd"
  refine ⟨⟨by rw [List.length_map]; omega, by rw [List.length_map]; omega⟩, sz_le (by rw [rangeD_len]; simp; omega), ?_⟩
  refine comp_any (R := fun ρ => ∃ a, ρ = [a, some (.d (il ns)), some (.d (.int (2 * n)))]) (P := fun d => ∃ hs : List Int, d = il hs ∧ hs.length = 2 * n ∧ ∀ x ∈ hs, BL 210 x) _ _ _ ⟨_, rfl⟩ ?_ ?_
  · rintro a ha ρ ⟨b, rfl⟩ K hK
    obtain ⟨j, rfl, j0, j1⟩ := mem_rangeD ha
    simp at j1
    walk_at "rd"
    exact ⟨ns, 2 * n, j, rfl, ⟨by omega, by omega, by omega, by omega⟩, fun hs l1 l2 => hK _ _ ⟨_, rfl⟩ ⟨hs, rfl, by omega, l2⟩⟩
  · intro out hl hp
    obtain ⟨hss, e, h1⟩ : ∃ hss : List (List Int), out = hss.map il ∧ ∀ hs ∈ hss, hs.length = 2 * n ∧ ∀ x ∈ hs, BL 210 x := by
      clear hl
      induction out with
      | nil => exact ⟨[], rfl, by simp⟩
      | cons d out ih =>
        obtain ⟨hss, e, h1⟩ := ih fun d hd => hp d (by simp [hd])
        obtain ⟨hs, rfl, h2⟩ := hp d (by simp)
        refine ⟨hs :: hss, by rw [e]; rfl, fun x hx => ?_⟩
        rcases List.mem_cons.mp hx with rfl | hx
        · exact h2
        · exact h1 x hx
    subst e
    simp only [List.nil_append]
    refine q ts hss n ⟨T, ?_, hn, fun hs h => (h1 hs h).1, fun hs h => (h1 hs h).2⟩
    rw [rangeD_len] at hl
    simpa using hl
/-- the height of a curve k columns behind a thread, times the width -/
abbrev lin (w k a b : Int) : Int := a * (w - k) + b * k
def F_at : FD := fun ds Q => ∃ (ts : List Int) (hss : List (List Int)) (n z : Nat) (k : Int) (c : Nat) (t0 t1 : Int) (as bs : List Int) (a b : Int), ds = [il ts, ill hss, .int z, .int k, .int c] ∧ Curves ts hss n ∧
  (ts[z]? = some t0 ∧ ts[z + 1]? = some t1 ∧ hss[z]? = some as ∧ hss[z + 1]? = some bs ∧ as[c]? = some a ∧ bs[c]? = some b ∧ 0 ≤ k ∧ k ≤ 40) ∧ ∀ p q, Low (lin (t1 - t0) k a b) (t1 - t0) p q → Q (fr p q)
theorem len_at : ∀ ds Q, F_at ds Q → ds.length = 5 := by rintro ds Q ⟨_, _, _, _, _, _, _, _, _, _, _, _, rfl, _⟩; rfl
theorem il_at {ns : List Int} {i : Nat} {v : Int} {Q : D → Prop} (e : ns[i]? = some v) (q : Q (.int v)) : dIx (il ns) (.int (i : Int)) Q := dIx_lst (atI_nat (by rw [List.getElem?_map, e]; rfl)) q
theorem ill_at {hss : List (List Int)} {i : Nat} {hs : List Int} {Q : D → Prop} (e : hss[i]? = some hs) (q : Q (il hs)) : dIx (ill hss) (.int (i : Int)) Q := dIx_lst (atI_nat (by rw [List.getElem?_map, e]; rfl)) q
theorem pure_law_at : ∀ ds Q, F_at ds Q → rd__law_at F_low { nx := fun _ => Q .non, rt := Q } (startD ["_law_threads_here", "_law_heights_here", "_law_zone", "_law_k", "_law_curve", "_law_wide", "_law_left"] ds) := by
  rintro ds Q ⟨ts, hss, n, z, k, c, t0, t1, as, bs, a, b, rfl, C, ⟨e0, e1, e2, e3, e4, e5, k0, k1⟩, q⟩
  rw [startD_eq 2 rfl]
  unfold rd__law_at
  simp only [startN, rep2, List.map_cons, List.map_nil, List.cons_append, List.nil_append]
  have ez : ((z : Int) + 1) = ((z + 1 : Nat) : Int) := by omega
  have w := C.thr.step z t0 t1 e0 e1
  have ba := C.bl as (List.mem_of_getElem? e2) a (List.mem_of_getElem? e4)
  have bb := C.bl bs (List.mem_of_getElem? e3) b (List.mem_of_getElem? e5)
  refine seq_by (fun ρ => ρ = [some (.d (il ts)), some (.d (ill hss)), some (.d (.int z)), some (.d (.int k)), some (.d (.int c)), some (.d (.int (t1 - t0))), none]) (fun K hK => ?_) ?_
  · walk_at "rd"
    rw [ez]
    refine il_at e1 ?_
    refine il_at e0 ?_
    walk_at "rd"
    exact hK _ rfl
  rintro ρ rfl
  refine seq_by (fun ρ => ρ = [some (.d (il ts)), some (.d (ill hss)), some (.d (.int z)), some (.d (.int k)), some (.d (.int c)), some (.d (.int (t1 - t0))), some (.d (.int a))]) (fun K hK => ?_) ?_
  · walk_at "rd"
    refine ill_at e2 ?_
    refine il_at e4 ?_
    exact hK _ rfl
  rintro ρ rfl
  walk_at "rd"
  refine ⟨ba.mulOk (n := 10) (BL.of_lt (by omega) (by omega)), ?_⟩
  rw [ez]
  refine ill_at e3 ?_
  refine il_at e5 ?_
  walk_at "rd"
  refine ⟨bb.mulOk (n := 10) (BL.of_lt (by omega) (by omega)), _, _, rfl, ⟨by omega, (BL.of_lt (m := 10) (by omega) (by omega)).mono (by decide)⟩, q⟩
end L2.R2

set_option Elab.async false
set_option linter.all false
set_option maxRecDepth 100000
set_option maxHeartbeats 4000000
namespace L2.R2
open PySem PySem.Spec PyProof.Rows L2
local macro_rules | `(tactic| walk_at "rd") => `(tactic| simp only [rSeq, rNext, rRet, rDrop, rIfS, rSet, rSetO, rPar, rAsg, rgName, rgTup, rgCons, rgNil, rVar, rVarB, rC, r2, r1, rTest, rAnd, rOr, rNot, rAndV, rOrV, rNotV, rIf, raNil, raCons, rTup, rLst, rCall, rCB, rNoPart, rPart, rSlL', rFor, riEn, riL, riT, riR1, riR2, riStep, rComp, compD, capE, capO, fzAt, rAppD, rPopD, rSetIx, rZip, seqD, rSlA, dAddA, dListOf, dTupOf, dSum, dNe, rIndex, riRev, riZip,
  dAdd, dSub, dMul, dFdiv, dMod, dPow, dNeg, dCmp, dEqS, dIsN, dEq_rd, isNon, dIx_tup0, dIx_tup1, dIx_tup2, dIx_lst0, dIx_lst1, dIx_lst2, dIx_lst3, dIx_lst4, dIx_lst5, dIx_lst6, dIx_lst7, dIx_lst8, dIx_lst9, dIx_lst10, dIx_lst11, dAbs, dInt, dMax2, dMin2, dLen, dIsi, isi_ii, isi_bi, isi_ib, isi_bb, isi_tt, S.val, startN, rep0, rep1, rep2, rep3, rep4, rep5, rep6, rep7, rep8, rep9, rep10, rep11, rep12,
  List.map_cons, List.map_nil, List.cons_append, List.nil_append, List.length_cons, List.length_nil, List.getElem?_cons_zero, List.getElem?_cons_succ, List.set_cons_zero, List.set_cons_succ, List.append_nil,
  Bool.or_false, Bool.or_true, Bool.false_or, Bool.true_or, Bool.not_true, Bool.not_false, if_true, if_false, Bool.false_eq_true, sz0, sz1, sz2, sz3, sz4, true_and, decide_eq_true_eq, Int.reduceToNat, Int.reducePow, Int.reduceMul, Int.reduceSub, Int.reduceAdd, Int.reduceNeg])
local macro_rules | `(tactic| walk_at "side") => `(tactic| first | exact pow_ok | exact mod_ok | exact (BL.const (n := 9000) (by decide)).divOk (by decide) | exact (BL.const (n := 300) (by decide)).mulOk (BL.const (n := 300) (by decide)))
local macro_rules | `(tactic| walk_at "sides") => `(tactic| repeat (refine And.intro (by walk_at "side") ?_))
/-! ## fractions over one bottom -/
theorem low_of {v M p q : Int} (hM : 0 < M) (hq : 0 < q) (cop : Int.gcd p q = 1) (w : p * M = v * q) : Low v M p q := by
  have dq : q ∣ M := by
    have d : q.natAbs ∣ p.natAbs * M.natAbs := by
      rw [← Int.natAbs_mul, w, Int.natAbs_mul]; exact Nat.dvd_mul_left ..
    exact Int.natAbs_dvd_natAbs.mp (Nat.Coprime.dvd_of_dvd_mul_left (show Nat.Coprime q.natAbs p.natAbs from by
      have : Nat.gcd p.natAbs q.natAbs = 1 := cop
      rw [Nat.Coprime, Nat.gcd_comm]; exact this) d)
  have lq : q ≤ M := Int.le_of_dvd hM dq
  refine ⟨hq, cop, w, ?_, by omega⟩
  have e : p.natAbs * M.natAbs = v.natAbs * q.natAbs := by rw [← Int.natAbs_mul, w, Int.natAbs_mul]
  have lq' : q.natAbs ≤ M.natAbs := by omega
  have M0 : 0 < M.natAbs := by omega
  apply Nat.le_of_mul_le_mul_right (c := M.natAbs) ?_ M0
  rw [e]
  exact Nat.mul_le_mul_left _ lq'
theorem Low.scale {a b p q : Int} (h : Low a b p q) {k : Int} (hk : 0 < k) (hb : 0 < b) : Low (a * k) (b * k) p q :=
  low_of (Int.mul_pos hb hk) h.pos h.cop (by rw [← Int.mul_assoc, h.worth]; grind)
theorem Low.plus {M v w a b c d p q : Int} (hM : 0 < M) (h1 : Low v M a b) (h2 : Low w M c d) (h : Low (a * d + c * b) (b * d) p q) : Low (v + w) M p q := by
  refine low_of hM h.pos h.cop ?_
  have bd : 0 < b * d := Int.mul_pos h1.pos h2.pos
  refine Int.eq_of_mul_eq_mul_right (a := b * d) (by omega) ?_
  have e1 := h1.worth
  have e2 := h2.worth
  have e3 := h.worth
  grind
theorem Low.minus {M v w a b c d p q : Int} (hM : 0 < M) (h1 : Low v M a b) (h2 : Low w M c d) (h : Low (a * d - c * b) (b * d) p q) : Low (v - w) M p q := by
  refine low_of hM h.pos h.cop ?_
  have bd : 0 < b * d := Int.mul_pos h1.pos h2.pos
  refine Int.eq_of_mul_eq_mul_right (a := b * d) (by omega) ?_
  have e1 := h1.worth
  have e2 := h2.worth
  have e3 := h.worth
  grind
theorem Low.bl {v M p q : Int} {n : Nat} (h : Low v M p q) (hv : BL n v) (hM : BL n M) : BL n p ∧ BL n q := ⟨hv.le h.lea, hM.le h.leb⟩
/-! ## rows of bands, told over one bottom -/
structure Row where
  x : Int
  l0 : Int × Int
  l1 : Int × Int
  u0 : Int × Int
  u1 : Int × Int
abbrev rowD (r : Row) : D := .tup [.int r.x, fr r.l0.1 r.l0.2, fr r.l1.1 r.l1.2, fr r.u0.1 r.u0.2, fr r.u1.1 r.u1.2]
/-- the four heights of a row times the bottom -/
structure RowV (M : Int) (r : Row) (a b c d : Int) : Prop where
  l0 : Low a M r.l0.1 r.l0.2
  l1 : Low b M r.l1.1 r.l1.2
  u0 : Low c M r.u0.1 r.u0.2
  u1 : Low d M r.u1.1 r.u1.2
  ba : BL 400 a
  bb : BL 400 b
  bc : BL 400 c
  bd : BL 400 d
/-- what the rows come to -/
inductive Tot (M : Int) : List Row → Int → Prop
  | nil : Tot M [] 0
  | snoc {rs : List Row} {r : Row} {N a b c d : Int} (t : Tot M rs N) (h : RowV M r a b c d) : Tot M (rs ++ [r]) (N + (c - a + (d - b)))
theorem Tot.mono {M N N' : Int} {rs : List Row} (h : Tot M rs N) (e : N = N') : Tot M rs N' := e ▸ h
def F_lh : FD := fun ds Q => ∃ (M : Int) (r : Row) (a b c d : Int), ds = [rowD r] ∧ (0 < M ∧ BL 400 M) ∧ RowV M r a b c d ∧ ∀ p q, Low (c - a) M p q → Q (fr p q)
def F_rh : FD := fun ds Q => ∃ (M : Int) (r : Row) (a b c d : Int), ds = [rowD r] ∧ (0 < M ∧ BL 400 M) ∧ RowV M r a b c d ∧ ∀ p q, Low (d - b) M p q → Q (fr p q)
theorem len_lh : ∀ ds Q, F_lh ds Q → ds.length = 1 := by rintro ds Q ⟨_, _, _, _, _, _, rfl, _⟩; rfl
theorem len_rh : ∀ ds Q, F_rh ds Q → ds.length = 1 := by rintro ds Q ⟨_, _, _, _, _, _, rfl, _⟩; rfl
theorem pure_left_height : ∀ ds Q, F_lh ds Q → rd_left_height F_minus { nx := fun _ => Q .non, rt := Q } (startD ["row"] ds) := by
  rintro ds Q ⟨M, r, a, b, c, d, rfl, ⟨hM, bM⟩, V, q⟩
  rw [startD_eq 0 rfl]
  unfold rd_left_height
  walk_at "rd"
  refine dIx_tup (atI_nat (j := 3) rfl) ?_
  have x1 := V.u0.bl V.bc bM
  have x2 := V.l0.bl V.ba bM
  exact ⟨_, _, _, _, rfl, ⟨V.u0.pos, V.l0.pos⟩, ⟨x1.1.mono (by decide), x1.2.mono (by decide), x2.1.mono (by decide), x2.2.mono (by decide)⟩, fun p q' L => q p q' (V.u0.minus hM V.l0 L)⟩
theorem pure_right_height : ∀ ds Q, F_rh ds Q → rd_right_height F_minus { nx := fun _ => Q .non, rt := Q } (startD ["row"] ds) := by
  rintro ds Q ⟨M, r, a, b, c, d, rfl, ⟨hM, bM⟩, V, q⟩
  rw [startD_eq 0 rfl]
  unfold rd_right_height
  walk_at "rd"
  refine dIx_tup (atI_nat (j := 4) rfl) ?_
  have x1 := V.u1.bl V.bd bM
  have x2 := V.l1.bl V.bb bM
  exact ⟨_, _, _, _, rfl, ⟨V.u1.pos, V.l1.pos⟩, ⟨x1.1.mono (by decide), x1.2.mono (by decide), x2.1.mono (by decide), x2.2.mono (by decide)⟩, fun p q' L => q p q' (V.u1.minus hM V.l1 L)⟩
def F_area : FD := fun ds Q => ∃ (M : Int) (rs : List Row) (N : Int), ds = [.lst (rs.map rowD)] ∧ (0 < M ∧ BL 400 M) ∧ rs.length ≤ 1000 ∧ Tot M rs N ∧ ∀ p q, Low N (M * 2) p q → Q (fr p q)
theorem len_area : ∀ ds Q, F_area ds Q → ds.length = 1 := by rintro ds Q ⟨_, _, _, rfl, _⟩; rfl
theorem Tot.split {M : Int} {rs : List Row} {N : Int} (h : Tot M rs N) : ∀ (done : List Row) (r : Row) (rest : List Row), rs = done ++ r :: rest → ∃ N0 a b c d, Tot M done N0 ∧ RowV M r a b c d ∧ Tot M (done ++ [r]) (N0 + (c - a + (d - b))) := by
  induction h with
  | nil => intro done r rest e; simp at e
  | @snoc rs r' N a b c d t V ih =>
    intro done r rest e
    rcases List.eq_nil_or_concat rest with rfl | ⟨rest', x, rfl⟩
    · have e' : rs ++ [r'] = done ++ [r] := e
      have e1 := List.append_inj_left' e' rfl
      have e2 := List.append_inj_right' e' rfl
      simp at e2
      subst e1 e2
      exact ⟨N, a, b, c, d, t, V, .snoc t V⟩
    · have e' : rs ++ [r'] = (done ++ r :: rest') ++ [x] := by rw [e]; simp
      exact ih done r rest' (List.append_inj_left' e' rfl)
theorem Tot.unique {M : Int} (hM : 0 < M) {rs : List Row} {N N' : Int} (h : Tot M rs N) (h' : Tot M rs N') : N = N' := by
  induction h generalizing N' with
  | nil =>
    generalize e : ([] : List Row) = l at h'
    cases h' with
    | nil => rfl
    | snoc t V => simp at e
  | @snoc rs r N a b c d t V ih =>
    generalize e : rs ++ [r] = l at h'
    cases h' with
    | nil => simp at e
    | @snoc rs2 r2 N2 a2 b2 c2 d2 t2 V2 =>
      have e1 := List.append_inj_left' e rfl
      have e2 := List.append_inj_right' e rfl
      simp at e2
      subst e1 e2
      have k : ∀ {v w p q : Int}, Low v M p q → Low w M p q → v = w := fun h1 h2 => by
        have := h1.worth.symm.trans h2.worth
        exact Int.eq_of_mul_eq_mul_right (by have := h1.pos; omega) this
      rw [ih t2, k V.l0 V2.l0, k V.l1 V2.l1, k V.u0 V2.u0, k V.u1 V2.u1]
theorem Tot.bl {M : Int} {rs : List Row} {N : Int} (h : Tot M rs N) : N.natAbs ≤ rs.length * (4 * 2 ^ 400) := by
  induction h with
  | nil => simp
  | @snoc rs r N a b c d t V ih =>
    have h1 : a.natAbs < 2 ^ 400 := V.ba
    have h2 : b.natAbs < 2 ^ 400 := V.bb
    have h3 : c.natAbs < 2 ^ 400 := V.bc
    have h4 : d.natAbs < 2 ^ 400 := V.bd
    generalize (2 : Nat) ^ 400 = X at *
    simp only [List.length_append, List.length_singleton, Nat.add_mul, Nat.one_mul]
    omega
theorem Tot.bl2 {M : Int} {rs : List Row} {N : Int} (h : Tot M rs N) (hl : rs.length ≤ 1000) : BL 420 N := by
  have h1 := h.bl
  have h2 : rs.length * (4 * 2 ^ 400) ≤ 1000 * (4 * 2 ^ 400) := Nat.mul_le_mul_right _ hl
  have h3 : 1000 * (4 * 2 ^ 400) < 2 ^ 420 := by decide
  exact Nat.lt_of_le_of_lt (Nat.le_trans h1 h2) h3
theorem pure_area : ∀ ds Q, F_area ds Q → rd_area F_lh F_plus F_rh F_times { nx := fun _ => Q .non, rt := Q } (startD ["rows", "total", "row"] ds) := by
  rintro ds Q ⟨M, rs, N, rfl, ⟨hM, bM⟩, hl, T, q⟩
  rw [startD_eq 2 rfl]
  unfold rd_area
  simp only [startN, rep2, List.map_cons, List.map_nil, List.cons_append, List.nil_append]
  refine seq_by (fun ρ => ρ = [some (.d (.lst (rs.map rowD))), some (.d (fr 0 1)), none]) (fun K hK => ?_) ?_
  · walk_at "rd"
    exact hK _ rfl
  rintro ρ rfl
  have bM2 : BL 420 M := bM.mono (by decide)
  refine seq_by (fun ρ => ∃ (p q' : Int) (x : Option S), Low N M p q' ∧ ρ = [some (.d (.lst (rs.map rowD))), some (.d (fr p q')), x]) (fun K hK => ?_) ?_
  · walk_at "rd"
    refine for_list _ (fun i ρ => ∃ (N0 p q' : Int) (x : Option S), Tot M (rs.take i) N0 ∧ Low N0 M p q' ∧ ρ = [some (.d (.lst (rs.map rowD))), some (.d (fr p q')), x]) ?_ ?_ _ ⟨0, 0, 1, none, .nil, low_of hM (by decide) (by decide) (by omega), rfl⟩
    · rintro i x ρ e ⟨N0, p, q', u, T0, L0, rfl⟩ F _ _ hn _
      rw [List.getElem?_map] at e
      cases er : rs[i]? with
      | none => rw [er] at e; cases e
      | some r =>
        rw [er] at e
        cases e
        have hi : i < rs.length := (List.getElem?_eq_some_iff.mp er).1
        have sp : rs = rs.take i ++ r :: rs.drop (i + 1) := by
          have : r = rs[i] := by rw [List.getElem?_eq_getElem hi] at er; exact (Option.some.inj er).symm
          rw [this, ← List.drop_eq_getElem_cons hi, List.take_append_drop]
        obtain ⟨N1, a, b, c, d, T1, V, T2⟩ := T.split _ _ _ sp
        have eN := T0.unique hM T1
        subst eN
        have et : rs.take (i + 1) = rs.take i ++ [r] := by rw [List.take_succ, er]; rfl
        have b0 := T0.bl2 (by simp; omega)
        have x0 := L0.bl b0 bM2
        have bca : BL 401 (c - a) := (V.bc.sub V.ba)
        have bdb : BL 401 (d - b) := (V.bd.sub V.bb)
        unfold rd_area_b1
        simp only [rgName, List.set_cons_zero, List.set_cons_succ]
        walk_at "rd"
        refine ⟨M, r, a, b, c, d, rfl, ⟨hM, bM⟩, V, fun p1 q1 L1 => ?_⟩
        refine ⟨M, r, a, b, c, d, rfl, ⟨hM, bM⟩, V, fun p2 q2 L2 => ?_⟩
        have x1 := L1.bl bca (bM.mono (by decide))
        have x2 := L2.bl bdb (bM.mono (by decide))
        refine ⟨_, _, _, _, rfl, ⟨L1.pos, L2.pos⟩, ⟨x1.1.mono (by decide), x1.2.mono (by decide), x2.1.mono (by decide), x2.2.mono (by decide)⟩, fun p3 q3 L3 => ?_⟩
        have L3' := L1.plus hM L2 L3
        have x3 := L3'.bl (bca.add bdb) (bM.mono (by decide))
        refine ⟨_, _, _, _, rfl, ⟨L0.pos, L3.pos⟩, ⟨x0.1.mono (by decide), x0.2.mono (by decide), x3.1.mono (by decide), x3.2.mono (by decide)⟩, fun p4 q4 L4 => ?_⟩
        exact hn _ ⟨_, p4, q4, some (.d (rowD r)), by rw [et]; exact T2, L0.plus hM L3' L4, rfl⟩
    · rintro ρ ⟨N0, p, q', x, T0, L0, rfl⟩
      rw [List.length_map, List.take_length] at T0
      rw [T0.unique hM T] at L0
      exact hK _ ⟨p, q', x, L0, rfl⟩
  rintro ρ ⟨p, q', x, L, rfl⟩
  have b0 := T.bl2 hl
  have x0 := L.bl b0 bM2
  walk_at "rd"
  refine ⟨_, _, _, _, rfl, ⟨L.pos, by decide⟩, ⟨x0.1.mono (by decide), x0.2.mono (by decide), BL.of_lt (m := 4000) (by decide) (by decide), BL.of_lt (m := 4000) (by decide) (by decide)⟩, fun p1 q1 L1 => q p1 q1 ?_⟩
  refine low_of (by omega) L1.pos L1.cop ?_
  have e1 := L1.worth
  have e2 := L.worth
  have pq := L.pos
  refine Int.eq_of_mul_eq_mul_right (a := q') (by omega) ?_
  grind
end L2.R2

set_option Elab.async false
set_option linter.all false
set_option maxRecDepth 100000
set_option maxHeartbeats 4000000
namespace L2.R2
open PySem PySem.Spec PyProof.Rows L2
local macro_rules | `(tactic| walk_at "rd") => `(tactic| simp only [rSeq, rNext, rRet, rDrop, rIfS, rSet, rSetO, rPar, rAsg, rgName, rgTup, rgCons, rgNil, rVar, rVarB, rC, r2, r1, rTest, rAnd, rOr, rNot, rAndV, rOrV, rNotV, rIf, raNil, raCons, rTup, rLst, rCall, rCB, rNoPart, rPart, rSlL', rFor, riEn, riL, riT, riR1, riR2, riStep, rComp, compD, capE, capO, fzAt, rAppD, rPopD, rSetIx, rZip, seqD, rSlA, dAddA, dListOf, dTupOf, dSum, dNe, rIndex, riRev, riZip,
  dAdd, dSub, dMul, dFdiv, dMod, dPow, dNeg, dCmp, dEqS, dIsN, dEq_rd, isNon, dIx_tup0, dIx_tup1, dIx_tup2, dIx_lst0, dIx_lst1, dIx_lst2, dIx_lst3, dIx_lst4, dIx_lst5, dIx_lst6, dIx_lst7, dIx_lst8, dIx_lst9, dIx_lst10, dIx_lst11, dAbs, dInt, dMax2, dMin2, dLen, dIsi, isi_ii, isi_bi, isi_ib, isi_bb, isi_tt, S.val, startN, rep0, rep1, rep2, rep3, rep4, rep5, rep6, rep7, rep8, rep9, rep10, rep11, rep12,
  List.map_cons, List.map_nil, List.cons_append, List.nil_append, List.length_cons, List.length_nil, List.getElem?_cons_zero, List.getElem?_cons_succ, List.set_cons_zero, List.set_cons_succ, List.append_nil,
  Bool.or_false, Bool.or_true, Bool.false_or, Bool.true_or, Bool.not_true, Bool.not_false, if_true, if_false, Bool.false_eq_true, sz0, sz1, sz2, sz3, sz4, true_and, decide_eq_true_eq, Int.reduceToNat, Int.reducePow, Int.reduceMul, Int.reduceSub, Int.reduceAdd, Int.reduceNeg])
local macro_rules | `(tactic| walk_at "side") => `(tactic| first | exact pow_ok | exact mod_ok | exact (BL.const (n := 9000) (by decide)).divOk (by decide) | exact (BL.const (n := 300) (by decide)).mulOk (BL.const (n := 300) (by decide)))
local macro_rules | `(tactic| walk_at "sides") => `(tactic| repeat (refine And.intro (by walk_at "side") ?_))
/-! ## the rows of curves -/
def hsum (a : List Int) : Nat → Int
  | 0 => 0
  | i + 1 => hsum a i + (a.getD (2 * i + 1) 0 - a.getD (2 * i) 0)
def zsum (ts : List Int) (hss : List (List Int)) (n : Nat) : Nat → Int
  | 0 => 0
  | z + 1 => zsum ts hss n z + (ts.getD (z + 1) 0 - ts.getD z 0) * (hsum (hss.getD z []) n + hsum (hss.getD (z + 1) []) n)
theorem eqL_rf {f : D → D → Option Bool} : ∀ (xs : List D), (∀ x ∈ xs, f x x = some true) → eqL f xs xs = some true
  | [], _ => rfl
  | x :: xs, h => by
    simp only [eqL, h x (by simp), eqL_rf xs fun y hy => h y (by simp [hy])]
    rfl
theorem eqF_i (n : Nat) (i : Int) : eqF (n + 1) (.int i) (.int i) = some true := by simp [eqF]
theorem eqF_fr (n : Nat) (p q : Int) : eqF (n + 2) (fr p q) (fr p q) = some true := by
  show eqL (eqF (n + 1)) _ _ = _
  refine eqL_rf _ fun x hx => ?_
  simp only [List.mem_cons, List.not_mem_nil, or_false] at hx
  rcases hx with rfl | rfl <;> exact eqF_i n _
theorem eqF_row (n : Nat) (r : Row) : eqF (n + 3) (rowD r) (rowD r) = some true := by
  show eqL (eqF (n + 2)) _ _ = _
  refine eqL_rf _ fun x hx => ?_
  simp only [List.mem_cons, List.not_mem_nil, or_false] at hx
  rcases hx with rfl | rfl | rfl | rfl | rfl
  · exact eqF_i _ _
  all_goals exact eqF_fr n _ _
theorem eq_two (n : Nat) (p q p' q' : Int) : eqL (eqF (n + 1)) [.int p, .int q] [.int p', .int q'] = some (decide (p = p' ∧ q = q')) := by
  simp only [eqL, eqF]
  by_cases h1 : p = p' <;> by_cases h2 : q = q' <;> simp [h1, h2]
def F_bands : FD := fun ds Q => ∃ (ts : List Int) (hss : List (List Int)) (n : Nat) (M : Int), ds = [il ts, ill hss] ∧ Curves ts hss n ∧ (0 < M ∧ BL 100 M ∧ ∀ (i : Nat) a b, ts[i]? = some a → ts[i + 1]? = some b → (b - a) ∣ M) ∧
  ∀ rs : List Row, rs.length ≤ 900 → Tot M rs (M * zsum ts hss n (ts.length - 1)) → Q (.lst (rs.map rowD))
theorem len_bands : ∀ ds Q, F_bands ds Q → ds.length = 2 := by rintro ds Q ⟨_, _, _, _, rfl, _⟩; rfl
theorem getD_of {α : Type} {xs : List α} {i : Nat} {x d : α} (h : xs[i]? = some x) : xs.getD i d = x := by rw [List.getD_eq_getElem?_getD, h]; rfl
theorem pure_law_bands : ∀ ds Q, F_bands ds Q → rd__law_bands F_at { nx := fun _ => Q .non, rt := Q } (startD ["_law_threads_here", "_law_heights_here", "_law_found", "_law_zone", "_law_k", "_law_low", "_law_band", "_law_curve"] ds) := by
  rintro ds Q ⟨ts, hss, n, M, rfl, C, ⟨hM, bM, hdiv⟩, q⟩
  rw [startD_eq 6 rfl]
  unfold rd__law_bands
  simp only [startN, rep6, List.map_cons, List.map_nil, List.cons_append, List.nil_append]
  have tl := C.thr.len
  have hl := C.len
  refine seq_by (fun ρ => ρ = [some (.d (il ts)), some (.d (ill hss)), some (.own []), none, none, none, none, none]) (fun K hK => ?_) ?_
  · walk_at "rd"
    exact hK _ rfl
  rintro ρ rfl
  refine seq_by (fun ρ => ∃ (rs : List Row) (a b c d e : Option S), (rs.length ≤ 900 ∧ Tot M rs (M * zsum ts hss n (ts.length - 1))) ∧ ρ = [some (.d (il ts)), some (.d (ill hss)), some (.own (rs.map rowD)), a, b, c, d, e]) (fun K hK => ?_) ?_
  · walk_at "rd"
    refine ⟨⟨by rw [List.length_map]; omega, by rw [List.length_map]; omega⟩, ?_⟩
    rw [List.length_map, show ((ts.length : Int) - 1).toNat = ts.length - 1 by omega]
    refine for_rng 0 (ts.length - 1) (fun z ρ => ∃ (rs : List Row) (a b c d e : Option S), (rs.length ≤ 120 * z ∧ Tot M rs (M * zsum ts hss n z)) ∧ ρ = [some (.d (il ts)), some (.d (ill hss)), some (.own (rs.map rowD)), a, b, c, d, e]) ?_ ?_ _ ⟨[], none, none, none, none, none, ⟨Nat.zero_le _, by simpa [zsum] using Tot.nil⟩, rfl⟩
    · rintro z ρ hz ⟨rs0, a, b, c, d, e, ⟨rl, T0⟩, rfl⟩ F _ _ hn _
      -- the zone
      have e0 : ts[z]? = some (ts[z]'(by omega)) := List.getElem?_eq_getElem _
      have e1 : ts[z + 1]? = some (ts[z + 1]'(by omega)) := List.getElem?_eq_getElem _
      have g0 : hss[z]? = some (hss[z]'(by omega)) := List.getElem?_eq_getElem _
      have g1 : hss[z + 1]? = some (hss[z + 1]'(by omega)) := List.getElem?_eq_getElem _
      generalize ts[z]'(by omega) = t0 at e0
      generalize ts[z + 1]'(by omega) = t1 at e1
      generalize hss[z]'(by omega) = A at g0
      generalize hss[z + 1]'(by omega) = B at g1
      have w := C.thr.step z t0 t1 e0 e1
      obtain ⟨c', ec⟩ := hdiv z t0 t1 e0 e1
      generalize hW : t1 - t0 = W at w ec
      have pc : 0 < c' := by
        apply Int.not_le.mp
        intro hn
        have : W * c' ≤ 0 := Int.mul_nonpos_of_nonneg_of_nonpos (by omega) hn
        omega
      have bc' : BL 100 c' := by
        refine bM.le ?_
        have : c' ≤ M := by
          rw [ec]
          have : 0 ≤ (W - 1) * c' := Int.mul_nonneg (by omega) (by omega)
          have e : W * c' = c' + (W - 1) * c' := by grind
          omega
        omega
      have lA := C.each A (List.mem_of_getElem? g0)
      have lB := C.each B (List.mem_of_getElem? g1)
      have bA := C.bl A (List.mem_of_getElem? g0)
      have bB := C.bl B (List.mem_of_getElem? g1)
      have nn := C.n1
      unfold rd__law_bands_b4
      simp only [rgName, List.set_cons_zero, List.set_cons_succ]
      walk_at "rd"
      have ez : ((0 : Int) + (z : Int) + 1) = ((z + 1 : Nat) : Int) := by omega
      have ez0 : ((0 : Int) + (z : Int)) = (z : Int) := by omega
      rw [ez, ez0]
      refine il_at e1 (il_at e0 ?_)
      walk_at "rd"
      rw [hW]
      refine ⟨⟨by omega, by omega⟩, ?_⟩
      have hWn : ((W.toNat : Nat) : Int) = W := by omega
      refine for_rng 0 W.toNat (fun k ρ => ∃ (rs : List Row) (b c d e : Option S), (rs.length ≤ 120 * z + 3 * k ∧ Tot M rs (M * zsum ts hss n z + c' * (hsum A n * (2 * W * k - k * k) + hsum B n * (k * k)))) ∧ ρ = [some (.d (il ts)), some (.d (ill hss)), some (.own (rs.map rowD)), some (.d (.int z)), b, c, d, e]) ?_ ?_ _ ⟨rs0, b, c, d, e, ⟨by omega, T0.mono (by simp)⟩, rfl⟩
      · rintro k ρ hk ⟨rs1, b, c, d, e, ⟨rl1, T1⟩, rfl⟩ F' _ _ hn' _
        unfold rd__law_bands_b3
        simp only [rgName, List.set_cons_zero, List.set_cons_succ]
        walk_at "rd"
        have i0 : hss[0]? = some (hss[0]'(by omega)) := List.getElem?_eq_getElem _
        refine dIx_lst (x := il (hss[0]'(by omega))) (atI_nat (j := 0) (by rw [List.getElem?_map, i0]; rfl)) ?_
        have l0 := C.each _ (List.mem_of_getElem? i0)
        walk_at "rd"
        refine ⟨⟨⟨by decide, by decide⟩, ⟨by rw [List.length_map]; omega, by rw [List.length_map]; omega⟩, trivial⟩, ?_⟩
        rw [List.length_map, l0, show (((2 * n : Nat) : Int) - 0 + 1) / 2 = (n : Int) by omega, Int.toNat_natCast]
        have ek : ((0 : Int) + (k : Int)) = (k : Int) := by omega
        rw [ek]
        refine for_stp 0 n (fun i ρ => ∃ (rs : List Row) (c d e : Option S), (rs.length ≤ 120 * z + 3 * k + i ∧ Tot M rs (M * zsum ts hss n z + c' * (hsum A n * (2 * W * k - k * k) + hsum B n * (k * k)) + c' * (hsum A i * (2 * W - 2 * k - 1) + hsum B i * (2 * k + 1)))) ∧ ρ = [some (.d (il ts)), some (.d (ill hss)), some (.own (rs.map rowD)), some (.d (.int z)), some (.d (.int k)), c, d, e]) ?_ ?_ _ ⟨rs1, c, d, e, ⟨by omega, T1.mono (by simp [hsum])⟩, rfl⟩
        · rintro i ρ hi ⟨rs2, c, d, e, ⟨rl2, T2⟩, rfl⟩ F'' _ _ hn'' _
          have a0 : A[2 * i]? = some (A[2 * i]'(by omega)) := List.getElem?_eq_getElem _
          have a1 : A[2 * i + 1]? = some (A[2 * i + 1]'(by omega)) := List.getElem?_eq_getElem _
          have b0 : B[2 * i]? = some (B[2 * i]'(by omega)) := List.getElem?_eq_getElem _
          have b1 : B[2 * i + 1]? = some (B[2 * i + 1]'(by omega)) := List.getElem?_eq_getElem _
          generalize A[2 * i]'(by omega) = La at a0
          generalize A[2 * i + 1]'(by omega) = Ua at a1
          generalize B[2 * i]'(by omega) = Lb at b0
          generalize B[2 * i + 1]'(by omega) = Ub at b1
          have hA : hsum A (i + 1) = hsum A i + (Ua - La) := by show hsum A i + (A.getD (2 * i + 1) 0 - A.getD (2 * i) 0) = _; rw [getD_of a0, getD_of a1]
          have hB : hsum B (i + 1) = hsum B i + (Ub - Lb) := by show hsum B i + (B.getD (2 * i + 1) 0 - B.getD (2 * i) 0) = _; rw [getD_of b0, getD_of b1]
          unfold rd__law_bands_b2
          simp only [rgName, List.set_cons_zero, List.set_cons_succ]
          have ei : ((0 : Int) + (i : Int) * 2) = ((2 * i : Nat) : Int) := by omega
          rw [ei]
          refine seq_by (fun ρ => ρ = [some (.d (il ts)), some (.d (ill hss)), some (.own (rs2.map rowD)), some (.d (.int z)), some (.d (.int k)), some (.d (.int ((2 * i : Nat) : Int))), some (.own [.int (t0 + k)]), e]) (fun K hK => ?_) ?_
          · walk_at "rd"
            refine il_at e0 ?_
            walk_at "rd"
            exact hK _ rfl
          rintro ρ rfl
          refine seq_by (fun ρ => ∃ (r : Row) (x : Option S), (r.x = t0 + k ∧ Low (lin W k La Lb) W r.l0.1 r.l0.2 ∧ Low (lin W (k + 1) La Lb) W r.l1.1 r.l1.2 ∧ Low (lin W k Ua Ub) W r.u0.1 r.u0.2 ∧ Low (lin W (k + 1) Ua Ub) W r.u1.1 r.u1.2) ∧ ρ = [some (.d (il ts)), some (.d (ill hss)), some (.own (rs2.map rowD)), some (.d (.int z)), some (.d (.int k)), some (.d (.int ((2 * i : Nat) : Int))), some (.own [.int r.x, fr r.l0.1 r.l0.2, fr r.l1.1 r.l1.2, fr r.u0.1 r.u0.2, fr r.u1.1 r.u1.2]), x]) (fun K hK => ?_) ?_
          · walk_at "rd"
            refine for_list _ (fun j ρ => (j = 0 ∧ ∃ x : Option S, ρ = [some (.d (il ts)), some (.d (ill hss)), some (.own (rs2.map rowD)), some (.d (.int z)), some (.d (.int k)), some (.d (.int ((2 * i : Nat) : Int))), some (.own [.int (t0 + k)]), x]) ∨
                (j = 1 ∧ ∃ (p0 q0 p1 q1 : Int) (x : Option S), (Low (lin W k La Lb) W p0 q0 ∧ Low (lin W (k + 1) La Lb) W p1 q1) ∧ ρ = [some (.d (il ts)), some (.d (ill hss)), some (.own (rs2.map rowD)), some (.d (.int z)), some (.d (.int k)), some (.d (.int ((2 * i : Nat) : Int))), some (.own [.int (t0 + k), fr p0 q0, fr p1 q1]), x]) ∨
                (j = 2 ∧ ∃ (r : Row) (x : Option S), (r.x = t0 + k ∧ Low (lin W k La Lb) W r.l0.1 r.l0.2 ∧ Low (lin W (k + 1) La Lb) W r.l1.1 r.l1.2 ∧ Low (lin W k Ua Ub) W r.u0.1 r.u0.2 ∧ Low (lin W (k + 1) Ua Ub) W r.u1.1 r.u1.2) ∧ ρ = [some (.d (il ts)), some (.d (ill hss)), some (.own (rs2.map rowD)), some (.d (.int z)), some (.d (.int k)), some (.d (.int ((2 * i : Nat) : Int))), some (.own [.int r.x, fr r.l0.1 r.l0.2, fr r.l1.1 r.l1.2, fr r.u0.1 r.u0.2, fr r.u1.1 r.u1.2]), x])) ?_ ?_ _ (Or.inl ⟨rfl, e, rfl⟩)
            · rintro j x ρ ex (⟨rfl, u, rfl⟩ | ⟨rfl, p0, q0, p1, q1, u, ⟨L0, L1⟩, rfl⟩ | ⟨rfl, _⟩) G _ _ hG _
              · simp at ex
                subst ex
                unfold rd__law_bands_b1
                simp only [rgName, List.set_cons_zero, List.set_cons_succ]
                walk_at "rd"
                refine ⟨ts, hss, n, z, k, 2 * i, t0, t1, A, B, La, Lb, rfl, C, ⟨e0, e1, g0, g1, a0, b0, by omega, by omega⟩, fun p q' L => ?_⟩
                refine ⟨ts, hss, n, z, (k : Int) + 1, 2 * i, t0, t1, A, B, La, Lb, rfl, C, ⟨e0, e1, g0, g1, a0, b0, by omega, by omega⟩, fun p1 q1 L1 => ?_⟩
                rw [hW] at L L1
                exact hG _ (Or.inr (Or.inl ⟨rfl, p, q', p1, q1, some (.d (.int (2 * (i : Int)))), ⟨L, L1⟩, rfl⟩))
              · simp at ex
                subst ex
                unfold rd__law_bands_b1
                simp only [rgName, List.set_cons_zero, List.set_cons_succ]
                walk_at "rd"
                have e2i : (2 * (i : Int) + 1) = ((2 * i + 1 : Nat) : Int) := by omega
                refine ⟨ts, hss, n, z, k, 2 * i + 1, t0, t1, A, B, Ua, Ub, rfl, C, ⟨e0, e1, g0, g1, a1, b1, by omega, by omega⟩, fun p2 q2 L2 => ?_⟩
                refine ⟨ts, hss, n, z, (k : Int) + 1, 2 * i + 1, t0, t1, A, B, Ua, Ub, rfl, C, ⟨e0, e1, g0, g1, a1, b1, by omega, by omega⟩, fun p3 q3 L3 => ?_⟩
                rw [hW] at L2 L3
                exact ⟨sz_le (by decide), hG _ (Or.inr (Or.inr ⟨rfl, ⟨t0 + k, (p0, q0), (p1, q1), (p2, q2), (p3, q3)⟩, some (.d (.int (2 * (i : Int) + 1))), ⟨rfl, L0, L1, L2, L3⟩, rfl⟩))⟩
              · simp at ex
            · rintro ρ (⟨h, _⟩ | ⟨h, _⟩ | ⟨_, r, x, h, rfl⟩)
              · simp at h
              · simp at h
              · exact hK _ ⟨r, x, h, rfl⟩
          rintro ρ ⟨r, x, ⟨hx, L0, L1, U0, U1⟩, rfl⟩
          have W0 : 0 < W := by omega
          have ma : BL 210 La := bA La (List.mem_of_getElem? a0)
          have mb : BL 210 Lb := bB Lb (List.mem_of_getElem? b0)
          have mc : BL 210 Ua := bA Ua (List.mem_of_getElem? a1)
          have md : BL 210 Ub := bB Ub (List.mem_of_getElem? b1)
          have kl : ∀ {j : Int} {a b : Int}, 0 ≤ j → j ≤ 40 → BL 210 a → BL 210 b → BL 400 (lin W j a b * c') := fun {j a b} j0 j1 ha hb =>
            (((ha.mul (n := 10) (BL.of_lt (by omega) (by omega))).add (hb.mul (n := 10) (BL.of_lt (by omega) (by omega)))).mul bc').mono (by decide)
          have V : RowV M r (lin W k La Lb * c') (lin W (k + 1) La Lb * c') (lin W k Ua Ub * c') (lin W (k + 1) Ua Ub * c') := by
            rw [ec]
            exact ⟨L0.scale pc W0, L1.scale pc W0, U0.scale pc W0, U1.scale pc W0, kl (by omega) (by omega) ma mb, kl (by omega) (by omega) ma mb, kl (by omega) (by omega) mc md, kl (by omega) (by omega) mc md⟩
          have eN : (lin W k Ua Ub * c' - lin W k La Lb * c' + (lin W (k + 1) Ua Ub * c' - lin W (k + 1) La Lb * c')) = c' * ((Ua - La) * (2 * W - 2 * k - 1) + (Ub - Lb) * (2 * k + 1)) := by unfold lin; grind
          have more : Tot M (rs2 ++ [r]) (M * zsum ts hss n z + c' * (hsum A n * (2 * W * k - k * k) + hsum B n * (k * k)) + c' * (hsum A (i + 1) * (2 * W - 2 * k - 1) + hsum B (i + 1) * (2 * k + 1))) := by
            refine (Tot.snoc T2 V).mono ?_
            rw [eN, hA, hB]; grind
          have app : F''.nx [some (.d (il ts)), some (.d (ill hss)), some (.own (rs2.map rowD ++ [rowD r])), some (.d (.int z)), some (.d (.int k)), some (.d (.int ((2 * i : Nat) : Int))), some (.own [.int r.x, fr r.l0.1 r.l0.2, fr r.l1.1 r.l1.2, fr r.u0.1 r.u0.2, fr r.u1.1 r.u1.2]), x] :=
            hn'' _ ⟨rs2 ++ [r], _, _, x, ⟨by simp; omega, more⟩, by rw [List.map_append]; rfl⟩
          walk_at "rd"
          have hsz : Sz ((rs2.map rowD).length + 1) := sz_le (by simp; omega)
          rw [eq_two 4]
          by_cases h0 : r.l0.1 = r.u0.1 ∧ r.l0.2 = r.u0.2
          · rw [decide_eq_true h0]
            simp only [Bool.not_true, Bool.false_eq_true, if_false]
            rw [eq_two 4]
            by_cases h1 : r.l1.1 = r.u1.1 ∧ r.l1.2 = r.u1.2
            · rw [decide_eq_true h1]
              simp only [Bool.not_true, Bool.false_eq_true, if_false]
              refine hn'' _ ⟨rs2, _, _, x, ⟨by omega, T2.mono ?_⟩, rfl⟩
              have q0 : lin W k La Lb = lin W k Ua Ub := by
                have w1 := L0.worth
                have w2 := U0.worth
                rw [← h0.1, ← h0.2] at w2
                exact Int.eq_of_mul_eq_mul_right (by have := L0.pos; omega) (w1.symm.trans w2)
              have q1 : lin W (k + 1) La Lb = lin W (k + 1) Ua Ub := by
                have w1 := L1.worth
                have w2 := U1.worth
                rw [← h1.1, ← h1.2] at w2
                exact Int.eq_of_mul_eq_mul_right (by have := L1.pos; omega) (w1.symm.trans w2)
              rw [q0, q1] at eN
              rw [hA, hB]
              grind
            · rw [decide_eq_false h1]
              simp only [Bool.not_false, if_true]
              exact ⟨hsz, app⟩
          · rw [decide_eq_false h0]
            simp only [Bool.not_false, if_true]
            exact ⟨hsz, app⟩
        · rintro ρ ⟨rs2, c, d, e, ⟨rl2, T2⟩, rfl⟩
          refine hn' _ ⟨rs2, _, c, d, e, ⟨by omega, T2.mono ?_⟩, rfl⟩
          push_cast
          grind
      · rintro ρ ⟨rs1, b, c, d, e, ⟨rl1, T1⟩, rfl⟩
        refine hn _ ⟨rs1, _, b, c, d, e, ⟨by omega, T1.mono ?_⟩, rfl⟩
        rw [zsum, getD_of e0, getD_of e1, getD_of g0, getD_of g1, hWn, hW]
        rw [ec]
        grind
    · rintro ρ ⟨rs, a, b, c, d, e, ⟨rl, T⟩, rfl⟩
      exact hK _ ⟨rs, a, b, c, d, e, ⟨by omega, T⟩, rfl⟩
  rintro ρ ⟨rs, a, b, c, d, e, ⟨rl, T⟩, rfl⟩
  walk_at "rd"
  exact q rs rl T
/-! ## a bottom for all widths -/
theorem widths : ∀ (ts : List Int), (∀ (i : Nat) a b, ts[i]? = some a → ts[i + 1]? = some b → 1 ≤ b - a ∧ b - a ≤ 40) → ∃ M : Int, (0 < M ∧ M ≤ 40 ^ ts.length) ∧ ∀ (i : Nat) a b, ts[i]? = some a → ts[i + 1]? = some b → (b - a) ∣ M
  | [], _ => ⟨1, by decide, fun i a b e => by simp at e⟩
  | [t], _ => ⟨1, by simp, fun i a b _ e => by simp at e⟩
  | t :: u :: ts, h => by
    obtain ⟨M, ⟨M0, M1⟩, hd⟩ := widths (u :: ts) fun i a b e1 e2 => h (i + 1) a b (by simpa using e1) (by simpa using e2)
    have w := h 0 t u rfl rfl
    refine ⟨(u - t) * M, ⟨Int.mul_pos (by omega) M0, ?_⟩, fun i a b e1 e2 => ?_⟩
    · rw [List.length_cons, Int.pow_succ, Int.mul_comm _ 40]
      exact Int.mul_le_mul w.2 M1 (by omega) (by decide)
    · cases i with
      | zero => simp at e1 e2; subst e1 e2; exact Int.dvd_mul_right ..
      | succ i => exact Int.dvd_trans (hd i a b (by simpa using e1) (by simpa using e2)) (Int.dvd_mul_left ..)
theorem Thr.bottom {ts : List Int} (T : Thr ts) : ∃ M : Int, 0 < M ∧ BL 100 M ∧ ∀ (i : Nat) a b, ts[i]? = some a → ts[i + 1]? = some b → (b - a) ∣ M := by
  obtain ⟨M, ⟨M0, M1⟩, hd⟩ := widths ts T.step
  refine ⟨M, M0, ?_, hd⟩
  have h5 : (40 : Int) ^ ts.length ≤ 40 ^ 5 := by
    have := T.len
    have hc : ts.length = 2 ∨ ts.length = 3 ∨ ts.length = 4 ∨ ts.length = 5 := by omega
    rcases hc with h | h | h | h <;> rw [h] <;> decide
  exact BL.of_lt (by omega) (Int.lt_of_le_of_lt (Int.le_trans M1 h5) (by decide))
theorem pure_law : ∀ ds Q, FLaw 63 ds Q → rd_law_k21 F_bands F_curves F_low F_whole F_area { nx := fun _ => Q .non, rt := Q } (startD ["_law_script", "_law_threads_here", "_law_heights_here", "_law_rows", "_law_handed", "_law_found", "_law_total", "_law_zone", "_law_low", "_law_ends", "_law_high"] ds) := by
  rintro ds Q ⟨ns, rfl, hn, Qt⟩
  rw [startD_eq 10 rfl]
  unfold rd_law_k21
  simp only [startN, rep10, List.map_cons, List.map_nil, List.cons_append, List.nil_append]
  refine seq_by (fun ρ => ∃ ts hss n, Curves ts hss n ∧ ρ = [some (.d (il ns)), some (.d (il ts)), some (.d (ill hss)), none, none, none, none, none, none, none, none]) (fun K hK => ?_) ?_
  · walk_at "rd"
    refine ⟨ns, rfl, fun ts hss n C => ?_⟩
    walk_at "rd"
    exact hK _ ⟨ts, hss, n, C, rfl⟩
  rintro ρ ⟨ts, hss, n, C, rfl⟩
  obtain ⟨M, M0, bM, hdiv⟩ := C.thr.bottom
  have tl := C.thr.len
  have hl := C.len
  have nn := C.n1
  refine seq_by (fun ρ => ∃ rs : List Row, (rs.length ≤ 900 ∧ Tot M rs (M * zsum ts hss n (ts.length - 1))) ∧ ρ = [some (.d (il ns)), some (.d (il ts)), some (.d (ill hss)), some (.d (.lst (rs.map rowD))), none, none, none, none, none, none, none]) (fun K hK => ?_) ?_
  · walk_at "rd"
    exact ⟨ts, hss, n, M, rfl, C, ⟨M0, bM, hdiv⟩, fun rs l T => hK _ ⟨rs, ⟨l, T⟩, rfl⟩⟩
  rintro ρ ⟨rs, ⟨rl, T⟩, rfl⟩
  refine seq_by (fun ρ => ρ = [some (.d (il ns)), some (.d (il ts)), some (.d (ill hss)), some (.d (.lst (rs.map rowD))), some (.d (.lst (rs.map rowD))), none, none, none, none, none, none]) (fun K hK => ?_) ?_
  · walk_at "rd"
    exact hK _ rfl
  rintro ρ rfl
  refine seq_by (fun ρ => ∃ p q : Int, Low (M * zsum ts hss n (ts.length - 1)) (M * 2) p q ∧ ρ = [some (.d (il ns)), some (.d (il ts)), some (.d (ill hss)), some (.d (.lst (rs.map rowD))), some (.d (.lst (rs.map rowD))), some (.d (fr p q)), none, none, none, none, none]) (fun K hK => ?_) ?_
  · walk_at "rd"
    exact ⟨M, rs, _, rfl, ⟨M0, bM.mono (by decide)⟩, by omega, T, fun p q L => hK _ ⟨p, q, L, rfl⟩⟩
  rintro ρ ⟨p, q, L, rfl⟩
  refine seq_by (fun ρ => ρ = [some (.d (il ns)), some (.d (il ts)), some (.d (ill hss)), some (.d (.lst (rs.map rowD))), some (.d (.lst (rs.map rowD))), some (.d (fr p q)), some (.d (.int 0)), none, none, none, none]) (fun K hK => ?_) ?_
  · walk_at "rd"
    exact hK _ rfl
  rintro ρ rfl
  refine seq_by (fun ρ => ∃ a b c d : Option S, ρ = [some (.d (il ns)), some (.d (il ts)), some (.d (ill hss)), some (.d (.lst (rs.map rowD))), some (.d (.lst (rs.map rowD))), some (.d (fr p q)), some (.d (.int (zsum ts hss n (ts.length - 1)))), a, b, c, d]) (fun K hK => ?_) ?_
  · walk_at "rd"
    refine ⟨⟨by rw [List.length_map]; omega, by rw [List.length_map]; omega⟩, ?_⟩
    rw [List.length_map, show ((ts.length : Int) - 1).toNat = ts.length - 1 by omega]
    refine for_rng 0 (ts.length - 1) (fun z ρ => ∃ a b c d : Option S, ρ = [some (.d (il ns)), some (.d (il ts)), some (.d (ill hss)), some (.d (.lst (rs.map rowD))), some (.d (.lst (rs.map rowD))), some (.d (fr p q)), some (.d (.int (zsum ts hss n z))), a, b, c, d]) ?_ ?_ _ ⟨none, none, none, none, rfl⟩
    · rintro z ρ hz ⟨a, b, c, d, rfl⟩ F _ _ hn' _
      have e0 : ts[z]? = some (ts[z]'(by omega)) := List.getElem?_eq_getElem _
      have e1 : ts[z + 1]? = some (ts[z + 1]'(by omega)) := List.getElem?_eq_getElem _
      have g0 : hss[z]? = some (hss[z]'(by omega)) := List.getElem?_eq_getElem _
      have g1 : hss[z + 1]? = some (hss[z + 1]'(by omega)) := List.getElem?_eq_getElem _
      generalize ts[z]'(by omega) = t0 at e0
      generalize ts[z + 1]'(by omega) = t1 at e1
      generalize hss[z]'(by omega) = A at g0
      generalize hss[z + 1]'(by omega) = B at g1
      have w := C.thr.step z t0 t1 e0 e1
      have lA := C.each A (List.mem_of_getElem? g0)
      have lB := C.each B (List.mem_of_getElem? g1)
      have bA := C.bl A (List.mem_of_getElem? g0)
      have bB := C.bl B (List.mem_of_getElem? g1)
      unfold rd_law_k21_b3
      simp only [rgName, List.set_cons_zero, List.set_cons_succ]
      have ez0 : ((0 : Int) + (z : Int)) = (z : Int) := by omega
      rw [ez0]
      walk_at "rd"
      have i0 : hss[0]? = some (hss[0]'(by omega)) := List.getElem?_eq_getElem _
      refine dIx_lst (x := il (hss[0]'(by omega))) (atI_nat (j := 0) (by rw [List.getElem?_map, i0]; rfl)) ?_
      have l0 := C.each _ (List.mem_of_getElem? i0)
      walk_at "rd"
      refine ⟨⟨⟨by decide, by decide⟩, ⟨by rw [List.length_map]; omega, by rw [List.length_map]; omega⟩, trivial⟩, ?_⟩
      rw [List.length_map, l0, show (((2 * n : Nat) : Int) - 0 + 1) / 2 = (n : Int) by omega, Int.toNat_natCast]
      refine for_stp 0 n (fun i ρ => ∃ b c d : Option S, ρ = [some (.d (il ns)), some (.d (il ts)), some (.d (ill hss)), some (.d (.lst (rs.map rowD))), some (.d (.lst (rs.map rowD))), some (.d (fr p q)), some (.d (.int (zsum ts hss n z + (t1 - t0) * (hsum A i + hsum B i)))), some (.d (.int z)), b, c, d]) ?_ ?_ _ ⟨b, c, d, by simp [hsum]⟩
      · rintro i ρ hi ⟨b, c, d, rfl⟩ F' _ _ hn'' _
        have a0 : A[2 * i]? = some (A[2 * i]'(by omega)) := List.getElem?_eq_getElem _
        have a1 : A[2 * i + 1]? = some (A[2 * i + 1]'(by omega)) := List.getElem?_eq_getElem _
        have b0 : B[2 * i]? = some (B[2 * i]'(by omega)) := List.getElem?_eq_getElem _
        have b1 : B[2 * i + 1]? = some (B[2 * i + 1]'(by omega)) := List.getElem?_eq_getElem _
        generalize A[2 * i]'(by omega) = La at a0
        generalize A[2 * i + 1]'(by omega) = Ua at a1
        generalize B[2 * i]'(by omega) = Lb at b0
        generalize B[2 * i + 1]'(by omega) = Ub at b1
        have hA : hsum A (i + 1) = hsum A i + (Ua - La) := by show hsum A i + (A.getD (2 * i + 1) 0 - A.getD (2 * i) 0) = _; rw [getD_of a0, getD_of a1]
        have hB : hsum B (i + 1) = hsum B i + (Ub - Lb) := by show hsum B i + (B.getD (2 * i + 1) 0 - B.getD (2 * i) 0) = _; rw [getD_of b0, getD_of b1]
        have ma : BL 210 La := bA La (List.mem_of_getElem? a0)
        have mb : BL 210 Lb := bB Lb (List.mem_of_getElem? b0)
        have mc : BL 210 Ua := bA Ua (List.mem_of_getElem? a1)
        have md : BL 210 Ub := bB Ub (List.mem_of_getElem? b1)
        unfold rd_law_k21_b2
        simp only [rgName, List.set_cons_zero, List.set_cons_succ]
        have ei : ((0 : Int) + (i : Int) * 2) = ((2 * i : Nat) : Int) := by omega
        rw [ei]
        walk_at "rd"
        refine ill_at g0 ?_
        have ez1 : ((z : Int) + 1) = ((z + 1 : Nat) : Int) := by omega
        rw [ez1]
        refine ill_at g1 ?_
        refine for_list _ (fun j ρ => ∃ c d : Option S, ρ = [some (.d (il ns)), some (.d (il ts)), some (.d (ill hss)), some (.d (.lst (rs.map rowD))), some (.d (.lst (rs.map rowD))), some (.d (fr p q)), some (.d (.int (zsum ts hss n z + (t1 - t0) * (hsum A i + hsum B i) + (t1 - t0) * ((if 1 ≤ j then Ua - La else 0) + if 2 ≤ j then Ub - Lb else 0)))), some (.d (.int z)), some (.d (.int ((2 * i : Nat) : Int))), c, d]) ?_ ?_ _ ⟨c, d, by simp⟩
        · rintro j x ρ ex ⟨c, d, rfl⟩ G _ _ hG _
          have e2i : (((2 * i : Nat) : Int) + 1) = ((2 * i + 1 : Nat) : Int) := by omega
          match j, ex with
          | 0, ex =>
            simp at ex
            subst ex
            unfold rd_law_k21_b1
            simp only [rgName, List.set_cons_zero, List.set_cons_succ]
            walk_at "rd"
            rw [e2i]
            refine il_at a1 (il_at a0 ?_)
            walk_at "rd"
            rw [ez1]
            refine il_at e1 (il_at e0 ?_)
            walk_at "rd"
            refine ⟨(mc.sub ma).mulOk (n := 10) (BL.of_lt (by omega) (by omega)), hG _ ⟨some (.d (il A)), some (.d (.int (Ua - La))), ?_⟩⟩
            congr 7
            simp; grind
          | 1, ex =>
            simp at ex
            subst ex
            unfold rd_law_k21_b1
            simp only [rgName, List.set_cons_zero, List.set_cons_succ]
            walk_at "rd"
            rw [e2i]
            refine il_at b1 (il_at b0 ?_)
            walk_at "rd"
            rw [ez1]
            refine il_at e1 (il_at e0 ?_)
            walk_at "rd"
            refine ⟨(md.sub mb).mulOk (n := 10) (BL.of_lt (by omega) (by omega)), hG _ ⟨some (.d (il B)), some (.d (.int (Ub - Lb))), ?_⟩⟩
            congr 7
            simp; grind
          | j + 2, ex => simp at ex
        · rintro ρ ⟨c, d, rfl⟩
          refine hn'' _ ⟨some (.d (.int ((2 * i : Nat) : Int))), c, d, ?_⟩
          congr 7
          rw [hA, hB]
          simp; grind
      · rintro ρ ⟨b, c, d, rfl⟩
        refine hn' _ ⟨some (.d (.int z)), b, c, d, ?_⟩
        rw [zsum, getD_of e0, getD_of e1, getD_of g0, getD_of g1]
    · rintro ρ ⟨a, b, c, d, rfl⟩
      exact hK _ ⟨a, b, c, d, rfl⟩
  rintro ρ ⟨a, b, c, d, rfl⟩
  refine seq_by (fun ρ => ρ = [some (.d (il ns)), some (.d (il ts)), some (.d (ill hss)), some (.d (.lst (rs.map rowD))), some (.d (.lst (rs.map rowD))), some (.d (fr p q)), some (.d (.int (zsum ts hss n (ts.length - 1)))), a, b, c, d]) (fun K hK => ?_) ?_
  · walk_at "rd"
    exact ⟨_, rfl, _, rfl, hK _ rfl⟩
  rintro ρ rfl
  walk_at "rd"
  refine ⟨_, _, rfl, ⟨by decide, BL.of_lt (m := 9000) (by decide) (by decide)⟩, fun p' q' L' => ?_⟩
  have L2 := L'.scale M0 (by decide)
  rw [Int.mul_comm, Int.mul_comm 2] at L2
  obtain ⟨rfl, rfl⟩ := K12.low_eq (Int.mul_pos M0 (by decide)) L L2
  have eR : eqF 6 (D.lst (rs.map rowD)) (D.lst (rs.map rowD)) = some true := by
    show eqL (eqF 5) _ _ = _
    refine eqL_rf _ fun x hx => ?_
    obtain ⟨r, _, rfl⟩ := List.mem_map.mp hx
    exact eqF_row 2 r
  simp only [eqF_fr 4, eR, if_true]
  refine ⟨1, [], 0, rfl, ⟨by decide, BL.of_lt (by decide) (by decide)⟩, by decide, .nil, fun p1 q1 L1 => ?_⟩
  have w := L1.worth
  have c1 := L1.cop
  have ps := L1.pos
  have p0 : p1 = 0 := by omega
  subst p0
  have q0 : q1 = 1 := by
    rw [Int.gcd_zero_left] at c1
    omega
  subst q0
  show (match eqF 6 (fr 0 1) (fr 0 1) with | some b => Q (.bl b) | none => False)
  rw [eqF_fr 4]
  exact Qt
end L2.R2

set_option Elab.async false
set_option linter.all false
set_option maxRecDepth 100000
set_option maxHeartbeats 4000000
namespace L2.R2
open PySem PySem.Spec PyProof.Rows L2
namespace K21
def top (i : Nat) : Stmt := PySem.Challenge.pw_recut_k21_area.main.body.getD i (.Pass ⟨0, 0, 0, 0⟩)
abbrev s__law_divisor : Stmt := top 16
abbrev s__law_lowest : Stmt := top 17
abbrev s__law_at : Stmt := top 22
abbrev s__law_bands : Stmt := top 23
abbrev s__law_cell_at : Stmt := top 14
abbrev s__law_mixed : Stmt := top 18
abbrev s__law_heights : Stmt := top 20
abbrev s__law_threads : Stmt := top 19
abbrev s__law_curves : Stmt := top 21
abbrev s__law_whole : Stmt := top 15
abbrev s_shared_divisor : Stmt := top 4
abbrev s_ratio : Stmt := top 5
abbrev s_minus : Stmt := top 7
abbrev s_left_height : Stmt := top 10
abbrev s_plus : Stmt := top 6
abbrev s_right_height : Stmt := top 11
abbrev s_times : Stmt := top 8
abbrev s_area : Stmt := top 12
abbrev s_law : Stmt := top 24
section
variable {P : Program} {w : World} {K : PySem.W.Frag} {mg : Str → Option Value} {base : Heap}
theorem sc__law_divisor : FnScope ["_law_one", "_law_other"] ["_law_one", "_law_other"] (defScope s__law_divisor) := ⟨rfl, rfl, rfl, by decide +kernel, rfl, by decide +kernel, by decide +kernel⟩
theorem bd__law_divisor {f : Addr} {cdv : Value} {A : Around} {outer : List Env} {s : Shared} {H : Hp} {E : XK} (m_abs : mg "abs" = none) (hr : Room 0 (A.deeper (envOfC "_law_divisor" (defScope s__law_divisor) s.heap.objs.size f cdv))) :
    DSs (cxOf CX0 P w K mg base ["_law_one", "_law_other"] "_law_divisor" (defScope s__law_divisor) f cdv A outer s H E).nox (defBody s__law_divisor) (rd__law_divisor) :=
  have nd := sc__law_divisor.nd
  dss_cons (ds_set nd (de_callB cd_abs m_abs boot_abs' (da_cons (dv 0) (da_nil))))
  (dss_cons (ds_set nd (de_callB cd_abs m_abs boot_abs' (da_cons (dv 1) (da_nil))))
  (dss_cons (ds_while PassesOwn.never (dt_cmp od_gt (dvb 1) (DE.bor (de_int))) (dss_one (ds_par rfl nd (da_cons (dv 1) (da_cons (de_op od_mod (dvb 0) (dvb 1)) (da_nil))))))
  (dss_one (ds_ret (dv 0)))))
theorem ok__law_divisor (Z : DefAt K mg "_law_divisor" s__law_divisor ["_law_one", "_law_other"]) (m_abs : mg "abs" = none) {F : FD} (len : ∀ ds Q, F ds Q → ds.length = 2) (pure : ∀ ds Q, F ds Q → rd__law_divisor { nx := fun _ => Q .non, rt := Q } (startD ["_law_one", "_law_other"] ds)) : FnAt P w K mg base "_law_divisor" ["_law_one", "_law_other"] 1 F :=
  Z.ok sc__law_divisor (fun cdv A outer s H E hr => bd__law_divisor m_abs hr) len pure
theorem sc__law_lowest : FnScope ["_law_top", "_law_bottom", "_law_by"] ["_law_top", "_law_bottom"] (defScope s__law_lowest) := ⟨rfl, rfl, rfl, by decide +kernel, rfl, by decide +kernel, by decide +kernel⟩
theorem bd__law_lowest {f : Addr} {cdv : Value} {A : Around} {outer : List Env} {s : Shared} {H : Hp} {E : XK} {F__law_divisor : FD} (C__law_divisor : FnAt P w K mg base "_law_divisor" ["_law_one", "_law_other"] 1 F__law_divisor) (hr : Room 1 (A.deeper (envOfC "_law_lowest" (defScope s__law_lowest) s.heap.objs.size f cdv))) :
    DSs (cxOf CX0 P w K mg base ["_law_top", "_law_bottom", "_law_by"] "_law_lowest" (defScope s__law_lowest) f cdv A outer s H E).nox (defBody s__law_lowest) (rd__law_lowest F__law_divisor) :=
  have nd := sc__law_lowest.nd
  dss_cons (ds_set nd (de_callF C__law_divisor (hr.mono (by decide)) (da_cons (dv 0) (da_cons (dv 1) (da_nil)))))
  (dss_one (ds_ret (de_tup (da_cons (de_op od_fdiv (dvb 0) (dvb 2)) (da_cons (de_op od_fdiv (dvb 1) (dvb 2)) (da_nil))))))
theorem ok__law_lowest (Z : DefAt K mg "_law_lowest" s__law_lowest ["_law_top", "_law_bottom"]) {F__law_divisor : FD} (C__law_divisor : FnAt P w K mg base "_law_divisor" ["_law_one", "_law_other"] 1 F__law_divisor) {F : FD} (len : ∀ ds Q, F ds Q → ds.length = 2) (pure : ∀ ds Q, F ds Q → rd__law_lowest F__law_divisor { nx := fun _ => Q .non, rt := Q } (startD ["_law_top", "_law_bottom", "_law_by"] ds)) : FnAt P w K mg base "_law_lowest" ["_law_top", "_law_bottom"] 2 F :=
  Z.ok sc__law_lowest (fun cdv A outer s H E hr => bd__law_lowest C__law_divisor hr) len pure
theorem sc__law_at : FnScope ["_law_threads_here", "_law_heights_here", "_law_zone", "_law_k", "_law_curve", "_law_wide", "_law_left"] ["_law_threads_here", "_law_heights_here", "_law_zone", "_law_k", "_law_curve"] (defScope s__law_at) := ⟨rfl, rfl, rfl, by decide +kernel, rfl, by decide +kernel, by decide +kernel⟩
theorem bd__law_at {f : Addr} {cdv : Value} {A : Around} {outer : List Env} {s : Shared} {H : Hp} {E : XK} {F__law_lowest : FD} (C__law_lowest : FnAt P w K mg base "_law_lowest" ["_law_top", "_law_bottom"] 2 F__law_lowest) (hr : Room 2 (A.deeper (envOfC "_law_at" (defScope s__law_at) s.heap.objs.size f cdv))) :
    DSs (cxOf CX0 P w K mg base ["_law_threads_here", "_law_heights_here", "_law_zone", "_law_k", "_law_curve", "_law_wide", "_law_left"] "_law_at" (defScope s__law_at) f cdv A outer s H E).nox (defBody s__law_at) (rd__law_at F__law_lowest) :=
  have nd := sc__law_at.nd
  dss_cons (ds_set nd (de_op od_sub (DE.bor (de_ix (dvb 0) (DE.bor (de_op od_add (dvb 2) (DE.bor (de_int)))))) (DE.bor (de_ix (dvb 0) (dvb 2)))))
  (dss_cons (ds_set nd (de_ix (DE.bor (de_ix (dvb 1) (dvb 2))) (dvb 4)))
  (dss_one (ds_ret (de_callF C__law_lowest (hr.mono (by decide)) (da_cons (de_op od_add (DE.bor (de_op od_mul (dvb 6) (DE.bor (de_op od_sub (dvb 5) (dvb 3))))) (DE.bor (de_op od_mul (DE.bor (de_ix (DE.bor (de_ix (dvb 1) (DE.bor (de_op od_add (dvb 2) (DE.bor (de_int)))))) (dvb 4))) (dvb 3)))) (da_cons (dv 5) (da_nil)))))))
theorem ok__law_at (Z : DefAt K mg "_law_at" s__law_at ["_law_threads_here", "_law_heights_here", "_law_zone", "_law_k", "_law_curve"]) {F__law_lowest : FD} (C__law_lowest : FnAt P w K mg base "_law_lowest" ["_law_top", "_law_bottom"] 2 F__law_lowest) {F : FD} (len : ∀ ds Q, F ds Q → ds.length = 5) (pure : ∀ ds Q, F ds Q → rd__law_at F__law_lowest { nx := fun _ => Q .non, rt := Q } (startD ["_law_threads_here", "_law_heights_here", "_law_zone", "_law_k", "_law_curve", "_law_wide", "_law_left"] ds)) : FnAt P w K mg base "_law_at" ["_law_threads_here", "_law_heights_here", "_law_zone", "_law_k", "_law_curve"] 3 F :=
  Z.ok sc__law_at (fun cdv A outer s H E hr => bd__law_at C__law_lowest hr) len pure
theorem sc__law_bands : FnScope ["_law_threads_here", "_law_heights_here", "_law_found", "_law_zone", "_law_k", "_law_low", "_law_band", "_law_curve"] ["_law_threads_here", "_law_heights_here"] (defScope s__law_bands) := ⟨rfl, rfl, rfl, by decide +kernel, rfl, by decide +kernel, by decide +kernel⟩
theorem bd__law_bands {f : Addr} {cdv : Value} {A : Around} {outer : List Env} {s : Shared} {H : Hp} {E : XK} {F__law_at : FD} (C__law_at : FnAt P w K mg base "_law_at" ["_law_threads_here", "_law_heights_here", "_law_zone", "_law_k", "_law_curve"] 3 F__law_at) (m_len : mg "len" = none) (m_range : mg "range" = none) (m_tuple : mg "tuple" = none) (hr : Room 3 (A.deeper (envOfC "_law_bands" (defScope s__law_bands) s.heap.objs.size f cdv))) :
    DSs (cxOf CX0 P w K mg base ["_law_threads_here", "_law_heights_here", "_law_found", "_law_zone", "_law_k", "_law_low", "_law_band", "_law_curve"] "_law_bands" (defScope s__law_bands) f cdv A outer s H E).nox (defBody s__law_bands) (rd__law_bands F__law_at) :=
  have nd := sc__law_bands.nd
  dss_cons (ds_setO nd (do_lst (da_nil)))
  (dss_cons (ds_for PassesOwn.never rfl (di_range1 m_range (da_cons (de_op od_sub (DE.bor (de_len m_len (dvb 0))) (DE.bor (de_int))) (da_nil))) (dg_name nd) (dss_one (ds_for PassesOwn.never rfl (di_range1 m_range (da_cons (de_op od_sub (DE.bor (de_ix (dvb 0) (DE.bor (de_op od_add (dvb 3) (DE.bor (de_int)))))) (DE.bor (de_ix (dvb 0) (dvb 3)))) (da_nil))) (dg_name nd) (dss_one (ds_for PassesOwn.never rfl (di_step m_range (da_cons (de_int) (da_cons (de_len m_len (DE.bor (de_ix (dvb 1) (DE.bor (de_int))))) (da_cons (de_int) (da_nil))))) (dg_name nd) (dss_cons (ds_setO nd (do_lst (da_cons (de_op od_add (DE.bor (de_ix (dvb 0) (dvb 3))) (dvb 4)) (da_nil))))
  (dss_cons (ds_for PassesOwn.never rfl (di_list (DO.val (do_lst (da_cons (dv 5) (da_cons (de_op od_add (dvb 5) (DE.bor (de_int))) (da_nil)))))) (dg_name nd) (dss_cons (ds_append 6 (de_callF C__law_at (hr.mono (by decide)) (da_cons (dv 0) (da_cons (dv 1) (da_cons (dv 3) (da_cons (dv 4) (da_cons (dv 7) (da_nil))))))))
  (dss_one (ds_append 6 (de_callF C__law_at (hr.mono (by decide)) (da_cons (dv 0) (da_cons (dv 1) (da_cons (dv 3) (da_cons (de_op od_add (dvb 4) (DE.bor (de_int))) (da_cons (dv 7) (da_nil)))))))))))
  (dss_one (ds_if (DW.tst (dw_or (dt_cmp (od_ne hr) (DE.bor (de_ix (dvb 6) (DE.bor (de_int)))) (DE.bor (de_ix (dvb 6) (DE.bor (de_int))))) (dw_or1 (dt_cmp (od_ne hr) (DE.bor (de_ix (dvb 6) (DE.bor (de_int)))) (DE.bor (de_ix (dvb 6) (DE.bor (de_int)))))))) (dss_one (ds_append 2 (de_tupOf m_tuple (dvb 6)))) (dss_nil))))))))))
  (dss_one (ds_fz 2 (ds_ret (dv 2)))))
theorem ok__law_bands (Z : DefAt K mg "_law_bands" s__law_bands ["_law_threads_here", "_law_heights_here"]) {F__law_at : FD} (C__law_at : FnAt P w K mg base "_law_at" ["_law_threads_here", "_law_heights_here", "_law_zone", "_law_k", "_law_curve"] 3 F__law_at) (m_len : mg "len" = none) (m_range : mg "range" = none) (m_tuple : mg "tuple" = none) {F : FD} (len : ∀ ds Q, F ds Q → ds.length = 2) (pure : ∀ ds Q, F ds Q → rd__law_bands F__law_at { nx := fun _ => Q .non, rt := Q } (startD ["_law_threads_here", "_law_heights_here", "_law_found", "_law_zone", "_law_k", "_law_low", "_law_band", "_law_curve"] ds)) : FnAt P w K mg base "_law_bands" ["_law_threads_here", "_law_heights_here"] 4 F :=
  Z.ok sc__law_bands (fun cdv A outer s H E hr => bd__law_bands C__law_at m_len m_range m_tuple hr) len pure
theorem sc__law_cell_at : FnScope ["_law_script", "_law_k"] ["_law_script", "_law_k"] (defScope s__law_cell_at) := ⟨rfl, rfl, rfl, by decide +kernel, rfl, by decide +kernel, by decide +kernel⟩
theorem bd__law_cell_at {f : Addr} {cdv : Value} {A : Around} {outer : List Env} {s : Shared} {H : Hp} {E : XK} (m_len : mg "len" = none) (hr : Room 0 (A.deeper (envOfC "_law_cell_at" (defScope s__law_cell_at) s.heap.objs.size f cdv))) :
    DSs (cxOf CX0 P w K mg base ["_law_script", "_law_k"] "_law_cell_at" (defScope s__law_cell_at) f cdv A outer s H E).nox (defBody s__law_cell_at) (rd__law_cell_at) :=
  have nd := sc__law_cell_at.nd
  dss_cons (ds_if (dt_cmp od_lt (dvb 1) (DE.bor (de_len m_len (dvb 0)))) (dss_one (ds_ret (de_ix (dvb 0) (dvb 1)))) (dss_nil))
  (dss_one (ds_ret (de_int)))
theorem ok__law_cell_at (Z : DefAt K mg "_law_cell_at" s__law_cell_at ["_law_script", "_law_k"]) (m_len : mg "len" = none) {F : FD} (len : ∀ ds Q, F ds Q → ds.length = 2) (pure : ∀ ds Q, F ds Q → rd__law_cell_at { nx := fun _ => Q .non, rt := Q } (startD ["_law_script", "_law_k"] ds)) : FnAt P w K mg base "_law_cell_at" ["_law_script", "_law_k"] 1 F :=
  Z.ok sc__law_cell_at (fun cdv A outer s H E hr => bd__law_cell_at m_len hr) len pure
theorem sc__law_mixed : FnScope ["_law_script", "_law_k", "_law_cell", "_law_number"] ["_law_script", "_law_k"] (defScope s__law_mixed) := ⟨rfl, rfl, rfl, by decide +kernel, rfl, by decide +kernel, by decide +kernel⟩
theorem bd__law_mixed {f : Addr} {cdv : Value} {A : Around} {outer : List Env} {s : Shared} {H : Hp} {E : XK} (m_len : mg "len" = none) (m_min : mg "min" = none) (hr : Room 0 (A.deeper (envOfC "_law_mixed" (defScope s__law_mixed) s.heap.objs.size f cdv))) :
    DSs (cxOf CX0 P w K mg base ["_law_script", "_law_k", "_law_cell", "_law_number"] "_law_mixed" (defScope s__law_mixed) f cdv A outer s H E).nox (defBody s__law_mixed) (rd__law_mixed) :=
  have nd := sc__law_mixed.nd
  dss_cons (ds_set nd (de_int))
  (dss_cons (ds_if (dt_cmp od_gt (DE.bor (de_len m_len (dvb 0))) (DE.bor (de_int))) (dss_one (ds_set nd (de_ix (dvb 0) (DE.bor (de_op od_mod (dvb 1) (DE.bor (de_callB (cd_min2 rfl) m_min boot_min' (da_cons (de_int) (da_cons (de_len m_len (dvb 0)) (da_nil)))))))))) (dss_nil))
  (dss_cons (ds_set nd (de_op od_add (DE.bor (de_op od_mod (dvb 2) (DE.bor (de_op od_pow (DE.bor (de_int)) (DE.bor (de_int)))))) (DE.bor (de_op od_mul (DE.bor (de_int)) (DE.bor (de_op od_add (dvb 1) (DE.bor (de_int))))))))
  (dss_one (ds_ret (de_op od_mod (DE.bor (de_op od_mul (dvb 3) (dvb 3))) (DE.bor (de_int)))))))
theorem ok__law_mixed (Z : DefAt K mg "_law_mixed" s__law_mixed ["_law_script", "_law_k"]) (m_len : mg "len" = none) (m_min : mg "min" = none) {F : FD} (len : ∀ ds Q, F ds Q → ds.length = 2) (pure : ∀ ds Q, F ds Q → rd__law_mixed { nx := fun _ => Q .non, rt := Q } (startD ["_law_script", "_law_k", "_law_cell", "_law_number"] ds)) : FnAt P w K mg base "_law_mixed" ["_law_script", "_law_k"] 1 F :=
  Z.ok sc__law_mixed (fun cdv A outer s H E hr => bd__law_mixed m_len m_min hr) len pure
theorem sc__law_heights : FnScope ["_law_script", "_law_many", "_law_place", "_law_cell", "_law_number", "_law_found", "_law_k", "_law_step"] ["_law_script", "_law_many", "_law_place"] (defScope s__law_heights) := ⟨rfl, rfl, rfl, by decide +kernel, rfl, by decide +kernel, by decide +kernel⟩
theorem bd__law_heights {f : Addr} {cdv : Value} {A : Around} {outer : List Env} {s : Shared} {H : Hp} {E : XK} {F__law_cell_at : FD} (C__law_cell_at : FnAt P w K mg base "_law_cell_at" ["_law_script", "_law_k"] 1 F__law_cell_at) {F__law_mixed : FD} (C__law_mixed : FnAt P w K mg base "_law_mixed" ["_law_script", "_law_k"] 1 F__law_mixed) (m_range : mg "range" = none) (hr : Room 1 (A.deeper (envOfC "_law_heights" (defScope s__law_heights) s.heap.objs.size f cdv))) :
    DSs (cxOf CX0 P w K mg base ["_law_script", "_law_many", "_law_place", "_law_cell", "_law_number", "_law_found", "_law_k", "_law_step"] "_law_heights" (defScope s__law_heights) f cdv A outer s H E).nox (defBody s__law_heights) (rd__law_heights F__law_cell_at F__law_mixed) :=
  have nd := sc__law_heights.nd
  dss_cons (ds_set nd (de_callF C__law_cell_at (hr.mono (by decide)) (da_cons (dv 0) (da_cons (de_op od_add (DE.bor (de_int)) (dvb 2)) (da_nil)))))
  (dss_cons (ds_set nd (de_op od_sub (DE.bor (de_op od_mod (dvb 3) (DE.bor (de_int)))) (DE.bor (de_int))))
  (dss_cons (ds_if (dt_cmp od_eqS (DE.bor (de_op od_mod (DE.bor (de_callF C__law_cell_at (hr.mono (by decide)) (da_cons (dv 0) (da_cons (de_int) (da_nil))))) (DE.bor (de_int)))) (DE.bor (de_int))) (dss_one (ds_set nd (de_op od_sub (DE.bor (de_op od_mod (dvb 3) (DE.bor (de_op od_mul (DE.bor (de_int)) (DE.bor (de_op od_pow (DE.bor (de_int)) (DE.bor (de_int)))))))) (DE.bor (de_op od_pow (DE.bor (de_int)) (DE.bor (de_int))))))) (dss_nil))
  (dss_cons (ds_setO nd (do_lst (da_cons (dv 4) (da_nil))))
  (dss_cons (ds_for PassesOwn.never rfl (di_range2 m_range (da_cons (de_int) (da_cons (dv 1) (da_nil)))) (dg_name nd) (dss_cons (ds_set nd (de_callF C__law_mixed (hr.mono (by decide)) (da_cons (dv 0) (da_cons (de_op od_add (DE.bor (de_op od_mul (DE.bor (de_int)) (dvb 2))) (dvb 6)) (da_nil)))))
  (dss_cons (ds_set nd (de_ix (DE.bor (DO.val (do_lst (da_cons (de_int) (da_cons (de_int) (da_cons (de_op od_mod (DE.bor (de_op od_fdiv (dvb 4) (DE.bor (de_int)))) (DE.bor (de_int))) (da_cons (de_op od_mod (DE.bor (de_op od_fdiv (dvb 4) (DE.bor (de_int)))) (DE.bor (de_op od_pow (DE.bor (de_int)) (DE.bor (de_int))))) (da_nil)))))))) (DE.bor (de_op od_mod (dvb 4) (DE.bor (de_int))))))
  (dss_one (ds_append 5 (de_op od_add (DE.bor (de_ix (dvb 5) (DE.bor (de_un ud_neg (DE.bor (de_int)))))) (dvb 7)))))))
  (dss_one (ds_fz 5 (ds_ret (dv 5))))))))
theorem ok__law_heights (Z : DefAt K mg "_law_heights" s__law_heights ["_law_script", "_law_many", "_law_place"]) {F__law_cell_at : FD} (C__law_cell_at : FnAt P w K mg base "_law_cell_at" ["_law_script", "_law_k"] 1 F__law_cell_at) {F__law_mixed : FD} (C__law_mixed : FnAt P w K mg base "_law_mixed" ["_law_script", "_law_k"] 1 F__law_mixed) (m_range : mg "range" = none) {F : FD} (len : ∀ ds Q, F ds Q → ds.length = 3) (pure : ∀ ds Q, F ds Q → rd__law_heights F__law_cell_at F__law_mixed { nx := fun _ => Q .non, rt := Q } (startD ["_law_script", "_law_many", "_law_place", "_law_cell", "_law_number", "_law_found", "_law_k", "_law_step"] ds)) : FnAt P w K mg base "_law_heights" ["_law_script", "_law_many", "_law_place"] 2 F :=
  Z.ok sc__law_heights (fun cdv A outer s H E hr => bd__law_heights C__law_cell_at C__law_mixed m_range hr) len pure
theorem sc__law_threads : FnScope ["_law_script", "_law_found", "_law_k", "_law_wide"] ["_law_script"] (defScope s__law_threads) := ⟨rfl, rfl, rfl, by decide +kernel, rfl, by decide +kernel, by decide +kernel⟩
theorem bd__law_threads {f : Addr} {cdv : Value} {A : Around} {outer : List Env} {s : Shared} {H : Hp} {E : XK} {F__law_cell_at : FD} (C__law_cell_at : FnAt P w K mg base "_law_cell_at" ["_law_script", "_law_k"] 1 F__law_cell_at) {F__law_mixed : FD} (C__law_mixed : FnAt P w K mg base "_law_mixed" ["_law_script", "_law_k"] 1 F__law_mixed) (m_range : mg "range" = none) (hr : Room 1 (A.deeper (envOfC "_law_threads" (defScope s__law_threads) s.heap.objs.size f cdv))) :
    DSs (cxOf CX0 P w K mg base ["_law_script", "_law_found", "_law_k", "_law_wide"] "_law_threads" (defScope s__law_threads) f cdv A outer s H E).nox (defBody s__law_threads) (rd__law_threads F__law_cell_at F__law_mixed) :=
  have nd := sc__law_threads.nd
  dss_cons (ds_setO nd (do_lst (da_cons (de_op od_sub (DE.bor (de_op od_mod (DE.bor (de_callF C__law_cell_at (hr.mono (by decide)) (da_cons (dv 0) (da_cons (de_int) (da_nil))))) (DE.bor (de_int)))) (DE.bor (de_int))) (da_nil))))
  (dss_cons (ds_if (dt_cmp od_eqS (DE.bor (de_op od_mod (DE.bor (de_op od_fdiv (DE.bor (de_callF C__law_cell_at (hr.mono (by decide)) (da_cons (dv 0) (da_cons (de_int) (da_nil))))) (DE.bor (de_int)))) (DE.bor (de_int)))) (DE.bor (de_int))) (dss_one (ds_setO nd (do_lst (da_cons (de_op od_sub (DE.bor (de_op od_mod (DE.bor (de_callF C__law_cell_at (hr.mono (by decide)) (da_cons (dv 0) (da_cons (de_int) (da_nil))))) (DE.bor (de_op od_mul (DE.bor (de_int)) (DE.bor (de_op od_pow (DE.bor (de_int)) (DE.bor (de_int)))))))) (DE.bor (de_op od_pow (DE.bor (de_int)) (DE.bor (de_int))))) (da_nil))))) (dss_nil))
  (dss_cons (ds_for PassesOwn.never rfl (di_range1 m_range (da_cons (de_op od_add (DE.bor (de_int)) (DE.bor (de_op od_mod (DE.bor (de_callF C__law_cell_at (hr.mono (by decide)) (da_cons (dv 0) (da_cons (de_int) (da_nil))))) (DE.bor (de_int))))) (da_nil))) (dg_name nd) (dss_cons (ds_set nd (de_op od_add (DE.bor (de_int)) (DE.bor (de_op od_mod (DE.bor (de_callF C__law_mixed (hr.mono (by decide)) (da_cons (dv 0) (da_cons (de_op od_add (DE.bor (de_int)) (dvb 2)) (da_nil))))) (DE.bor (de_int))))))
  (dss_cons (ds_if (DW.tst (dw_and (dt_cmp od_eqS (dvb 2) (DE.bor (de_int))) (dw_and1 (dt_cmp od_eqS (DE.bor (de_op od_mod (DE.bor (de_callF C__law_cell_at (hr.mono (by decide)) (da_cons (dv 0) (da_cons (de_int) (da_nil))))) (DE.bor (de_int)))) (DE.bor (de_int)))))) (dss_one (ds_set nd (de_op od_add (DE.bor (de_int)) (DE.bor (de_op od_mod (DE.bor (de_op od_fdiv (DE.bor (de_callF C__law_cell_at (hr.mono (by decide)) (da_cons (dv 0) (da_cons (de_int) (da_nil))))) (DE.bor (de_int)))) (DE.bor (de_int))))))) (dss_nil))
  (dss_one (ds_append 1 (de_op od_add (DE.bor (de_ix (dvb 1) (DE.bor (de_un ud_neg (DE.bor (de_int)))))) (dvb 3)))))))
  (dss_one (ds_fz 1 (ds_ret (dv 1))))))
theorem ok__law_threads (Z : DefAt K mg "_law_threads" s__law_threads ["_law_script"]) {F__law_cell_at : FD} (C__law_cell_at : FnAt P w K mg base "_law_cell_at" ["_law_script", "_law_k"] 1 F__law_cell_at) {F__law_mixed : FD} (C__law_mixed : FnAt P w K mg base "_law_mixed" ["_law_script", "_law_k"] 1 F__law_mixed) (m_range : mg "range" = none) {F : FD} (len : ∀ ds Q, F ds Q → ds.length = 1) (pure : ∀ ds Q, F ds Q → rd__law_threads F__law_cell_at F__law_mixed { nx := fun _ => Q .non, rt := Q } (startD ["_law_script", "_law_found", "_law_k", "_law_wide"] ds)) : FnAt P w K mg base "_law_threads" ["_law_script"] 2 F :=
  Z.ok sc__law_threads (fun cdv A outer s H E hr => bd__law_threads C__law_cell_at C__law_mixed m_range hr) len pure
theorem sc__law_curves : FnScope ["_law_script", "_law_threads_here", "_law_many"] ["_law_script"] (defScope s__law_curves) := ⟨rfl, rfl, rfl, by decide +kernel, rfl, by decide +kernel, by decide +kernel⟩
theorem ndc__law_curves_1 : List.Nodup (["_law_place", "_law_script", "_law_many"] : List Str) := by decide +kernel
theorem bd__law_curves {f : Addr} {cdv : Value} {A : Around} {outer : List Env} {s : Shared} {H : Hp} {E : XK} {F__law_cell_at : FD} (C__law_cell_at : FnAt P w K mg base "_law_cell_at" ["_law_script", "_law_k"] 1 F__law_cell_at) {F__law_heights : FD} (C__law_heights : FnAt P w K mg base "_law_heights" ["_law_script", "_law_many", "_law_place"] 2 F__law_heights) {F__law_threads : FD} (C__law_threads : FnAt P w K mg base "_law_threads" ["_law_script"] 2 F__law_threads) (m_len : mg "len" = none) (m_range : mg "range" = none) (hr : Room 2 (A.deeper (envOfC "_law_curves" (defScope s__law_curves) s.heap.objs.size f cdv))) :
    DSs (cxOf CX0 P w K mg base ["_law_script", "_law_threads_here", "_law_many"] "_law_curves" (defScope s__law_curves) f cdv A outer s H E).nox (defBody s__law_curves) (rd__law_curves F__law_cell_at F__law_heights F__law_threads) :=
  have nd := sc__law_curves.nd
  dss_cons (ds_set nd (de_callF C__law_threads (hr.mono (by decide)) (da_cons (dv 0) (da_nil))))
  (dss_cons (ds_set nd (de_op od_add (DE.bor (de_int)) (DE.bor (de_op od_mul (DE.bor (de_int)) (DE.bor (de_op od_mod (DE.bor (de_callF C__law_cell_at (hr.mono (by decide)) (da_cons (dv 0) (da_cons (de_int) (da_nil))))) (DE.bor (de_int))))))))
  (dss_one (ds_ret (de_tup (da_cons (dv 1) (da_cons (DO.val (do_comp ["_law_place", "_law_script", "_law_many"] 1 [0, 2] (di_range1 m_range (da_cons (de_len m_len (dvb 1)) (da_nil))) (fun cl C s H fp => dg_name ndc__law_curves_1) (fun cl C s H fp => de_callF C__law_heights (hr.mono (by decide)) (da_cons (dv 1) (da_cons (dv 2) (da_cons (dv 0) (da_nil))))))) (da_nil)))))))
theorem ok__law_curves (Z : DefAt K mg "_law_curves" s__law_curves ["_law_script"]) {F__law_cell_at : FD} (C__law_cell_at : FnAt P w K mg base "_law_cell_at" ["_law_script", "_law_k"] 1 F__law_cell_at) {F__law_heights : FD} (C__law_heights : FnAt P w K mg base "_law_heights" ["_law_script", "_law_many", "_law_place"] 2 F__law_heights) {F__law_threads : FD} (C__law_threads : FnAt P w K mg base "_law_threads" ["_law_script"] 2 F__law_threads) (m_len : mg "len" = none) (m_range : mg "range" = none) {F : FD} (len : ∀ ds Q, F ds Q → ds.length = 1) (pure : ∀ ds Q, F ds Q → rd__law_curves F__law_cell_at F__law_heights F__law_threads { nx := fun _ => Q .non, rt := Q } (startD ["_law_script", "_law_threads_here", "_law_many"] ds)) : FnAt P w K mg base "_law_curves" ["_law_script"] 3 F :=
  Z.ok sc__law_curves (fun cdv A outer s H E hr => bd__law_curves C__law_cell_at C__law_heights C__law_threads m_len m_range hr) len pure
theorem sc__law_whole : FnScope ["_law_found"] ["_law_found"] (defScope s__law_whole) := ⟨rfl, rfl, rfl, by decide +kernel, rfl, by decide +kernel, by decide +kernel⟩
theorem bd__law_whole {f : Addr} {cdv : Value} {A : Around} {outer : List Env} {s : Shared} {H : Hp} {E : XK} (m_isinstance : mg "isinstance" = none) (m_bool : mg "bool" = none) (m_int : mg "int" = none) (hr : Room 0 (A.deeper (envOfC "_law_whole" (defScope s__law_whole) s.heap.objs.size f cdv))) :
    DSs (cxOf CX0 P w K mg base ["_law_found"] "_law_whole" (defScope s__law_whole) f cdv A outer s H E).nox (defBody s__law_whole) (rd__law_whole) :=
  have nd := sc__law_whole.nd
  dss_one (ds_ret (de_and (de_isi (tab_int _) m_isinstance m_int boot_int' (dv 0)) (de_one (de_not (de_isi (tab_bool _) m_isinstance m_bool boot_bool' (dv 0))))))
theorem ok__law_whole (Z : DefAt K mg "_law_whole" s__law_whole ["_law_found"]) (m_isinstance : mg "isinstance" = none) (m_bool : mg "bool" = none) (m_int : mg "int" = none) {F : FD} (len : ∀ ds Q, F ds Q → ds.length = 1) (pure : ∀ ds Q, F ds Q → rd__law_whole { nx := fun _ => Q .non, rt := Q } (startD ["_law_found"] ds)) : FnAt P w K mg base "_law_whole" ["_law_found"] 1 F :=
  Z.ok sc__law_whole (fun cdv A outer s H E hr => bd__law_whole m_isinstance m_bool m_int hr) len pure
theorem sc_shared_divisor : FnScope ["one", "other", "larger", "smaller", "rest"] ["one", "other"] (defScope s_shared_divisor) := ⟨rfl, rfl, rfl, by decide +kernel, rfl, by decide +kernel, by decide +kernel⟩
theorem bd_shared_divisor {f : Addr} {cdv : Value} {A : Around} {outer : List Env} {s : Shared} {H : Hp} {E : XK} (m_abs : mg "abs" = none) (hr : Room 0 (A.deeper (envOfC "shared_divisor" (defScope s_shared_divisor) s.heap.objs.size f cdv))) :
    DSs (cxOf CX0 P w K mg base ["one", "other", "larger", "smaller", "rest"] "shared_divisor" (defScope s_shared_divisor) f cdv A outer s H E).nox (defBody s_shared_divisor) (rd_shared_divisor) :=
  have nd := sc_shared_divisor.nd
  dss_cons (ds_set nd (de_callB cd_abs m_abs boot_abs' (da_cons (dv 0) (da_nil))))
  (dss_cons (ds_set nd (de_callB cd_abs m_abs boot_abs' (da_cons (dv 1) (da_nil))))
  (dss_cons (ds_while PassesOwn.never (dt_cmp od_neS (dvb 3) (DE.bor (de_int))) (dss_cons (ds_set nd (de_op od_mod (dvb 2) (dvb 3)))
  (dss_cons (ds_set nd (dv 3))
  (dss_one (ds_set nd (dv 4))))))
  (dss_one (ds_ret (dv 2)))))
theorem ok_shared_divisor (Z : DefAt K mg "shared_divisor" s_shared_divisor ["one", "other"]) (m_abs : mg "abs" = none) {F : FD} (len : ∀ ds Q, F ds Q → ds.length = 2) (pure : ∀ ds Q, F ds Q → rd_shared_divisor { nx := fun _ => Q .non, rt := Q } (startD ["one", "other", "larger", "smaller", "rest"] ds)) : FnAt P w K mg base "shared_divisor" ["one", "other"] 1 F :=
  Z.ok sc_shared_divisor (fun cdv A outer s H E hr => bd_shared_divisor m_abs hr) len pure
theorem sc_ratio : FnScope ["top", "bottom", "divisor"] ["top", "bottom"] (defScope s_ratio) := ⟨rfl, rfl, rfl, by decide +kernel, rfl, by decide +kernel, by decide +kernel⟩
theorem bd_ratio {f : Addr} {cdv : Value} {A : Around} {outer : List Env} {s : Shared} {H : Hp} {E : XK} {F_shared_divisor : FD} (C_shared_divisor : FnAt P w K mg base "shared_divisor" ["one", "other"] 1 F_shared_divisor) (hr : Room 1 (A.deeper (envOfC "ratio" (defScope s_ratio) s.heap.objs.size f cdv))) :
    DSs (cxOf CX0 P w K mg base ["top", "bottom", "divisor"] "ratio" (defScope s_ratio) f cdv A outer s H E).nox (defBody s_ratio) (rd_ratio F_shared_divisor) :=
  have nd := sc_ratio.nd
  dss_cons (ds_if (dt_cmp od_eqS (dvb 1) (DE.bor (de_int))) (dss_one (ds_never)) (dss_nil))
  (dss_cons (ds_set nd (de_callF C_shared_divisor (hr.mono (by decide)) (da_cons (dv 0) (da_cons (dv 1) (da_nil)))))
  (dss_cons (ds_if (dt_cmp od_lt (dvb 1) (DE.bor (de_int))) (dss_one (ds_set nd (de_un ud_neg (dvb 2)))) (dss_nil))
  (dss_one (ds_ret (de_tup (da_cons (de_op od_fdiv (dvb 0) (dvb 2)) (da_cons (de_op od_fdiv (dvb 1) (dvb 2)) (da_nil))))))))
theorem ok_ratio (Z : DefAt K mg "ratio" s_ratio ["top", "bottom"]) {F_shared_divisor : FD} (C_shared_divisor : FnAt P w K mg base "shared_divisor" ["one", "other"] 1 F_shared_divisor) {F : FD} (len : ∀ ds Q, F ds Q → ds.length = 2) (pure : ∀ ds Q, F ds Q → rd_ratio F_shared_divisor { nx := fun _ => Q .non, rt := Q } (startD ["top", "bottom", "divisor"] ds)) : FnAt P w K mg base "ratio" ["top", "bottom"] 2 F :=
  Z.ok sc_ratio (fun cdv A outer s H E hr => bd_ratio C_shared_divisor hr) len pure
theorem sc_minus : FnScope ["one", "other"] ["one", "other"] (defScope s_minus) := ⟨rfl, rfl, rfl, by decide +kernel, rfl, by decide +kernel, by decide +kernel⟩
theorem bd_minus {f : Addr} {cdv : Value} {A : Around} {outer : List Env} {s : Shared} {H : Hp} {E : XK} {F_ratio : FD} (C_ratio : FnAt P w K mg base "ratio" ["top", "bottom"] 2 F_ratio) (hr : Room 2 (A.deeper (envOfC "minus" (defScope s_minus) s.heap.objs.size f cdv))) :
    DSs (cxOf CX0 P w K mg base ["one", "other"] "minus" (defScope s_minus) f cdv A outer s H E).nox (defBody s_minus) (rd_minus F_ratio) :=
  have nd := sc_minus.nd
  dss_one (ds_ret (de_callF C_ratio (hr.mono (by decide)) (da_cons (de_op od_sub (DE.bor (de_op od_mul (DE.bor (de_ix (dvb 0) (DE.bor (de_int)))) (DE.bor (de_ix (dvb 1) (DE.bor (de_int)))))) (DE.bor (de_op od_mul (DE.bor (de_ix (dvb 1) (DE.bor (de_int)))) (DE.bor (de_ix (dvb 0) (DE.bor (de_int))))))) (da_cons (de_op od_mul (DE.bor (de_ix (dvb 0) (DE.bor (de_int)))) (DE.bor (de_ix (dvb 1) (DE.bor (de_int))))) (da_nil)))))
theorem ok_minus (Z : DefAt K mg "minus" s_minus ["one", "other"]) {F_ratio : FD} (C_ratio : FnAt P w K mg base "ratio" ["top", "bottom"] 2 F_ratio) {F : FD} (len : ∀ ds Q, F ds Q → ds.length = 2) (pure : ∀ ds Q, F ds Q → rd_minus F_ratio { nx := fun _ => Q .non, rt := Q } (startD ["one", "other"] ds)) : FnAt P w K mg base "minus" ["one", "other"] 3 F :=
  Z.ok sc_minus (fun cdv A outer s H E hr => bd_minus C_ratio hr) len pure
theorem sc_left_height : FnScope ["row"] ["row"] (defScope s_left_height) := ⟨rfl, rfl, rfl, by decide +kernel, rfl, by decide +kernel, by decide +kernel⟩
theorem bd_left_height {f : Addr} {cdv : Value} {A : Around} {outer : List Env} {s : Shared} {H : Hp} {E : XK} {F_minus : FD} (C_minus : FnAt P w K mg base "minus" ["one", "other"] 3 F_minus) (hr : Room 3 (A.deeper (envOfC "left_height" (defScope s_left_height) s.heap.objs.size f cdv))) :
    DSs (cxOf CX0 P w K mg base ["row"] "left_height" (defScope s_left_height) f cdv A outer s H E).nox (defBody s_left_height) (rd_left_height F_minus) :=
  have nd := sc_left_height.nd
  dss_one (ds_ret (de_callF C_minus (hr.mono (by decide)) (da_cons (de_ix (dvb 0) (DE.bor (de_int))) (da_cons (de_ix (dvb 0) (DE.bor (de_int))) (da_nil)))))
theorem ok_left_height (Z : DefAt K mg "left_height" s_left_height ["row"]) {F_minus : FD} (C_minus : FnAt P w K mg base "minus" ["one", "other"] 3 F_minus) {F : FD} (len : ∀ ds Q, F ds Q → ds.length = 1) (pure : ∀ ds Q, F ds Q → rd_left_height F_minus { nx := fun _ => Q .non, rt := Q } (startD ["row"] ds)) : FnAt P w K mg base "left_height" ["row"] 4 F :=
  Z.ok sc_left_height (fun cdv A outer s H E hr => bd_left_height C_minus hr) len pure
theorem sc_plus : FnScope ["one", "other"] ["one", "other"] (defScope s_plus) := ⟨rfl, rfl, rfl, by decide +kernel, rfl, by decide +kernel, by decide +kernel⟩
theorem bd_plus {f : Addr} {cdv : Value} {A : Around} {outer : List Env} {s : Shared} {H : Hp} {E : XK} {F_ratio : FD} (C_ratio : FnAt P w K mg base "ratio" ["top", "bottom"] 2 F_ratio) (hr : Room 2 (A.deeper (envOfC "plus" (defScope s_plus) s.heap.objs.size f cdv))) :
    DSs (cxOf CX0 P w K mg base ["one", "other"] "plus" (defScope s_plus) f cdv A outer s H E).nox (defBody s_plus) (rd_plus F_ratio) :=
  have nd := sc_plus.nd
  dss_one (ds_ret (de_callF C_ratio (hr.mono (by decide)) (da_cons (de_op od_add (DE.bor (de_op od_mul (DE.bor (de_ix (dvb 0) (DE.bor (de_int)))) (DE.bor (de_ix (dvb 1) (DE.bor (de_int)))))) (DE.bor (de_op od_mul (DE.bor (de_ix (dvb 1) (DE.bor (de_int)))) (DE.bor (de_ix (dvb 0) (DE.bor (de_int))))))) (da_cons (de_op od_mul (DE.bor (de_ix (dvb 0) (DE.bor (de_int)))) (DE.bor (de_ix (dvb 1) (DE.bor (de_int))))) (da_nil)))))
theorem ok_plus (Z : DefAt K mg "plus" s_plus ["one", "other"]) {F_ratio : FD} (C_ratio : FnAt P w K mg base "ratio" ["top", "bottom"] 2 F_ratio) {F : FD} (len : ∀ ds Q, F ds Q → ds.length = 2) (pure : ∀ ds Q, F ds Q → rd_plus F_ratio { nx := fun _ => Q .non, rt := Q } (startD ["one", "other"] ds)) : FnAt P w K mg base "plus" ["one", "other"] 3 F :=
  Z.ok sc_plus (fun cdv A outer s H E hr => bd_plus C_ratio hr) len pure
theorem sc_right_height : FnScope ["row"] ["row"] (defScope s_right_height) := ⟨rfl, rfl, rfl, by decide +kernel, rfl, by decide +kernel, by decide +kernel⟩
theorem bd_right_height {f : Addr} {cdv : Value} {A : Around} {outer : List Env} {s : Shared} {H : Hp} {E : XK} {F_minus : FD} (C_minus : FnAt P w K mg base "minus" ["one", "other"] 3 F_minus) (hr : Room 3 (A.deeper (envOfC "right_height" (defScope s_right_height) s.heap.objs.size f cdv))) :
    DSs (cxOf CX0 P w K mg base ["row"] "right_height" (defScope s_right_height) f cdv A outer s H E).nox (defBody s_right_height) (rd_right_height F_minus) :=
  have nd := sc_right_height.nd
  dss_one (ds_ret (de_callF C_minus (hr.mono (by decide)) (da_cons (de_ix (dvb 0) (DE.bor (de_int))) (da_cons (de_ix (dvb 0) (DE.bor (de_int))) (da_nil)))))
theorem ok_right_height (Z : DefAt K mg "right_height" s_right_height ["row"]) {F_minus : FD} (C_minus : FnAt P w K mg base "minus" ["one", "other"] 3 F_minus) {F : FD} (len : ∀ ds Q, F ds Q → ds.length = 1) (pure : ∀ ds Q, F ds Q → rd_right_height F_minus { nx := fun _ => Q .non, rt := Q } (startD ["row"] ds)) : FnAt P w K mg base "right_height" ["row"] 4 F :=
  Z.ok sc_right_height (fun cdv A outer s H E hr => bd_right_height C_minus hr) len pure
theorem sc_times : FnScope ["one", "other"] ["one", "other"] (defScope s_times) := ⟨rfl, rfl, rfl, by decide +kernel, rfl, by decide +kernel, by decide +kernel⟩
theorem bd_times {f : Addr} {cdv : Value} {A : Around} {outer : List Env} {s : Shared} {H : Hp} {E : XK} {F_ratio : FD} (C_ratio : FnAt P w K mg base "ratio" ["top", "bottom"] 2 F_ratio) (hr : Room 2 (A.deeper (envOfC "times" (defScope s_times) s.heap.objs.size f cdv))) :
    DSs (cxOf CX0 P w K mg base ["one", "other"] "times" (defScope s_times) f cdv A outer s H E).nox (defBody s_times) (rd_times F_ratio) :=
  have nd := sc_times.nd
  dss_one (ds_ret (de_callF C_ratio (hr.mono (by decide)) (da_cons (de_op od_mul (DE.bor (de_ix (dvb 0) (DE.bor (de_int)))) (DE.bor (de_ix (dvb 1) (DE.bor (de_int))))) (da_cons (de_op od_mul (DE.bor (de_ix (dvb 0) (DE.bor (de_int)))) (DE.bor (de_ix (dvb 1) (DE.bor (de_int))))) (da_nil)))))
theorem ok_times (Z : DefAt K mg "times" s_times ["one", "other"]) {F_ratio : FD} (C_ratio : FnAt P w K mg base "ratio" ["top", "bottom"] 2 F_ratio) {F : FD} (len : ∀ ds Q, F ds Q → ds.length = 2) (pure : ∀ ds Q, F ds Q → rd_times F_ratio { nx := fun _ => Q .non, rt := Q } (startD ["one", "other"] ds)) : FnAt P w K mg base "times" ["one", "other"] 3 F :=
  Z.ok sc_times (fun cdv A outer s H E hr => bd_times C_ratio hr) len pure
theorem sc_area : FnScope ["rows", "total", "row"] ["rows"] (defScope s_area) := ⟨rfl, rfl, rfl, by decide +kernel, rfl, by decide +kernel, by decide +kernel⟩
theorem bd_area {f : Addr} {cdv : Value} {A : Around} {outer : List Env} {s : Shared} {H : Hp} {E : XK} {F_left_height : FD} (C_left_height : FnAt P w K mg base "left_height" ["row"] 4 F_left_height) {F_plus : FD} (C_plus : FnAt P w K mg base "plus" ["one", "other"] 3 F_plus) {F_right_height : FD} (C_right_height : FnAt P w K mg base "right_height" ["row"] 4 F_right_height) {F_times : FD} (C_times : FnAt P w K mg base "times" ["one", "other"] 3 F_times) (hr : Room 4 (A.deeper (envOfC "area" (defScope s_area) s.heap.objs.size f cdv))) :
    DSs (cxOf CX0 P w K mg base ["rows", "total", "row"] "area" (defScope s_area) f cdv A outer s H E).nox (defBody s_area) (rd_area F_left_height F_plus F_right_height F_times) :=
  have nd := sc_area.nd
  dss_cons (ds_set nd (de_tup (da_cons (de_int) (da_cons (de_int) (da_nil)))))
  (dss_cons (ds_for PassesOwn.never rfl (di_list (dv 0)) (dg_name nd) (dss_one (ds_set nd (de_callF C_plus (hr.mono (by decide)) (da_cons (dv 1) (da_cons (de_callF C_plus (hr.mono (by decide)) (da_cons (de_callF C_left_height (hr.mono (by decide)) (da_cons (dv 2) (da_nil))) (da_cons (de_callF C_right_height (hr.mono (by decide)) (da_cons (dv 2) (da_nil))) (da_nil)))) (da_nil)))))))
  (dss_one (ds_ret (de_callF C_times (hr.mono (by decide)) (da_cons (dv 1) (da_cons (de_tup (da_cons (de_int) (da_cons (de_int) (da_nil)))) (da_nil)))))))
theorem ok_area (Z : DefAt K mg "area" s_area ["rows"]) {F_left_height : FD} (C_left_height : FnAt P w K mg base "left_height" ["row"] 4 F_left_height) {F_plus : FD} (C_plus : FnAt P w K mg base "plus" ["one", "other"] 3 F_plus) {F_right_height : FD} (C_right_height : FnAt P w K mg base "right_height" ["row"] 4 F_right_height) {F_times : FD} (C_times : FnAt P w K mg base "times" ["one", "other"] 3 F_times) {F : FD} (len : ∀ ds Q, F ds Q → ds.length = 1) (pure : ∀ ds Q, F ds Q → rd_area F_left_height F_plus F_right_height F_times { nx := fun _ => Q .non, rt := Q } (startD ["rows", "total", "row"] ds)) : FnAt P w K mg base "area" ["rows"] 5 F :=
  Z.ok sc_area (fun cdv A outer s H E hr => bd_area C_left_height C_plus C_right_height C_times hr) len pure
theorem sc_law : FnScope ["_law_script", "_law_threads_here", "_law_heights_here", "_law_rows", "_law_handed", "_law_found", "_law_total", "_law_zone", "_law_low", "_law_ends", "_law_high"] ["_law_script"] (defScope s_law) := ⟨rfl, rfl, rfl, by decide +kernel, rfl, by decide +kernel, by decide +kernel⟩
theorem bd_law {f : Addr} {cdv : Value} {A : Around} {outer : List Env} {s : Shared} {H : Hp} {E : XK} {F__law_bands : FD} (C__law_bands : FnAt P w K mg base "_law_bands" ["_law_threads_here", "_law_heights_here"] 4 F__law_bands) {F__law_curves : FD} (C__law_curves : FnAt P w K mg base "_law_curves" ["_law_script"] 3 F__law_curves) {F__law_lowest : FD} (C__law_lowest : FnAt P w K mg base "_law_lowest" ["_law_top", "_law_bottom"] 2 F__law_lowest) {F__law_whole : FD} (C__law_whole : FnAt P w K mg base "_law_whole" ["_law_found"] 1 F__law_whole) {F_area : FD} (C_area : FnAt P w K mg base "area" ["rows"] 5 F_area) (m_len : mg "len" = none) (m_isinstance : mg "isinstance" = none) (m_tuple : mg "tuple" = none) (m_range : mg "range" = none) (m_list : mg "list" = none) (hr : Room 5 (A.deeper (envOfC "law" (defScope s_law) s.heap.objs.size f cdv))) :
    DSs (cxOf CX0 P w K mg base ["_law_script", "_law_threads_here", "_law_heights_here", "_law_rows", "_law_handed", "_law_found", "_law_total", "_law_zone", "_law_low", "_law_ends", "_law_high"] "law" (defScope s_law) f cdv A outer s H E).nox (defBody s_law) (rd_law_k21 F__law_bands F__law_curves F__law_lowest F__law_whole F_area) :=
  have nd := sc_law.nd
  dss_cons (ds_asg (de_callF C__law_curves (hr.mono (by decide)) (da_cons (dv 0) (da_nil))) (dg_tup rfl (dgs_cons (dg_name nd) (dgs_cons (dg_name nd) (dgs_nil)))))
  (dss_cons (ds_set nd (de_callF C__law_bands (hr.mono (by decide)) (da_cons (dv 1) (da_cons (dv 2) (da_nil)))))
  (dss_cons (ds_set nd (de_listOf m_list (dvb 3)))
  (dss_cons (ds_set nd (de_callF C_area (hr.mono (by decide)) (da_cons (dv 4) (da_nil))))
  (dss_cons (ds_set nd (de_int))
  (dss_cons (ds_for PassesOwn.never rfl (di_range1 m_range (da_cons (de_op od_sub (DE.bor (de_len m_len (dvb 1))) (DE.bor (de_int))) (da_nil))) (dg_name nd) (dss_one (ds_for PassesOwn.never rfl (di_step m_range (da_cons (de_int) (da_cons (de_len m_len (DE.bor (de_ix (dvb 2) (DE.bor (de_int))))) (da_cons (de_int) (da_nil))))) (dg_name nd) (dss_one (ds_for PassesOwn.never rfl (di_list (DO.val (do_lst (da_cons (de_ix (dvb 2) (dvb 7)) (da_cons (de_ix (dvb 2) (DE.bor (de_op od_add (dvb 7) (DE.bor (de_int))))) (da_nil)))))) (dg_name nd) (dss_cons (ds_set nd (de_op od_sub (DE.bor (de_ix (dvb 9) (DE.bor (de_op od_add (dvb 8) (DE.bor (de_int)))))) (DE.bor (de_ix (dvb 9) (dvb 8)))))
  (dss_one (ds_set nd (de_op od_add (dvb 6) (DE.bor (de_op od_mul (dvb 10) (DE.bor (de_op od_sub (DE.bor (de_ix (dvb 1) (DE.bor (de_op od_add (dvb 7) (DE.bor (de_int)))))) (DE.bor (de_ix (dvb 1) (dvb 7))))))))))))))))
  (dss_cons (ds_if (DW.tst (dw_or (dt_not (dt_val (de_isi (tab_tuple _) m_isinstance m_tuple boot_tuple' (dv 5)))) (dw_or (dt_cmp od_neS (DE.bor (de_len m_len (dvb 5))) (DE.bor (de_int))) (dw_or (dt_not (dt_val (de_callF C__law_whole (hr.mono (by decide)) (da_cons (de_ix (dvb 5) (DE.bor (de_int))) (da_nil))))) (dw_or1 (dt_not (dt_val (de_callF C__law_whole (hr.mono (by decide)) (da_cons (de_ix (dvb 5) (DE.bor (de_int))) (da_nil)))))))))) (dss_one (ds_ret (de_bl))) (dss_nil))
  (dss_one (ds_ret (de_and (de_cmp (od_eq hr) (dvb 5) (DE.bor (de_callF C__law_lowest (hr.mono (by decide)) (da_cons (dv 6) (da_cons (de_int) (da_nil)))))) (de_and (de_cmp (od_eq hr) (dvb 4) (dvb 3)) (de_one (de_cmp (od_eq hr) (DE.bor (de_callF C_area (hr.mono (by decide)) (da_cons (DO.val (do_lst (da_nil))) (da_nil)))) (DE.bor (de_tup (da_cons (de_int) (da_cons (de_int) (da_nil)))))))))))))))))
theorem fo_law {F__law_bands : FD} (C__law_bands : FnAt P w K mg base "_law_bands" ["_law_threads_here", "_law_heights_here"] 4 F__law_bands) {F__law_curves : FD} (C__law_curves : FnAt P w K mg base "_law_curves" ["_law_script"] 3 F__law_curves) {F__law_lowest : FD} (C__law_lowest : FnAt P w K mg base "_law_lowest" ["_law_top", "_law_bottom"] 2 F__law_lowest) {F__law_whole : FD} (C__law_whole : FnAt P w K mg base "_law_whole" ["_law_found"] 1 F__law_whole) {F_area : FD} (C_area : FnAt P w K mg base "area" ["rows"] 5 F_area) (m_len : mg "len" = none) (m_isinstance : mg "isinstance" = none) (m_tuple : mg "tuple" = none) (m_range : mg "range" = none) (m_list : mg "list" = none) {F : FD} {f : Addr} {fd : FuncData} (Fu : Fun K "law" "law" s_law f fd) (len : ∀ ds Q, F ds Q → ds.length = 1) (pure : ∀ ds Q, F ds Q → rd_law_k21 F__law_bands F__law_curves F__law_lowest F__law_whole F_area { nx := fun _ => Q .non, rt := Q } (startD ["_law_script", "_law_threads_here", "_law_heights_here", "_law_rows", "_law_handed", "_law_found", "_law_total", "_law_zone", "_law_low", "_law_ends", "_law_high"] ds)) : FnOk P w K mg base CX0 6 f fd ["_law_script"] (spD K F) :=
  fn_ok Fu sc_law (fun cdv A outer s H E hr => bd_law C__law_bands C__law_curves C__law_lowest C__law_whole C_area m_len m_isinstance m_tuple m_range m_list hr) len pure
end
structure TopF (K : PySem.W.Frag) (mg : Str → Option Value) : Prop where
  d__law_divisor : DefAt K mg "_law_divisor" s__law_divisor ["_law_one", "_law_other"]
  d__law_lowest : DefAt K mg "_law_lowest" s__law_lowest ["_law_top", "_law_bottom"]
  d__law_at : DefAt K mg "_law_at" s__law_at ["_law_threads_here", "_law_heights_here", "_law_zone", "_law_k", "_law_curve"]
  d__law_bands : DefAt K mg "_law_bands" s__law_bands ["_law_threads_here", "_law_heights_here"]
  d__law_cell_at : DefAt K mg "_law_cell_at" s__law_cell_at ["_law_script", "_law_k"]
  d__law_mixed : DefAt K mg "_law_mixed" s__law_mixed ["_law_script", "_law_k"]
  d__law_heights : DefAt K mg "_law_heights" s__law_heights ["_law_script", "_law_many", "_law_place"]
  d__law_threads : DefAt K mg "_law_threads" s__law_threads ["_law_script"]
  d__law_curves : DefAt K mg "_law_curves" s__law_curves ["_law_script"]
  d__law_whole : DefAt K mg "_law_whole" s__law_whole ["_law_found"]
  d_shared_divisor : DefAt K mg "shared_divisor" s_shared_divisor ["one", "other"]
  d_ratio : DefAt K mg "ratio" s_ratio ["top", "bottom"]
  d_minus : DefAt K mg "minus" s_minus ["one", "other"]
  d_left_height : DefAt K mg "left_height" s_left_height ["row"]
  d_plus : DefAt K mg "plus" s_plus ["one", "other"]
  d_right_height : DefAt K mg "right_height" s_right_height ["row"]
  d_times : DefAt K mg "times" s_times ["one", "other"]
  d_area : DefAt K mg "area" s_area ["rows"]
  d_law : DefAt K mg "law" s_law ["_law_script"]
  m_abs : mg "abs" = none
  m_len : mg "len" = none
  m_range : mg "range" = none
  m_tuple : mg "tuple" = none
  m_min : mg "min" = none
  m_isinstance : mg "isinstance" = none
  m_bool : mg "bool" = none
  m_int : mg "int" = none
  m_list : mg "list" = none
theorem top_mk {K : PySem.W.Frag} {h : Heap} {mg : Str → Option Value} (X : K.In h) (G : h.Ns mainGlobals mg)
    {f0 : Addr} {od0 an0 : Option Addr} {sl0 : Array (Option Value)} {oc0 kV0 dc0 pm0 cd0 ct0 : Value}
    {f1 : Addr} {od1 an1 : Option Addr} {sl1 : Array (Option Value)} {oc1 kV1 dc1 pm1 cd1 ct1 : Value}
    {f2 : Addr} {od2 an2 : Option Addr} {sl2 : Array (Option Value)} {oc2 kV2 dc2 pm2 cd2 ct2 : Value}
    {f3 : Addr} {od3 an3 : Option Addr} {sl3 : Array (Option Value)} {oc3 kV3 dc3 pm3 cd3 ct3 : Value}
    {f4 : Addr} {od4 an4 : Option Addr} {sl4 : Array (Option Value)} {oc4 kV4 dc4 pm4 cd4 ct4 : Value}
    {f5 : Addr} {od5 an5 : Option Addr} {sl5 : Array (Option Value)} {oc5 kV5 dc5 pm5 cd5 ct5 : Value}
    {f6 : Addr} {od6 an6 : Option Addr} {sl6 : Array (Option Value)} {oc6 kV6 dc6 pm6 cd6 ct6 : Value}
    {f7 : Addr} {od7 an7 : Option Addr} {sl7 : Array (Option Value)} {oc7 kV7 dc7 pm7 cd7 ct7 : Value}
    {f8 : Addr} {od8 an8 : Option Addr} {sl8 : Array (Option Value)} {oc8 kV8 dc8 pm8 cd8 ct8 : Value}
    {f9 : Addr} {od9 an9 : Option Addr} {sl9 : Array (Option Value)} {oc9 kV9 dc9 pm9 cd9 ct9 : Value}
    {f10 : Addr} {od10 an10 : Option Addr} {sl10 : Array (Option Value)} {oc10 kV10 dc10 pm10 cd10 ct10 : Value}
    {f11 : Addr} {od11 an11 : Option Addr} {sl11 : Array (Option Value)} {oc11 kV11 dc11 pm11 cd11 ct11 : Value}
    {f12 : Addr} {od12 an12 : Option Addr} {sl12 : Array (Option Value)} {oc12 kV12 dc12 pm12 cd12 ct12 : Value}
    {f13 : Addr} {od13 an13 : Option Addr} {sl13 : Array (Option Value)} {oc13 kV13 dc13 pm13 cd13 ct13 : Value}
    {f14 : Addr} {od14 an14 : Option Addr} {sl14 : Array (Option Value)} {oc14 kV14 dc14 pm14 cd14 ct14 : Value}
    {f15 : Addr} {od15 an15 : Option Addr} {sl15 : Array (Option Value)} {oc15 kV15 dc15 pm15 cd15 ct15 : Value}
    {f16 : Addr} {od16 an16 : Option Addr} {sl16 : Array (Option Value)} {oc16 kV16 dc16 pm16 cd16 ct16 : Value}
    {f17 : Addr} {od17 an17 : Option Addr} {sl17 : Array (Option Value)} {oc17 kV17 dc17 pm17 cd17 ct17 : Value}
    {f18 : Addr} {od18 an18 : Option Addr} {sl18 : Array (Option Value)} {oc18 kV18 dc18 pm18 cd18 ct18 : Value}
    (a0 : PySem.W.nsIn K mainGlobals "_law_divisor" = some (some (.ref f0))) (l0 : K.lookup f0 = some ⟨oc0, od0, .func (PySem.W.fnOf "_law_divisor" "_law_divisor" (defArgs s__law_divisor) (defBody s__law_divisor) (defScope s__law_divisor) .none kV0 dc0 pm0 an0 cd0 ct0), sl0⟩) (c0 : PySem.W.codeIn K cd0 "_law_divisor" = true) (k0 : PySem.W.keepIn K (.ref f0) = true)
    (a1 : PySem.W.nsIn K mainGlobals "_law_lowest" = some (some (.ref f1))) (l1 : K.lookup f1 = some ⟨oc1, od1, .func (PySem.W.fnOf "_law_lowest" "_law_lowest" (defArgs s__law_lowest) (defBody s__law_lowest) (defScope s__law_lowest) .none kV1 dc1 pm1 an1 cd1 ct1), sl1⟩) (c1 : PySem.W.codeIn K cd1 "_law_lowest" = true) (k1 : PySem.W.keepIn K (.ref f1) = true)
    (a2 : PySem.W.nsIn K mainGlobals "_law_at" = some (some (.ref f2))) (l2 : K.lookup f2 = some ⟨oc2, od2, .func (PySem.W.fnOf "_law_at" "_law_at" (defArgs s__law_at) (defBody s__law_at) (defScope s__law_at) .none kV2 dc2 pm2 an2 cd2 ct2), sl2⟩) (c2 : PySem.W.codeIn K cd2 "_law_at" = true) (k2 : PySem.W.keepIn K (.ref f2) = true)
    (a3 : PySem.W.nsIn K mainGlobals "_law_bands" = some (some (.ref f3))) (l3 : K.lookup f3 = some ⟨oc3, od3, .func (PySem.W.fnOf "_law_bands" "_law_bands" (defArgs s__law_bands) (defBody s__law_bands) (defScope s__law_bands) .none kV3 dc3 pm3 an3 cd3 ct3), sl3⟩) (c3 : PySem.W.codeIn K cd3 "_law_bands" = true) (k3 : PySem.W.keepIn K (.ref f3) = true)
    (a4 : PySem.W.nsIn K mainGlobals "_law_cell_at" = some (some (.ref f4))) (l4 : K.lookup f4 = some ⟨oc4, od4, .func (PySem.W.fnOf "_law_cell_at" "_law_cell_at" (defArgs s__law_cell_at) (defBody s__law_cell_at) (defScope s__law_cell_at) .none kV4 dc4 pm4 an4 cd4 ct4), sl4⟩) (c4 : PySem.W.codeIn K cd4 "_law_cell_at" = true) (k4 : PySem.W.keepIn K (.ref f4) = true)
    (a5 : PySem.W.nsIn K mainGlobals "_law_mixed" = some (some (.ref f5))) (l5 : K.lookup f5 = some ⟨oc5, od5, .func (PySem.W.fnOf "_law_mixed" "_law_mixed" (defArgs s__law_mixed) (defBody s__law_mixed) (defScope s__law_mixed) .none kV5 dc5 pm5 an5 cd5 ct5), sl5⟩) (c5 : PySem.W.codeIn K cd5 "_law_mixed" = true) (k5 : PySem.W.keepIn K (.ref f5) = true)
    (a6 : PySem.W.nsIn K mainGlobals "_law_heights" = some (some (.ref f6))) (l6 : K.lookup f6 = some ⟨oc6, od6, .func (PySem.W.fnOf "_law_heights" "_law_heights" (defArgs s__law_heights) (defBody s__law_heights) (defScope s__law_heights) .none kV6 dc6 pm6 an6 cd6 ct6), sl6⟩) (c6 : PySem.W.codeIn K cd6 "_law_heights" = true) (k6 : PySem.W.keepIn K (.ref f6) = true)
    (a7 : PySem.W.nsIn K mainGlobals "_law_threads" = some (some (.ref f7))) (l7 : K.lookup f7 = some ⟨oc7, od7, .func (PySem.W.fnOf "_law_threads" "_law_threads" (defArgs s__law_threads) (defBody s__law_threads) (defScope s__law_threads) .none kV7 dc7 pm7 an7 cd7 ct7), sl7⟩) (c7 : PySem.W.codeIn K cd7 "_law_threads" = true) (k7 : PySem.W.keepIn K (.ref f7) = true)
    (a8 : PySem.W.nsIn K mainGlobals "_law_curves" = some (some (.ref f8))) (l8 : K.lookup f8 = some ⟨oc8, od8, .func (PySem.W.fnOf "_law_curves" "_law_curves" (defArgs s__law_curves) (defBody s__law_curves) (defScope s__law_curves) .none kV8 dc8 pm8 an8 cd8 ct8), sl8⟩) (c8 : PySem.W.codeIn K cd8 "_law_curves" = true) (k8 : PySem.W.keepIn K (.ref f8) = true)
    (a9 : PySem.W.nsIn K mainGlobals "_law_whole" = some (some (.ref f9))) (l9 : K.lookup f9 = some ⟨oc9, od9, .func (PySem.W.fnOf "_law_whole" "_law_whole" (defArgs s__law_whole) (defBody s__law_whole) (defScope s__law_whole) .none kV9 dc9 pm9 an9 cd9 ct9), sl9⟩) (c9 : PySem.W.codeIn K cd9 "_law_whole" = true) (k9 : PySem.W.keepIn K (.ref f9) = true)
    (a10 : PySem.W.nsIn K mainGlobals "shared_divisor" = some (some (.ref f10))) (l10 : K.lookup f10 = some ⟨oc10, od10, .func (PySem.W.fnOf "shared_divisor" "shared_divisor" (defArgs s_shared_divisor) (defBody s_shared_divisor) (defScope s_shared_divisor) .none kV10 dc10 pm10 an10 cd10 ct10), sl10⟩) (c10 : PySem.W.codeIn K cd10 "shared_divisor" = true) (k10 : PySem.W.keepIn K (.ref f10) = true)
    (a11 : PySem.W.nsIn K mainGlobals "ratio" = some (some (.ref f11))) (l11 : K.lookup f11 = some ⟨oc11, od11, .func (PySem.W.fnOf "ratio" "ratio" (defArgs s_ratio) (defBody s_ratio) (defScope s_ratio) .none kV11 dc11 pm11 an11 cd11 ct11), sl11⟩) (c11 : PySem.W.codeIn K cd11 "ratio" = true) (k11 : PySem.W.keepIn K (.ref f11) = true)
    (a12 : PySem.W.nsIn K mainGlobals "minus" = some (some (.ref f12))) (l12 : K.lookup f12 = some ⟨oc12, od12, .func (PySem.W.fnOf "minus" "minus" (defArgs s_minus) (defBody s_minus) (defScope s_minus) .none kV12 dc12 pm12 an12 cd12 ct12), sl12⟩) (c12 : PySem.W.codeIn K cd12 "minus" = true) (k12 : PySem.W.keepIn K (.ref f12) = true)
    (a13 : PySem.W.nsIn K mainGlobals "left_height" = some (some (.ref f13))) (l13 : K.lookup f13 = some ⟨oc13, od13, .func (PySem.W.fnOf "left_height" "left_height" (defArgs s_left_height) (defBody s_left_height) (defScope s_left_height) .none kV13 dc13 pm13 an13 cd13 ct13), sl13⟩) (c13 : PySem.W.codeIn K cd13 "left_height" = true) (k13 : PySem.W.keepIn K (.ref f13) = true)
    (a14 : PySem.W.nsIn K mainGlobals "plus" = some (some (.ref f14))) (l14 : K.lookup f14 = some ⟨oc14, od14, .func (PySem.W.fnOf "plus" "plus" (defArgs s_plus) (defBody s_plus) (defScope s_plus) .none kV14 dc14 pm14 an14 cd14 ct14), sl14⟩) (c14 : PySem.W.codeIn K cd14 "plus" = true) (k14 : PySem.W.keepIn K (.ref f14) = true)
    (a15 : PySem.W.nsIn K mainGlobals "right_height" = some (some (.ref f15))) (l15 : K.lookup f15 = some ⟨oc15, od15, .func (PySem.W.fnOf "right_height" "right_height" (defArgs s_right_height) (defBody s_right_height) (defScope s_right_height) .none kV15 dc15 pm15 an15 cd15 ct15), sl15⟩) (c15 : PySem.W.codeIn K cd15 "right_height" = true) (k15 : PySem.W.keepIn K (.ref f15) = true)
    (a16 : PySem.W.nsIn K mainGlobals "times" = some (some (.ref f16))) (l16 : K.lookup f16 = some ⟨oc16, od16, .func (PySem.W.fnOf "times" "times" (defArgs s_times) (defBody s_times) (defScope s_times) .none kV16 dc16 pm16 an16 cd16 ct16), sl16⟩) (c16 : PySem.W.codeIn K cd16 "times" = true) (k16 : PySem.W.keepIn K (.ref f16) = true)
    (a17 : PySem.W.nsIn K mainGlobals "area" = some (some (.ref f17))) (l17 : K.lookup f17 = some ⟨oc17, od17, .func (PySem.W.fnOf "area" "area" (defArgs s_area) (defBody s_area) (defScope s_area) .none kV17 dc17 pm17 an17 cd17 ct17), sl17⟩) (c17 : PySem.W.codeIn K cd17 "area" = true) (k17 : PySem.W.keepIn K (.ref f17) = true)
    (a18 : PySem.W.nsIn K mainGlobals "law" = some (some (.ref f18))) (l18 : K.lookup f18 = some ⟨oc18, od18, .func (PySem.W.fnOf "law" "law" (defArgs s_law) (defBody s_law) (defScope s_law) .none kV18 dc18 pm18 an18 cd18 ct18), sl18⟩) (c18 : PySem.W.codeIn K cd18 "law" = true) (k18 : PySem.W.keepIn K (.ref f18) = true)
    (z0 : PySem.W.nsIn K mainGlobals "abs" = some none)
    (z1 : PySem.W.nsIn K mainGlobals "len" = some none)
    (z2 : PySem.W.nsIn K mainGlobals "range" = some none)
    (z3 : PySem.W.nsIn K mainGlobals "tuple" = some none)
    (z4 : PySem.W.nsIn K mainGlobals "min" = some none)
    (z5 : PySem.W.nsIn K mainGlobals "isinstance" = some none)
    (z6 : PySem.W.nsIn K mainGlobals "bool" = some none)
    (z7 : PySem.W.nsIn K mainGlobals "int" = some none)
    (z8 : PySem.W.nsIn K mainGlobals "list" = some none) : TopF K mg :=
  ⟨⟨_, _, fun_mk (st := s__law_divisor) l0 c0 k0, PySem.W.mg_of X G a0, fun us hl => match us, hl with | [_, _], _ => rfl⟩,
   ⟨_, _, fun_mk (st := s__law_lowest) l1 c1 k1, PySem.W.mg_of X G a1, fun us hl => match us, hl with | [_, _], _ => rfl⟩,
   ⟨_, _, fun_mk (st := s__law_at) l2 c2 k2, PySem.W.mg_of X G a2, fun us hl => match us, hl with | [_, _, _, _, _], _ => rfl⟩,
   ⟨_, _, fun_mk (st := s__law_bands) l3 c3 k3, PySem.W.mg_of X G a3, fun us hl => match us, hl with | [_, _], _ => rfl⟩,
   ⟨_, _, fun_mk (st := s__law_cell_at) l4 c4 k4, PySem.W.mg_of X G a4, fun us hl => match us, hl with | [_, _], _ => rfl⟩,
   ⟨_, _, fun_mk (st := s__law_mixed) l5 c5 k5, PySem.W.mg_of X G a5, fun us hl => match us, hl with | [_, _], _ => rfl⟩,
   ⟨_, _, fun_mk (st := s__law_heights) l6 c6 k6, PySem.W.mg_of X G a6, fun us hl => match us, hl with | [_, _, _], _ => rfl⟩,
   ⟨_, _, fun_mk (st := s__law_threads) l7 c7 k7, PySem.W.mg_of X G a7, fun us hl => match us, hl with | [_], _ => rfl⟩,
   ⟨_, _, fun_mk (st := s__law_curves) l8 c8 k8, PySem.W.mg_of X G a8, fun us hl => match us, hl with | [_], _ => rfl⟩,
   ⟨_, _, fun_mk (st := s__law_whole) l9 c9 k9, PySem.W.mg_of X G a9, fun us hl => match us, hl with | [_], _ => rfl⟩,
   ⟨_, _, fun_mk (st := s_shared_divisor) l10 c10 k10, PySem.W.mg_of X G a10, fun us hl => match us, hl with | [_, _], _ => rfl⟩,
   ⟨_, _, fun_mk (st := s_ratio) l11 c11 k11, PySem.W.mg_of X G a11, fun us hl => match us, hl with | [_, _], _ => rfl⟩,
   ⟨_, _, fun_mk (st := s_minus) l12 c12 k12, PySem.W.mg_of X G a12, fun us hl => match us, hl with | [_, _], _ => rfl⟩,
   ⟨_, _, fun_mk (st := s_left_height) l13 c13 k13, PySem.W.mg_of X G a13, fun us hl => match us, hl with | [_], _ => rfl⟩,
   ⟨_, _, fun_mk (st := s_plus) l14 c14 k14, PySem.W.mg_of X G a14, fun us hl => match us, hl with | [_, _], _ => rfl⟩,
   ⟨_, _, fun_mk (st := s_right_height) l15 c15 k15, PySem.W.mg_of X G a15, fun us hl => match us, hl with | [_], _ => rfl⟩,
   ⟨_, _, fun_mk (st := s_times) l16 c16 k16, PySem.W.mg_of X G a16, fun us hl => match us, hl with | [_, _], _ => rfl⟩,
   ⟨_, _, fun_mk (st := s_area) l17 c17 k17, PySem.W.mg_of X G a17, fun us hl => match us, hl with | [_], _ => rfl⟩,
   ⟨_, _, fun_mk (st := s_law) l18 c18 k18, PySem.W.mg_of X G a18, fun us hl => match us, hl with | [_], _ => rfl⟩,
   PySem.W.mg_none_of X G z0,
   PySem.W.mg_none_of X G z1,
   PySem.W.mg_none_of X G z2,
   PySem.W.mg_none_of X G z3,
   PySem.W.mg_none_of X G z4,
   PySem.W.mg_none_of X G z5,
   PySem.W.mg_none_of X G z6,
   PySem.W.mg_none_of X G z7,
   PySem.W.mg_none_of X G z8⟩
theorem law_fn {P : Program} {w : World} {K : PySem.W.Frag} {mg : Str → Option Value} {base : Heap} {f : Addr} {fd : FuncData} (T : TopF K mg) (Fu : Fun K "law" "law" s_law f fd) : FnOk P w K mg base CX0 6 f fd ["_law_script"] (spD K (FLaw 63)) := by
  have C__law_divisor := ok__law_divisor (P := P) (w := w) (base := base) T.d__law_divisor T.m_abs (F := F_gcd) len_gcd pure_law_divisor
  have C__law_lowest := ok__law_lowest (P := P) (w := w) (base := base) T.d__law_lowest C__law_divisor (F := F_low) len_low pure_law_lowest
  have C__law_at := ok__law_at (P := P) (w := w) (base := base) T.d__law_at C__law_lowest (F := F_at) len_at pure_law_at
  have C__law_bands := ok__law_bands (P := P) (w := w) (base := base) T.d__law_bands C__law_at T.m_len T.m_range T.m_tuple (F := F_bands) len_bands pure_law_bands
  have C__law_cell_at := ok__law_cell_at (P := P) (w := w) (base := base) T.d__law_cell_at T.m_len (F := F_cell) len_cell pure_law_cell_at
  have C__law_mixed := ok__law_mixed (P := P) (w := w) (base := base) T.d__law_mixed T.m_len T.m_min (F := F_mixed) len_mixed pure_law_mixed
  have C__law_heights := ok__law_heights (P := P) (w := w) (base := base) T.d__law_heights C__law_cell_at C__law_mixed T.m_range (F := F_heights) len_heights pure_law_heights
  have C__law_threads := ok__law_threads (P := P) (w := w) (base := base) T.d__law_threads C__law_cell_at C__law_mixed T.m_range (F := F_threads) len_threads pure_law_threads
  have C__law_curves := ok__law_curves (P := P) (w := w) (base := base) T.d__law_curves C__law_cell_at C__law_heights C__law_threads T.m_len T.m_range (F := F_curves) len_curves pure_law_curves
  have C__law_whole := ok__law_whole (P := P) (w := w) (base := base) T.d__law_whole T.m_isinstance T.m_bool T.m_int (F := F_whole) len_whole pure_law_whole
  have C_shared_divisor := ok_shared_divisor (P := P) (w := w) (base := base) T.d_shared_divisor T.m_abs (F := F_gcd) len_gcd pure_shared_divisor
  have C_ratio := ok_ratio (P := P) (w := w) (base := base) T.d_ratio C_shared_divisor (F := F_ratio) len_ratio pure_ratio
  have C_minus := ok_minus (P := P) (w := w) (base := base) T.d_minus C_ratio (F := F_minus) len_two' pure_minus
  have C_left_height := ok_left_height (P := P) (w := w) (base := base) T.d_left_height C_minus (F := F_lh) len_lh pure_left_height
  have C_plus := ok_plus (P := P) (w := w) (base := base) T.d_plus C_ratio (F := F_plus) len_two' pure_plus
  have C_right_height := ok_right_height (P := P) (w := w) (base := base) T.d_right_height C_minus (F := F_rh) len_rh pure_right_height
  have C_times := ok_times (P := P) (w := w) (base := base) T.d_times C_ratio (F := F_times) len_two' pure_times
  have C_area := ok_area (P := P) (w := w) (base := base) T.d_area C_left_height C_plus C_right_height C_times (F := F_area) len_area pure_area
  exact fo_law C__law_bands C__law_curves C__law_lowest C__law_whole C_area T.m_len T.m_isinstance T.m_tuple T.m_range T.m_list (F := FLaw 63) Fu len_law pure_law
end K21
end L2.R2
open PySem PySem.W PyProof.Rows
set_option maxRecDepth 100000 in
set_option maxHeartbeats 0 in
theorem PySem.Challenge.cw_recut_k21_area_holds : PySem.Challenge.rw_recut_k21_area.Holds := by
  w_on; o_law; k_head; (case hw => w_witness2)
  k_fill
  refine L2.R2.walk_law (l := PySem.Challenge.rw_recut_k21_area) (k := 6) (x := "_law_script") rfl rfl ⟨rfl, by decide, by decide⟩ (fun w h Y => PySem.W.kIn_of Y) rfl ?F
  case F =>
    intro w mg h KX G
    have T : L2.R2.K21.TopF (L2.KOf KX) mg := by
      dsimp only [L2.KOf]
      refine' L2.R2.K21.top_mk KX G ?a0 ?l0 ?c0 ?k0 ?a1 ?l1 ?c1 ?k1 ?a2 ?l2 ?c2 ?k2 ?a3 ?l3 ?c3 ?k3 ?a4 ?l4 ?c4 ?k4 ?a5 ?l5 ?c5 ?k5 ?a6 ?l6 ?c6 ?k6 ?a7 ?l7 ?c7 ?k7 ?a8 ?l8 ?c8 ?k8 ?a9 ?l9 ?c9 ?k9 ?a10 ?l10 ?c10 ?k10 ?a11 ?l11 ?c11 ?k11 ?a12 ?l12 ?c12 ?k12 ?a13 ?l13 ?c13 ?k13 ?a14 ?l14 ?c14 ?k14 ?a15 ?l15 ?c15 ?k15 ?a16 ?l16 ?c16 ?k16 ?a17 ?l17 ?c17 ?k17 ?a18 ?l18 ?c18 ?k18 ?z0 ?z1 ?z2 ?z3 ?z4 ?z5 ?z6 ?z7 ?z8
      (case a0 => k_is); (case l0 => k_is); (case c0 => k_is); (case k0 => k_is)
      (case a1 => k_is); (case l1 => k_is); (case c1 => k_is); (case k1 => k_is)
      (case a2 => k_is); (case l2 => k_is); (case c2 => k_is); (case k2 => k_is)
      (case a3 => k_is); (case l3 => k_is); (case c3 => k_is); (case k3 => k_is)
      (case a4 => k_is); (case l4 => k_is); (case c4 => k_is); (case k4 => k_is)
      (case a5 => k_is); (case l5 => k_is); (case c5 => k_is); (case k5 => k_is)
      (case a6 => k_is); (case l6 => k_is); (case c6 => k_is); (case k6 => k_is)
      (case a7 => k_is); (case l7 => k_is); (case c7 => k_is); (case k7 => k_is)
      (case a8 => k_is); (case l8 => k_is); (case c8 => k_is); (case k8 => k_is)
      (case a9 => k_is); (case l9 => k_is); (case c9 => k_is); (case k9 => k_is)
      (case a10 => k_is); (case l10 => k_is); (case c10 => k_is); (case k10 => k_is)
      (case a11 => k_is); (case l11 => k_is); (case c11 => k_is); (case k11 => k_is)
      (case a12 => k_is); (case l12 => k_is); (case c12 => k_is); (case k12 => k_is)
      (case a13 => k_is); (case l13 => k_is); (case c13 => k_is); (case k13 => k_is)
      (case a14 => k_is); (case l14 => k_is); (case c14 => k_is); (case k14 => k_is)
      (case a15 => k_is); (case l15 => k_is); (case c15 => k_is); (case k15 => k_is)
      (case a16 => k_is); (case l16 => k_is); (case c16 => k_is); (case k16 => k_is)
      (case a17 => k_is); (case l17 => k_is); (case c17 => k_is); (case k17 => k_is)
      (case a18 => k_is); (case l18 => k_is); (case c18 => k_is); (case k18 => k_is)
      (case z0 => k_is)
      (case z1 => k_is)
      (case z2 => k_is)
      (case z3 => k_is)
      (case z4 => k_is)
      (case z5 => k_is)
      (case z6 => k_is)
      (case z7 => k_is)
      (case z8 => k_is)
    exact T.d_law.okL fun base f fd Fu => L2.R2.K21.law_fn T Fu
