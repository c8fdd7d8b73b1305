import PyProof.Rows.All
import Wide.All
import OpenK.AllK
import Wide.FinOn
import Lean
import PyProof.EqAt
import PyProof.EqKinds
import PyProof.TupleCall
import PySem.Challenge.RW_recut_k16_a_piece_pushed
-- CHANGE: your row's module here, as the last of these rows
set_option Elab.async false
set_option linter.all false
set_option maxRecDepth 100000
/-! THE HAND LAYER, for ints, bools, texts, own classes, LISTS and tuples (index, slices, in, append, pop ..), calls, loops. Paste it whole ahead of your own text; what your proof does not reach may be deleted. -/
namespace L2
open PySem PySem.Spec PyProof.Rows

/-- a key: an int or a str -/
abbrev Key := Sum Int Str
def keyIs : Key → Value → Bool
  | .inl k, v => Value.isInt k v
  | .inr x, v => Value.isStrOf x v
def keyH (w : World) : Key → Int
  | .inl k => hashInt k
  | .inr x => hashStr w x
theorem keyIs_shape : ∀ {k : Key} {v : Value}, keyIs k v = true → (∃ i t, k = Sum.inl i ∧ v = Value.int i t) ∨ (∃ x t, k = Sum.inr x ∧ v = Value.str x t)
  | .inl i, v, h => by
    obtain ⟨t, e⟩ := Value.isInt_shape (k := i) (v := v) h
    exact .inl ⟨i, t, rfl, e⟩
  | .inr x, v, h => by
    obtain ⟨t, e⟩ := Value.isStrOf_shape (x := x) (v := v) h
    exact .inr ⟨x, t, rfl, e⟩
theorem key_ll (a b : Int) : decide ((Sum.inl a : Key) = Sum.inl b) = (a == b) := by
  by_cases e : a = b
  · subst e; simp
  · have h : ¬ (Sum.inl a : Key) = Sum.inl b := fun q => e (Sum.inl.inj q)
    rw [decide_eq_false h]
    exact (beq_eq_false_iff_ne.mpr e).symm
theorem key_rr (a b : Str) : decide ((Sum.inr a : Key) = Sum.inr b) = decide (a = b) := by
  by_cases e : a = b
  · subst e; simp
  · have h : ¬ (Sum.inr a : Key) = Sum.inr b := fun q => e (Sum.inr.inj q)
    rw [decide_eq_false h, decide_eq_false e]
theorem key_lr (a : Int) (b : Str) : decide ((Sum.inl a : Key) = Sum.inr b) = false := decide_eq_false (fun q => nomatch q)
theorem key_rl (a : Str) (b : Int) : decide ((Sum.inr a : Key) = Sum.inl b) = false := decide_eq_false (fun q => nomatch q)

def mixKind (prog : Program) (w : World) : PySem.KeyKind prog w Key where
  is := keyIs
  hash := keyH w
  inj := fun v a b ha hb => by
    rcases keyIs_shape ha with ⟨i, t, rfl, rfl⟩ | ⟨x, t, rfl, rfl⟩
    · rcases keyIs_shape hb with ⟨j, u, rfl, e⟩ | ⟨y, u, rfl, e⟩
      · injection e with e1 _; rw [e1]
      · exact nomatch e
    · rcases keyIs_shape hb with ⟨j, u, rfl, e⟩ | ⟨y, u, rfl, e⟩
      · exact nomatch e
      · injection e with e1 _; rw [e1]
  byValue := fun k v h => by
    rcases keyIs_shape h with ⟨i, t, rfl, rfl⟩ | ⟨x, t, rfl, rfl⟩ <;> rfl
  pyHash := fun hv h => by
    rcases keyIs_shape hv with ⟨i, t, rfl, rfl⟩ | ⟨x, t, rfl, rfl⟩
    · exact wpAny_pyHash_int h
    · exact wpAny_pyHash_str h
  eqBool := fun hu hv h => by
    rcases keyIs_shape hu with ⟨i, t, rfl, rfl⟩ | ⟨x, t, rfl, rfl⟩
    · rcases keyIs_shape hv with ⟨j, u, rfl, rfl⟩ | ⟨y, u, rfl, rfl⟩
      · rw [key_ll] at h; exact wpAny_eqBool_int h
      · rw [key_lr] at h; exact SeqAt.EqAt.int_str i t y u _ _ _ _ h
    · rcases keyIs_shape hv with ⟨j, u, rfl, rfl⟩ | ⟨y, u, rfl, rfl⟩
      · rw [key_rl] at h; exact SeqAt.EqAt.str_int x t j u _ _ _ _ h
      · rw [key_rr] at h; exact wpAny_eqBool_str h
  «strs» := fun k x t v h => by
    rcases keyIs_shape h with ⟨i, u, rfl, e⟩ | ⟨y, u, rfl, e⟩
    · exact nomatch e
    · injection e with e1 _
      subst e1
      cases v <;> rfl

end L2

namespace L2
open PySem PySem.Spec PyProof.Rows

/-- a value, without the heap -/
inductive V where
  | non | bl (b : Bool) | int (i : Int) | str (x : Str) | byt (b : Array UInt8) | flt (b : UInt64) | ref (a : Addr) | ty (n : String)
  deriving DecidableEq

def RelV : V → Value → Prop
  | .non, u => u = Value.none
  | .bl b, u => u = Value.bool b
  | .int i, u => ∃ t, u = Value.int i t
  | .str x, u => ∃ t, u = Value.str x t
  | .byt b, u => ∃ t, u = Value.bytes b t
  | .flt b, u => ∃ t, u = Value.float b t
  | .ref a, u => u = Value.ref a
  | .ty n, u => u = Value.type n

abbrev Vals : List V → List Value → Prop := Paired RelV
theorem Vals.length {xs : List V} {us : List Value} (r : Vals xs us) : xs.length = us.length := Paired.length r
theorem Vals.get : ∀ {xs : List V} {us : List Value} {i : Nat} {x : V}, Vals xs us → xs[i]? = some x → ∃ u, us[i]? = some u ∧ RelV x u
  | _, _, _, _, .nil, e => by simp at e
  | _, _, 0, _, .cons r _, e => by simp at e; subst e; exact ⟨_, rfl, r⟩
  | _, _, i + 1, x, .cons _ t, e => by
    obtain ⟨u, h1, h2⟩ := Vals.get (i := i) (x := x) t (by simpa using e)
    exact ⟨u, by simpa using h1, h2⟩
theorem Vals.set {x : V} {u : Value} (r : RelV x u) : ∀ {xs : List V} {us : List Value} (i : Nat), Vals xs us → Vals (xs.set i x) (us.set i u)
  | _, _, _, .nil => .nil
  | _, _, 0, .cons _ t => .cons r t
  | _, _, i + 1, .cons q t => .cons q (Vals.set r i t)
theorem Vals.append : ∀ {xs ys : List V} {us ws : List Value}, Vals xs us → Vals ys ws → Vals (xs ++ ys) (us ++ ws)
  | _, _, _, _, .nil, s => s
  | _, _, _, _, .cons r t, s => .cons r (Vals.append t s)
theorem Vals.take : ∀ {xs : List V} {us : List Value} (n : Nat), Vals xs us → Vals (xs.take n) (us.take n)
  | _, _, 0, _ => .nil
  | _, _, _ + 1, .nil => .nil
  | _, _, n + 1, .cons r t => .cons r (Vals.take n t)
theorem Vals.drop : ∀ {xs : List V} {us : List Value} (n : Nat), Vals xs us → Vals (xs.drop n) (us.drop n)
  | _, _, 0, r => r
  | _, _, _ + 1, .nil => .nil
  | _, _, n + 1, .cons _ t => Vals.drop n t
def RelO : Option V → Option Value → Prop
  | some v, some u => RelV v u
  | none, none => True
  | _, _ => False
def KV {κ : Type} : List (κ × V) → List (κ × Value) → Prop := Paired fun (p : κ × V) (q : κ × Value) => p.1 = q.1 ∧ RelV p.2 q.2

/-- a key of a dict (00_mix): an int or a text -/
def kV : Key → V
  | .inl i => .int i
  | .inr x => .str x

/-- what stands at a tracked address -/
inductive HO where
  /-- a list -/
  | lst (xs : List V)
  /-- a tuple (never changes) -/
  | tup (xs : List V)
  /-- a dict whose keys are ints and texts; one whose keys are tuples of ints and texts (the empty one is both) -/
  | dK (kvs : List (Key × V)) | dT (kvs : List (List Key × V))
  /-- a set of ints: its members, its size -/
  | set (S : Int → Bool) (n : Nat)
  /-- an instance of the class at C, its dict at dx, its attributes -/
  | ins (C dx : Addr) (fs : List (Str × V))
  /-- the dict of the instance at x -/
  | own (x : Addr)
  /-- the dict of an exception -/
  | xd (fs : List (Str × V))
  /-- a bound method, f of x -/
  | met (f x : Addr)
  /-- a range object lo, lo + 1, .. below hi -/
  | rng (lo hi : Int)
  /-- a thing that is known to the object (the script; a dict while a loop walks it): read, never written while it is so -/
  | frz (o : Obj) (u : HO)
  /-- a code object's table -/
  | tbl (ps : Array Value)
  /-- any other thing, by what is true of its one object (a def of one's own: SetO a S n := HO.ext fun h => ..) -/
  | ext (φ : Heap → Prop)

abbrev Hp := Addr → Option HO
def upd (H : Hp) (a : Addr) (o : HO) : Hp := fun b => if b = a then some o else H b
theorem upd_same {H : Hp} {a : Addr} {o : HO} : upd H a o a = some o := by unfold upd; rw [if_pos rfl]
theorem upd_ne {H : Hp} {a b : Addr} {o : HO} (h : b ≠ a) : upd H a o b = H b := by unfold upd; rw [if_neg h]
/-- two objects of different content stand apart -/
theorem ne_of {H : Hp} {a b : Addr} {o u : HO} (h : H a = some o) (h' : H b = some u) (d : o ≠ u) : a ≠ b := by
  intro e; subst e; rw [h] at h'; exact d (Option.some.inj h')
theorem ne_of_none {H : Hp} {a b : Addr} {o : HO} (h : H a = some o) (h' : H b = none) : a ≠ b := by
  intro e; subst e; rw [h] at h'; cases h'

section
variable (P : Program) (w : World)
def ObjOk (H : Hp) (h : Heap) (a : Addr) : HO → Prop
  | .lst xs => xs.length ≤ sizeLine ∧ ∃ (its : List Value) (n : Nat), Vals xs its ∧ h.get? a = some { cls := .type "list", data := .seq its.toArray n }
  | .tup xs => xs.length ≤ sizeLine ∧ ∃ its : List Value, Vals xs its ∧ IsTup h a its.toArray
  | .dK kvs => kvs.length ≤ sizeLine ∧ (a == sysModules) = false ∧ ∃ vs, KV kvs vs ∧ h.DictOf (mixKind P w) a vs
  | .dT kvs => kvs.length ≤ sizeLine ∧ (a == sysModules) = false ∧ ∃ xs : List (List Key × Addr × Value),
      Paired (fun (p : List Key × V) (q : List Key × Addr × Value) => p.1 = q.1 ∧ H q.2.1 = some (.tup (p.1.map kV)) ∧ RelV p.2 q.2.2) kvs xs ∧
      ∃ o es ep, h.get? a = some o ∧ o.ExactDict ∧ o.data = .dict es ep ∧ es.toList = xs.map (entryOfKey (tupleKind (mixKind P w))) ∧ (xs.map (·.1)).Nodup
  | .set S n => h.SetOf (intKind P w) a S n
  | .ins C dx fs => H dx = some (.own a) ∧ fs.length ≤ 1000 ∧ dx ≠ a ∧ h.get? a = some (PySem.W.instObj C dx) ∧
      ∃ mA, h.Ns1 dx mA ∧ (∀ f, RelO (fs.lookup f) (mA f)) ∧ PySem.Within mA (fs.map (·.1))
  | .own _ => ∃ o, h.get? a = some o
  | .xd fs => ∃ mA, h.Ns1 a mA ∧ ∀ f, RelO (fs.lookup f) (mA f)
  | .rng lo hi => ∃ t u v, h.get? a = some { cls := .type "range", data := .fields #[.int lo t, .int hi u, .int 1 v] }
  | .frz o u => h.get? a = some o ∧ ObjOk H h a u
  | .tbl ps => h.get? a = some { cls := .none, data := .fields ps }
  | .met f x => h.get? a = some (PySem.W.methodObj (.ref f) (.ref x))
  | .ext φ => φ h ∧ (∃ o, h.get? a = some o) ∧ ∀ h1 h2 : Heap, φ h1 → (∀ o, h1.get? a = some o → h2.get? a = some o) → φ h2
/-- the abstract heap is held -/
def HOk (H : Hp) (h : Heap) : Prop := ∀ a o, H a = some o → ObjOk P w H h a o
end

section
variable {P : Program} {w : World} {H H' : Hp} {h h' : Heap} {a : Addr} {o : HO}
theorem ObjOk.lt (x : ObjOk P w H h a o) : a < h.objs.size := by
  cases o with
  | lst xs => obtain ⟨_, _, _, _, e⟩ := x; exact Heap.lt_size e
  | tup xs => obtain ⟨_, _, _, p⟩ := x; exact p.lt
  | dK kvs => obtain ⟨_, _, _, _, o, _, _, e, _⟩ := x; exact Heap.lt_size e
  | dT kvs => obtain ⟨_, _, _, _, o, _, _, e, _⟩ := x; exact Heap.lt_size e
  | set S n => obtain ⟨o, _, _, _, e, _⟩ := x; exact Heap.lt_size e
  | ins C dx fs => obtain ⟨_, _, _, e, _⟩ := x; exact Heap.lt_size e
  | own y => obtain ⟨_, e⟩ := x; exact Heap.lt_size e
  | xd fs => obtain ⟨_, ⟨_, _, _, e, _⟩, _⟩ := x; exact Heap.lt_size e
  | rng lo hi => obtain ⟨_, _, _, e⟩ := x; exact Heap.lt_size e
  | frz ob u => obtain ⟨e, _⟩ := x; exact Heap.lt_size e
  | tbl ps => exact Heap.lt_size (show h.get? a = some _ from x)
  | met f y => exact Heap.lt_size (show h.get? a = some _ from x)
  | ext φ => obtain ⟨_, ⟨_, e⟩, _⟩ := x; exact Heap.lt_size e
theorem Paired.mapP {α β : Type} {F G : α → β → Prop} : ∀ {l₁ : List α} {l₂ : List β}, Paired F l₁ l₂ → (∀ a b, F a b → G a b) → Paired G l₁ l₂
  | _, _, .nil, _ => .nil
  | _, _, .cons r t, f => .cons (f _ _ r) (Paired.mapP t f)
/-- what an object's description leans on: its own object, its own dict, the tuples -/
theorem ObjOk.stay (x : ObjOk P w H h a o) (k : ∀ b u, (b = a ∨ H b = some (.own a)) → h.get? b = some u → h'.get? b = some u)
    (ho : ∀ b, H b = some (.own a) → H' b = some (.own a)) (ht : ∀ b xs, H b = some (.tup xs) → H' b = some (.tup xs)) : ObjOk P w H' h' a o := by
  induction o with
  | lst xs => obtain ⟨z, its, n, r, e⟩ := x; exact ⟨z, its, n, r, k _ _ (.inl rfl) e⟩
  | tup xs => obtain ⟨z, its, r, ob, e, c⟩ := x; exact ⟨z, its, r, ob, k _ _ (.inl rfl) e, c⟩
  | dK kvs => obtain ⟨z, y, vs, r, ob, es, ep, e, c⟩ := x; exact ⟨z, y, vs, r, ob, es, ep, k _ _ (.inl rfl) e, c⟩
  | dT kvs =>
    obtain ⟨z, y, xs, r, ob, es, ep, e, c⟩ := x
    exact ⟨z, y, xs, Paired.mapP r fun p q z => ⟨z.1, ht _ _ z.2.1, z.2.2⟩, ob, es, ep, k _ _ (.inl rfl) e, c⟩
  | set S n => obtain ⟨ob, es, ep, t, e, c⟩ := x; exact ⟨ob, es, ep, t, k _ _ (.inl rfl) e, c⟩
  | ins C dx fs =>
    obtain ⟨d, z, ne, e, mA, ⟨od, es, ep, e2, c⟩, r⟩ := x
    exact ⟨ho _ d, z, ne, k _ _ (.inl rfl) e, mA, ⟨od, es, ep, k _ _ (.inr d) e2, c⟩, r⟩
  | own y => obtain ⟨ob, e⟩ := x; exact ⟨ob, k _ _ (.inl rfl) e⟩
  | xd fs => obtain ⟨mA, ⟨od, es, ep, e, c⟩, r⟩ := x; exact ⟨mA, ⟨od, es, ep, k _ _ (.inl rfl) e, c⟩, r⟩
  | rng lo hi => obtain ⟨t, u, v, e⟩ := x; exact ⟨t, u, v, k _ _ (.inl rfl) e⟩
  | frz ob u ih => obtain ⟨e, q⟩ := x; exact ⟨k _ _ (.inl rfl) e, ih q⟩
  | tbl ps =>
    have e : h.get? a = some { cls := .none, data := .fields ps } := x
    show h'.get? a = some { cls := .none, data := .fields ps }
    exact k a _ (.inl rfl) e
  | met f y =>
    have e : h.get? a = some (PySem.W.methodObj (.ref f) (.ref y)) := x
    show h'.get? a = some (PySem.W.methodObj (.ref f) (.ref y))
    exact k a _ (.inl rfl) e
  | ext φ => obtain ⟨p, ⟨o, e⟩, st⟩ := x; exact ⟨st _ _ p fun o q => k _ _ (.inl rfl) q, ⟨o, k _ _ (.inl rfl) e⟩, st⟩
theorem HOk.lt (x : HOk P w H h) (e : H a = some o) : a < h.objs.size := (x a o e).lt
theorem HOk.fresh (x : HOk P w H h) (e : h.objs.size ≤ a) : H a = none := by
  cases q : H a with
  | none => rfl
  | some u => exact absurd (Nat.lt_of_lt_of_le (x.lt q) e) (Nat.lt_irrefl _)
/-- every object of the heap is kept -/
theorem HOk.kept (x : HOk P w H h) (k : ∀ b u, h.get? b = some u → h'.get? b = some u) : HOk P w H h' := fun a o e =>
  (x a o e).stay (fun b u _ q => k b u q) (fun _ q => q) fun _ _ q => q
/-- a new object is laid and tracked -/
theorem HOk.laid (x : HOk P w H h) (k : ∀ b u, h.get? b = some u → h'.get? b = some u) (hp : h.objs.size ≤ a) (new : ObjOk P w (upd H a o) h' a o) : HOk P w (upd H a o) h' := fun b u e => by
  have hn := x.fresh hp
  by_cases hb : b = a
  · subst hb; rw [upd_same] at e; cases e; exact new
  · rw [upd_ne hb] at e
    exact (x b u e).stay (fun c v _ q => k c v q) (fun c q => by rw [upd_ne (ne_of_none q hn)]; exact q) fun c xs q => by rw [upd_ne (ne_of_none q hn)]; exact q
end

/-- what may be read as u: it is u, or a known u -/
def Rd (H : Hp) (a : Addr) (u : HO) : Prop := H a = some u ∨ ∃ o, H a = some (.frz o u)
theorem Rd.of {H : Hp} {a : Addr} {u : HO} (h : H a = some u) : Rd H a u := .inl h
theorem Rd.ok {P : Program} {w : World} {H : Hp} {h : Heap} {a : Addr} {u : HO} (r : Rd H a u) (x : HOk P w H h) : ObjOk P w H h a u := by
  rcases r with r | ⟨o, r⟩
  · exact x a u r
  · obtain ⟨_, q⟩ := x a _ r
    exact q
/-- what may be written -/
def Mut : Option HO → Prop
  | some (.lst _) => True
  | some (.dK _) => True
  | some (.dT _) => True
  | some (.set _ _) => True
  | some (.ins _ _ _) => True
  | some (.ext _) => True
  | _ => False
section
variable {P : Program} {w : World} {H : Hp} {h h' : Heap} {x e : Addr} {o' : HO}
/-- the object at e is changed: x itself, or the dict of the instance x -/
theorem HOk.write (ok : HOk P w H h) (mu : Mut (H x)) (he : e = x ∨ H e = some (.own x)) (k : ∀ b u, b ≠ e → h.get? b = some u → h'.get? b = some u) (heo : ∃ u, h'.get? e = some u)
    (new : ObjOk P w (upd H x o') h' x o') : HOk P w (upd H x o') h' := fun b u q => by
  have nown : ∀ c y, H c = some (.own y) → c ≠ x := fun c y r z => by subst z; rw [r] at mu; exact mu
  have ntup : ∀ c xs, H c = some (.tup xs) → c ≠ x := fun c xs r z => by subst z; rw [r] at mu; exact mu
  by_cases hb : b = x
  · subst hb; rw [upd_same] at q; cases q; exact new
  · rw [upd_ne hb] at q
    by_cases hbe : b = e
    · have q' : H b = some (.own x) := by
        rcases he with z | z
        · exact absurd (hbe.trans z) hb
        · rw [hbe]; exact z
      rw [q] at q'; cases q'
      obtain ⟨v, hv⟩ := heo
      exact ⟨v, by rw [hbe]; exact hv⟩
    · refine (ok b u q).stay (fun c v hc r => k c v ?_ r) (fun c r => by rw [upd_ne (nown c b r)]; exact r) fun c xs r => by rw [upd_ne (ntup c xs r)]; exact r
      rcases hc with rfl | hc
      · exact hbe
      · rintro rfl
        rcases he with z | z
        · exact nown c b hc z
        · rw [hc] at z; cases z; exact hb rfl
end

/-! ### kept unless tracked; of the frames at fs (the callers') the slots may change (an exception that passes writes there); of the records at ex (iterators) nothing is said -/
structure Un (fs ex : List Addr) (H H' : Hp) (h h' : Heap) : Prop where
  keep : ∀ b o, h.get? b = some o → H b = none → b ∉ fs → b ∉ ex → h'.get? b = some o
  slot : ∀ b o, h.get? b = some o → H b = none → b ∈ fs → b ∉ ex → ∃ sl, h'.get? b = some { o with slots := sl }
  free : ∀ b o, h.get? b = some o → H b = none → b ∉ ex → H' b = none
  there : ∀ b o, h.get? b = some o → b ∉ ex → ∃ o', h'.get? b = some o'
  tups : ∀ b xs, H b = some (.tup xs) → H' b = some (.tup xs)
  frzs : ∀ b o u, H b = some (.frz o u) → H' b = some (.frz o u)
  tbls : ∀ b ps, H b = some (.tbl ps) → ∃ more, H' b = some (.tbl (ps ++ more))
section
variable {fs fs' ex ex' : List Addr} {H H1 H2 : Hp} {h h1 h2 h' : Heap} {a x e : Addr} {o : HO}
theorem Un.any (u : Un fs ex H H1 h h1) {b : Addr} {ob : Obj} (q : h.get? b = some ob) (n : H b = none) (hx : b ∉ ex) : ∃ sl, h1.get? b = some { ob with slots := sl } := by
  by_cases hb : b ∈ fs
  · exact u.slot b ob q n hb hx
  · exact ⟨ob.slots, u.keep b ob q n hb hx⟩
theorem Un.trans (a : Un fs ex H H1 h h1) (b : Un fs ex H1 H2 h1 h2) : Un fs ex H H2 h h2 where
  keep := fun c ob q n hc hx => b.keep c ob (a.keep c ob q n hc hx) (a.free c ob q n hx) hc hx
  slot := fun c ob q n hc hx => by
    obtain ⟨sl, e1⟩ := a.slot c ob q n hc hx
    obtain ⟨sl', e2⟩ := b.slot c _ e1 (a.free c ob q n hx) hc hx
    exact ⟨sl', e2⟩
  free := fun c ob q n hx => by
    obtain ⟨o', e1⟩ := a.there c ob q hx
    exact b.free c o' e1 (a.free c ob q n hx) hx
  there := fun c ob q hx => by
    obtain ⟨o', e1⟩ := a.there c ob q hx
    exact b.there c o' e1 hx
  tups := fun c xs q => b.tups c xs (a.tups c xs q)
  frzs := fun c ob xs q => b.frzs c ob xs (a.frzs c ob xs q)
  tbls := fun c ps q => by
    obtain ⟨m1, e1⟩ := a.tbls c ps q
    obtain ⟨m2, e2⟩ := b.tbls c _ e1
    exact ⟨m1 ++ m2, by rw [e2, Array.append_assoc]⟩
theorem Un.kept (k : ∀ b u, h.get? b = some u → h'.get? b = some u) : Un fs ex H H h h' :=
  ⟨fun b ob q _ _ _ => k b ob q, fun b ob q _ _ _ => ⟨ob.slots, k b ob q⟩, fun _ _ _ n _ => n, fun b ob q _ => ⟨ob, k b ob q⟩, fun _ _ q => q, fun _ _ _ q => q, fun _ ps q => ⟨#[], by rw [q]; simp⟩⟩
theorem Un.refl : Un fs ex H H h h := Un.kept fun _ _ q => q
theorem Un.laid (k : ∀ b u, h.get? b = some u → h'.get? b = some u) (hp : h.objs.size ≤ a) (hn : H a = none) : Un fs ex H (upd H a o) h h' where
  keep := fun b u q _ _ _ => k b u q
  slot := fun b u q _ _ _ => ⟨u.slots, k b u q⟩
  free := fun b u q n _ => by rw [upd_ne (Nat.ne_of_lt (Nat.lt_of_lt_of_le (Heap.lt_size q) hp))]; exact n
  there := fun b u q _ => ⟨u, k b u q⟩
  tups := fun b xs q => by rw [upd_ne (ne_of_none q hn)]; exact q
  frzs := fun b u xs q => by rw [upd_ne (ne_of_none q hn)]; exact q
  tbls := fun b ps q => ⟨#[], by rw [upd_ne (ne_of_none q hn), q]; simp⟩
theorem Un.write (mu : Mut (H x)) (he : e = x ∨ H e = some (.own x)) (k : ∀ b u, b ≠ e → h.get? b = some u → h'.get? b = some u) (heo : ∃ u, h'.get? e = some u) : Un fs ex H (upd H x o) h h' := by
  have hx : ∀ b, H b = none → b ≠ x := fun b n z => by subst z; rw [n] at mu; exact mu
  have hb : ∀ b, H b = none → b ≠ e := fun b n z => by
    subst z
    rcases he with r | r
    · exact hx b n r
    · rw [n] at r; cases r
  have hm : ∀ b u, H b = some u → ¬ Mut (some u) → b ≠ x := fun b u q nm z => by subst z; rw [q] at mu; exact nm mu
  refine ⟨fun b u q n _ _ => k b u (hb b n) q, fun b u q n _ _ => ⟨u.slots, k b u (hb b n) q⟩, fun b u q n _ => by rw [upd_ne (hx b n)]; exact n, fun b u q _ => ?_,
    fun b xs q => by rw [upd_ne (hm b _ q fun z => z)]; exact q, fun b u xs q => by rw [upd_ne (hm b _ q fun z => z)]; exact q, fun b ps q => ⟨#[], by rw [upd_ne (hm b _ q fun z => z), q]; simp⟩⟩
  by_cases hbe : b = e
  · subst hbe; exact heo
  · exact ⟨u, k b u hbe q⟩
theorem Un.mono (u : Un fs ex H H1 h h1) (hs : ∀ b ∈ fs, b ∈ fs') (hx : ∀ b ∈ ex, b ∈ ex') : Un fs' ex' H H1 h h1 :=
  ⟨fun b ob q n hb he => u.keep b ob q n (fun z => hb (hs b z)) fun z => he (hx b z), fun _ _ q n _ he => u.any q n fun z => he (hx _ z), fun b ob q n he => u.free b ob q n fun z => he (hx b z), fun b ob q he => u.there b ob q fun z => he (hx b z), u.tups, u.frzs, u.tbls⟩
end

/-! ### the heap without what is tracked -/
def trk (h : Heap) (H : Hp) : List Addr := (List.range h.objs.size).filter fun a => (H a).isSome
def hidT (h : Heap) (H : Hp) : Heap := PySem.W.hideAll h (trk h H)
theorem hidT_size (h : Heap) (H : Hp) : (hidT h H).objs.size = h.objs.size := PySem.W.hideAll_size _ _
theorem hidT_get {h : Heap} {H : Hp} {b : Addr} {o : Obj} (e : h.get? b = some o) (n : H b = none) : (hidT h H).get? b = some o :=
  PySem.W.hideAll_get _ e fun hm => by
    have q : (H b).isSome = true := (List.mem_filter.mp hm).2
    rw [n] at q; simp at q
theorem of_hidT {h : Heap} {H : Hp} {b : Addr} {o : Obj} (e : (hidT h H).get? b = some o) : h.get? b = some o ∧ H b = none := by
  have e' : h.get? b = some o := PySem.W.of_hideAll (trk h H) e
  refine ⟨e', ?_⟩
  cases q : H b with
  | none => rfl
  | some x =>
    have hm : b ∈ trk h H := List.mem_filter.mpr ⟨List.mem_range.mpr (Heap.lt_size e'), by simp [q]⟩
    have z : (hidT h H).get? b = none := PySem.W.hideAll_none (trk h H) hm
    rw [z] at e; cases e

/-! ### OpenK's ledger, filled with every new object but one -/
def allNews (g h : Heap) (L : Addr) : List (Addr × Obj) := (List.range h.objs.size).filterMap fun a => if a = L ∨ (g.get? a).isSome = true then none else (h.get? a).map fun o => (a, o)
def rest (g h : Heap) (L d : Addr) : List (Addr × Obj) := (allNews g h L).filter fun p => decide (p.1 ≠ d)
end L2

namespace L2
open PySem PySem.Spec PyProof.Rows

/-- the module's facts, over the base: the heap at the law's entry without what is tracked there -/
structure Mod (K : PySem.W.Frag) (mg : Str → Option Value) (base : Heap) : Prop where
  kin : K.In base
  glob : base.Ns mainGlobals mg
  blt : ∃ mb, base.Ns builtinsNs mb ∧ ∀ x : Str, x ≠ "__name__" → mb x = bootBuiltins x
  nolimit : base.NoLimit

/-- the context: a def's body (or a comprehension's block) running. base: fixed through the whole law; s₀, H₀: the entry; outer: the frames whose slots others may change (a def's callers); stack: all frames that run;
   ex: iterators that were made ahead of the entry and are walked here (a comprehension's); fn: the names whose cells were made at the entry (a def: all; a comprehension's block: its own); calm: not within an except suite; pn: pins that every state bears; xe: what is wanted of an exception that leaves the code -/
structure Cx where
  prog : Program
  w : World
  K : PySem.W.Frag
  mg : Str → Option Value
  base : Heap
  A : Around
  N : List Str
  s₀ : Shared
  H₀ : Hp
  env : Env
  outer : List Env
  stack : List Env
  ex : List Addr
  fn : Str → Bool
  calm : Bool
  pn : List (Addr × Obj)
  xe : Value → Shared → Prop
/-- the callers' frames -/
def frs (l : List Env) : List Addr := l.filterMap (·.frame)
abbrev Cx.fs (X : Cx) : List Addr := frs X.outer

def Vis (sc : Scope) (x : Str) : Prop := sc.names.lookup x = some .local ∨ sc.names.lookup x = some .cell ∨ sc.names.lookup x = some .free
def Loc (sc : Scope) (x : Str) : Prop := sc.names.lookup x = some .local ∨ sc.names.lookup x = some .cell
def Look (env : Env) (h : Heap) (m : Str → Option Value) (x : Str) (u : Value) : Prop :=
  (env.kindOf x = some .local ∧ m x = some u) ∨ ((env.kindOf x = some .cell ∨ env.kindOf x = some .free) ∧ ∃ c, env.cells.lookup x = some c ∧ h.IsCell c (some u))

structure Cx.Ok (X : Cx) : Prop where
  mod : Mod X.K X.mg X.base
  kind : X.env.scope.kind = .function
  glob : X.env.globals = mainGlobals
  blt : X.env.builtins = builtinsNs
  above : X.s₀.heap.objs.size ≤ X.env.locals
  inj : ∀ x y c, X.env.cells.lookup x = some c → X.env.cells.lookup y = some c → x = y
  has : ∀ x, (X.env.kindOf x = some .cell ∨ X.env.kindOf x = some .free) → ∃ c, X.env.cells.lookup x = some c
  cab : ∀ x c, X.fn x = true → X.env.cells.lookup x = some c → X.s₀.heap.objs.size ≤ c
  hd : X.calm = true → X.A.handled = none
  frames : X.A.frames = some X.stack
  stk : X.stack = X.outer ∨ (X.stack = X.env :: X.outer ∧ X.env.frame = some X.env.locals)
  exf : ∀ b ∈ X.ex, b ≠ X.env.locals ∧ ∀ x c, X.env.cells.lookup x = some c → c ≠ b
  bs : ∀ b o, X.base.get? b = some o → X.s₀.heap.get? b = some o ∧ X.H₀ b = none
  bsz : X.base.objs.size ≤ X.s₀.heap.objs.size
  noex : ∀ b o, X.base.get? b = some o → b ∉ X.ex
  exfs : ∀ b ∈ X.ex, b ∉ X.fs
  funs : X.s₀.heap.FunFrames X.base X.outer
  frf : ∀ b ∈ X.fs, X.H₀ b = none

structure Inv (X : Cx) (pins : List (Addr × Obj)) (σ : List (Option V)) (H : Hp) (s : Shared) : Prop where
  ok : X.Ok
  os : s.os = X.s₀.os
  bare : AllBare s.gens
  base : Un X.fs X.ex X.H₀ H X.s₀.heap s.heap
  loc : ∃ m, s.heap.Ns X.env.locals m ∧ ∀ (i : Nat) (x : Str) (v : V), X.N[i]? = some x → σ[i]? = some (some v) → Vis X.env.scope x → ∃ u, RelV v u ∧ Look X.env s.heap m x u
  cell : ∀ x c, X.env.cells.lookup x = some c → ∃ v, s.heap.IsCell c v
  free : H X.env.locals = none
  freeC : ∀ x c, X.env.cells.lookup x = some c → H c = none
  pin : ∀ p ∈ X.pn ++ pins, s.heap.get? p.1 = some p.2 ∧ H p.1 = none ∧ p.1 ≠ X.env.locals ∧ p.1 ∉ X.fs ∧ ∀ v, p.2.data ≠ .cell v
  hok : HOk X.prog X.w H s.heap
  len : σ.length = X.N.length

section
variable {X : Cx} {pins : List (Addr × Obj)} {σ : List (Option V)} {H H' : Hp} {s : Shared} {h' : Heap}

theorem Cx.Ok.nofr (ok : X.Ok) {b : Addr} {o : Obj} (e : X.base.get? b = some o) : b ∉ X.fs := fun hb => by
  have := (ok.funs.mem hb).1
  rw [e] at this; cases this
theorem Inv.bs (I : Inv X pins σ H s) : ∀ b o, X.base.get? b = some o → s.heap.get? b = some o ∧ H b = none := fun b o e =>
  ⟨I.base.keep b o (I.ok.bs b o e).1 (I.ok.bs b o e).2 (I.ok.nofr e) (I.ok.noex b o e), I.base.free b o (I.ok.bs b o e).1 (I.ok.bs b o e).2 (I.ok.noex b o e)⟩
theorem Inv.bk (I : Inv X pins σ H s) : ∀ b o, X.base.get? b = some o → s.heap.get? b = some o := fun b o e => (I.bs b o e).1
theorem Inv.mod (I : Inv X pins σ H s) : Mod X.K X.mg X.base := I.ok.mod
theorem Inv.kIn (I : Inv X pins σ H s) : X.K.In s.heap := I.ok.mod.kin.keeps I.bk
theorem Inv.nolimit (I : Inv X pins σ H s) : s.heap.NoLimit := I.ok.mod.nolimit.keeps I.bk
/-- the frame over the base: for OpenK's rules (K.In X.base is I.mod.kin) -/
theorem Inv.fr (I : Inv X pins σ H s) : ∃ m, Fr X.base X.env.locals s.heap m :=
  let ⟨m, hn, _⟩ := I.loc
  ⟨m, hn, I.bk, Nat.le_trans I.ok.bsz I.ok.above⟩
theorem Inv.lt (I : Inv X pins σ H s) : X.env.locals < s.heap.objs.size := let ⟨_, hn, _⟩ := I.loc; hn.lt
theorem Inv.sz (I : Inv X pins σ H s) : X.s₀.heap.objs.size ≤ s.heap.objs.size := Nat.le_trans I.ok.above (Nat.le_of_lt I.lt)
theorem Inv.nofs (I : Inv X pins σ H s) {a : Addr} (h : s.heap.objs.size ≤ a) : a ∉ X.fs := fun hb => by
  obtain ⟨_, o, ho, _⟩ := I.ok.funs.mem hb
  exact absurd (Nat.lt_of_lt_of_le (Heap.lt_size ho) (Nat.le_trans I.sz h)) (Nat.lt_irrefl _)
theorem Inv.cne (I : Inv X pins σ H s) : ∀ x c, X.env.cells.lookup x = some c → c ≠ X.env.locals := fun x c e z => by
  obtain ⟨v, o, ho, hd⟩ := I.cell x c e
  obtain ⟨m, ⟨o', es, ep, ho', hd', _⟩, _⟩ := I.loc
  rw [z, ho'] at ho; cases ho; rw [hd'] at hd; cases hd
theorem Inv.funs (I : Inv X pins σ H s) : s.heap.FunFrames X.base X.outer := by
  have all : ∀ (l : List Env), (∀ b ∈ frs l, b ∈ X.fs) → X.s₀.heap.FunFrames X.base l → s.heap.FunFrames X.base l := by
    intro l
    induction l with
    | nil => intro _ _; trivial
    | cons env r ih =>
      intro hs hl
      obtain ⟨hk, ⟨L, o, hf, hn, ho, hd⟩, hr⟩ := hl
      have hL : L ∈ X.fs := hs L (by unfold frs; rw [List.filterMap_cons, hf]; exact List.mem_cons_self)
      obtain ⟨sl, e⟩ := I.base.slot L o ho (I.ok.frf L hL) hL fun z => I.ok.exfs L z hL
      exact ⟨hk, ⟨L, _, hf, hn, e, hd⟩, ih (fun b hb => hs b (by unfold frs; rw [List.filterMap_cons, hf]; exact List.mem_cons_of_mem _ hb)) hr⟩
  exact all X.outer (fun _ hb => hb) I.ok.funs

/-- the frames that run, for a call -/
theorem Inv.stack (I : Inv X pins σ H s) : s.heap.FunFrames X.base X.stack := by
  rcases I.ok.stk with e | ⟨e, hf⟩
  · rw [e]; exact I.funs
  · rw [e]
    obtain ⟨m, hn, _⟩ := I.loc
    refine .cons (by rw [I.ok.kind]; decide) hf hn ?_ I.funs
    exact Heap.get?_none_of_le (Nat.le_trans I.ok.bsz I.ok.above)
theorem Inv.stkSub (I : Inv X pins σ H s) : ∀ b ∈ frs X.stack, b ∈ X.env.locals :: X.fs := fun b hb => by
  rcases I.ok.stk with e | ⟨e, hf⟩
  · rw [e] at hb; exact List.mem_cons_of_mem _ hb
  · rw [e] at hb
    unfold frs at hb
    rw [List.filterMap_cons, hf] at hb
    exact hb
theorem Inv.stkFree (I : Inv X pins σ H s) : ∀ b ∈ frs X.stack, H b = none := fun b hb => by
  rcases List.mem_cons.mp (I.stkSub b hb) with e | hb
  · rw [e]; exact I.free
  · obtain ⟨_, o, ho, _⟩ := I.ok.funs.mem hb
    exact I.base.free b o ho (I.ok.frf b hb) fun z => I.ok.exfs b z hb

/-- THE STEP: the untracked objects but the frame and the records at ch are kept (the callers' frames up to slots), the frame's map is kept, the new abstract heap is held -/
theorem Inv.step {g' : Array GenState} {t' : Nat} {d' : Drawn} {ch : List Addr} (I : Inv X pins σ H s)
    (hch : ∀ b ∈ ch, (b ∈ X.ex ∨ X.s₀.heap.objs.size ≤ b) ∧ b ≠ X.env.locals ∧ (∀ x c, X.env.cells.lookup x = some c → c ≠ b) ∧ ∀ p ∈ X.pn ++ pins, p.1 ≠ b)
    (keep : ∀ b o, b ≠ X.env.locals → b ∉ X.fs → b ∉ ch → s.heap.get? b = some o → H b = none → h'.get? b = some o)
    (slot : ∀ b o, b ≠ X.env.locals → b ∈ X.fs → b ∉ ch → s.heap.get? b = some o → H b = none → ∃ sl, h'.get? b = some { o with slots := sl }) (free : ∀ b o, b ∉ ch → s.heap.get? b = some o → H b = none → H' b = none)
    (there : ∀ b o, b ∉ ch → s.heap.get? b = some o → ∃ o', h'.get? b = some o')
    (tups : ∀ b xs, H b = some (.tup xs) → H' b = some (.tup xs)) (frzs : ∀ b o u, H b = some (.frz o u) → H' b = some (.frz o u)) (tbls : ∀ b ps, H b = some (.tbl ps) → ∃ more, H' b = some (.tbl (ps ++ more)))
    (ns : ∀ m, s.heap.Ns X.env.locals m → h'.Ns X.env.locals m) (hok : HOk X.prog X.w H' h') (hg : AllBare g') :
    Inv X pins σ H' { s with heap := h', gens := g', drawn := d', toks := t' } := by
  have neL : ∀ b o, X.s₀.heap.get? b = some o → b ≠ X.env.locals := fun b o e => Nat.ne_of_lt (Nat.lt_of_lt_of_le (Heap.lt_size e) I.ok.above)
  have neC : ∀ b o, X.s₀.heap.get? b = some o → b ∉ X.ex → b ∉ ch := fun b o e hx hb => by
    rcases (hch b hb).1 with z | z
    · exact hx z
    · exact absurd (Nat.lt_of_lt_of_le (Heap.lt_size e) z) (Nat.lt_irrefl _)
  have cellK : ∀ x c, X.env.cells.lookup x = some c → ∀ v, s.heap.IsCell c v → h'.IsCell c v := fun x c e v ⟨o, ho, hd⟩ => by
    have nch : c ∉ ch := fun z => (hch c z).2.2.1 x c e rfl
    by_cases hc : c ∈ X.fs
    · obtain ⟨sl, q⟩ := slot c o (I.cne x c e) hc nch ho (I.freeC x c e)
      exact ⟨_, q, hd⟩
    · exact ⟨o, keep c o (I.cne x c e) hc nch ho (I.freeC x c e), hd⟩
  refine ⟨I.ok, I.os, hg, ⟨fun b o e n hb hx => ?_, fun b o e n hb hx => ?_, fun b o e n hx => ?_, fun b o e hx => ?_, fun b xs e => tups b xs (I.base.tups b xs e), fun b o xs e => frzs b o xs (I.base.frzs b o xs e), fun b ps e => ?_⟩, ?_, fun x c e => ?_, ?_, fun x c e => ?_, fun p hp => ?_, hok, I.len⟩
  · exact keep b o (neL b o e) hb (neC b o e hx) (I.base.keep b o e n hb hx) (I.base.free b o e n hx)
  · obtain ⟨sl, e1⟩ := I.base.slot b o e n hb hx
    obtain ⟨sl', e2⟩ := slot b _ (neL b o e) hb (neC b o e hx) e1 (I.base.free b o e n hx)
    exact ⟨sl', e2⟩
  · obtain ⟨o', e1⟩ := I.base.there b o e hx
    exact free b o' (neC b o e hx) e1 (I.base.free b o e n hx)
  · obtain ⟨o', e1⟩ := I.base.there b o e hx
    exact there b o' (neC b o e hx) e1
  · obtain ⟨m1, e1⟩ := I.base.tbls b ps e
    obtain ⟨m2, e2⟩ := tbls b _ e1
    exact ⟨m1 ++ m2, by rw [e2, Array.append_assoc]⟩
  · obtain ⟨m, hn, hl⟩ := I.loc
    refine ⟨m, ns m hn, fun i x v e1 e2 e3 => ?_⟩
    obtain ⟨u, r, l⟩ := hl i x v e1 e2 e3
    refine ⟨u, r, ?_⟩
    rcases l with l | ⟨k, c, e, z⟩
    · exact .inl l
    · exact .inr ⟨k, c, e, cellK x c e _ z⟩
  · obtain ⟨v, z⟩ := I.cell x c e
    exact ⟨v, cellK x c e v z⟩
  · obtain ⟨m, ⟨o, _, _, ho, _⟩, _⟩ := I.loc
    exact free _ o (fun z => (hch _ z).2.1 rfl) ho I.free
  · obtain ⟨v, o, ho, hd⟩ := I.cell x c e
    exact free c o (fun z => (hch c z).2.2.1 x c e rfl) ho (I.freeC x c e)
  · obtain ⟨e, n, ne, nf, d⟩ := I.pin p hp
    have nch : p.1 ∉ ch := fun z => (hch p.1 z).2.2.2 p hp rfl
    exact ⟨keep p.1 p.2 ne nf nch e n, free p.1 p.2 nch e n, ne, nf, d⟩
/-- .. where the frame's own object is kept too -/
theorem Inv.un {t' : Nat} (I : Inv X pins σ H s) (u : Un X.fs [] H H' s.heap h') (hok : HOk X.prog X.w H' h') : Inv X pins σ H' { s with heap := h', toks := t' } := by
  obtain ⟨m, ⟨o, es, ep, ho, r⟩, _⟩ := id I.loc
  obtain ⟨sl, hL⟩ := u.any ho I.free (by simp)
  exact I.step (g' := s.gens) (d' := s.drawn) (ch := []) (fun _ z => nomatch z) (fun b o _ hb _ e n => u.keep b o e n hb (by simp)) (fun b o _ hb _ e n => u.slot b o e n hb (by simp)) (fun b o _ e n => u.free b o e n (by simp)) (fun b o _ e => u.there b o e (by simp)) u.tups u.frzs u.tbls (fun m' hm => by
    obtain ⟨o', es', ep', ho', r'⟩ := hm
    rw [ho] at ho'; cases ho'
    exact ⟨_, es', ep', hL, r'⟩) hok I.bare
/-- behind a call (or a comprehension's block): the slots of this frame may have changed too, the records at ch may have turned -/
theorem Inv.call {g' : Array GenState} {t' : Nat} {d' : Drawn} {ch : List Addr} (I : Inv X pins σ H s) (u : Un (frs X.stack) ch H H' s.heap h') (hok : HOk X.prog X.w H' h') (hg : AllBare g')
    (hch : ∀ b ∈ ch, (b ∈ X.ex ∨ X.s₀.heap.objs.size ≤ b) ∧ b ≠ X.env.locals ∧ (∀ x c, X.env.cells.lookup x = some c → c ≠ b) ∧ ∀ p ∈ X.pn ++ pins, p.1 ≠ b) :
    Inv X pins σ H' { s with heap := h', gens := g', drawn := d', toks := t' } := by
  obtain ⟨m, ⟨o, es, ep, ho, r⟩, _⟩ := id I.loc
  obtain ⟨sl, hL⟩ := u.any ho I.free fun z => (hch _ z).2.1 rfl
  exact I.step (ch := ch) hch (fun b o hL hb hc e n => u.keep b o e n (fun z => (List.mem_cons.mp (I.stkSub b z)).elim hL hb) hc) (fun b o _ _ hc e n => u.any e n hc) (fun b o hc e n => u.free b o e n hc) (fun b o hc e => u.there b o e hc) u.tups u.frzs u.tbls (fun m' hm => by
    obtain ⟨o', es', ep', ho', r'⟩ := hm
    rw [ho] at ho'; cases ho'
    exact ⟨_, es', ep', hL, r'⟩) hok hg
/-- an untracked record of ours (an iterator) has turned -/
theorem Inv.turned {t' : Nat} {it : Addr} (I : Inv X pins σ H s) (k : ∀ b o, b ≠ it → s.heap.get? b = some o → h'.get? b = some o) (hn : H it = none) (hL : it ≠ X.env.locals)
    (h1 : it ∈ X.ex ∨ X.s₀.heap.objs.size ≤ it) (h2 : ∀ x c, X.env.cells.lookup x = some c → c ≠ it) (h3 : ∀ p ∈ X.pn ++ pins, p.1 ≠ it) : Inv X pins σ H { s with heap := h', toks := t' } := by
  have nit : ∀ b u, H b = some u → b ≠ it := fun b u e z => by rw [z, hn] at e; cases e
  refine I.step (g' := s.gens) (d' := s.drawn) (ch := [it]) (fun b hb => ?_) (fun b o _ _ hc e _ => k b o (fun z => hc (by simp [z])) e) (fun b o _ _ hc e _ => ⟨o.slots, k b o (fun z => hc (by simp [z])) e⟩) (fun _ _ _ _ n => n)
    (fun b o hc e => ⟨o, k b o (fun z => hc (by simp [z])) e⟩) (fun _ _ e => e) (fun _ _ _ e => e) (fun b ps e => ⟨#[], by rw [e]; simp⟩) (fun m hm => ?_) (fun b u e => ?_) I.bare
  · have e : b = it := by simpa using hb
    subst e
    exact ⟨h1, hL, h2, h3⟩
  · obtain ⟨o, es, ep, ho, r⟩ := hm
    exact ⟨o, es, ep, k _ o (Ne.symm hL) ho, r⟩
  · refine (I.hok b u e).stay (fun c v hc q => k c v ?_ q) (fun _ q => q) fun _ _ q => q
    rcases hc with z | z
    · rw [z]; exact nit b u e
    · exact nit c _ z
theorem Inv.tok (I : Inv X pins σ H s) (t : Nat) : Inv X pins σ H { s with toks := t } := I.un (h' := s.heap) (t' := t) Un.refl I.hok
/-- all objects kept -/
theorem Inv.kept {t' : Nat} (I : Inv X pins σ H s) (k : ∀ b u, s.heap.get? b = some u → h'.get? b = some u) : Inv X pins σ H { s with heap := h', toks := t' } := I.un (Un.kept k) (I.hok.kept k)
/-- a new object laid and tracked -/
theorem Inv.laid {a : Addr} {o : HO} {t' : Nat} (I : Inv X pins σ H s) (k : ∀ b u, s.heap.get? b = some u → h'.get? b = some u) (hp : s.heap.objs.size ≤ a) (new : ObjOk X.prog X.w (upd H a o) h' a o) :
    Inv X pins σ (upd H a o) { s with heap := h', toks := t' } := I.un (Un.laid k hp (I.hok.fresh hp)) (I.hok.laid k hp new)
/-- an object written -/
theorem Inv.write {x e : Addr} {o : HO} {t' : Nat} (I : Inv X pins σ H s) (mu : Mut (H x)) (he : e = x ∨ H e = some (.own x)) (k : ∀ b u, b ≠ e → s.heap.get? b = some u → h'.get? b = some u) (heo : ∃ u, h'.get? e = some u)
    (new : ObjOk X.prog X.w (upd H x o) h' x o) : Inv X pins σ (upd H x o) { s with heap := h', toks := t' } := I.un (Un.write mu he k heo) (I.hok.write mu he k heo new)
theorem Inv.pins_of {pins' : List (Addr × Obj)} (I : Inv X pins σ H s) (h : ∀ p ∈ pins', s.heap.get? p.1 = some p.2 ∧ H p.1 = none ∧ p.1 ≠ X.env.locals ∧ p.1 ∉ X.fs ∧ ∀ v, p.2.data ≠ .cell v) : Inv X pins' σ H s :=
  ⟨I.ok, I.os, I.bare, I.base, I.loc, I.cell, I.free, I.freeC, fun p hp => (List.mem_append.mp hp).elim (fun z => I.pin p (List.mem_append_left _ z)) (h p), I.hok, I.len⟩

theorem nodup_ix {N : List Str} (hN : N.Nodup) {i j : Nat} {x : Str} (a : N[i]? = some x) (b : N[j]? = some x) : i = j := by
  obtain ⟨h1, e1⟩ := List.getElem?_eq_some_iff.mp a
  obtain ⟨h2, e2⟩ := List.getElem?_eq_some_iff.mp b
  exact (List.getElem_inj hN).mp (e1.trans e2.symm)

/-- a name is stored; what changed -/
theorem store_ok2 {M : Model} {A : Around} {E : Value → Shared → Prop} {i : Nat} {x : Str} {v : V} {u : Value} {Q : Unit → Shared → Prop} (I : Inv X pins σ H s) (hN : X.N.Nodup) (hi : X.N[i]? = some x) (hx : Loc X.env.scope x) (r : RelV v u)
    (h : ∀ s', Inv X pins (σ.set i (some v)) H s' → (∃ a, Heap.SameBut a s.heap s'.heap ∧ (a = X.env.locals ∨ X.env.cells.lookup x = some a)) → Q () s') (hf : X.fn x = true ∨ X.env.scope.names.lookup x = some .local := by first | exact .inl rfl | exact .inr rfl | assumption) : wpAny M A (storeName X.env x u) Q E s := by
  obtain ⟨m, hn, hl⟩ := id I.loc
  have hcls : (X.env.scope.kind == .class || (X.env.scope.kind == .module && X.env.locals != X.env.globals)) = false := by rw [I.ok.kind]; rfl
  have hiσ : i < σ.length := by rw [I.len]; exact (List.getElem?_eq_some_iff.mp hi).1
  have cne := I.cne
  have tracked : ∀ {a : Addr} {h' : Heap}, (∃ o, s.heap.get? a = some o ∧ H a = none) → Heap.SameBut a s.heap h' → HOk X.prog X.w H h' := fun {a h'} ha hs b ob e => by
    obtain ⟨_, _, hfree⟩ := ha
    refine (I.hok b ob e).stay (fun c w' hc q => (hs.2 c ?_).trans q) (fun _ q => q) fun _ _ q => q
    rintro rfl
    rcases hc with rfl | hc
    · rw [hfree] at e; cases e
    · rw [hfree] at hc; cases hc
  rcases hx with hk | hk
  · refine wpAny_storeName_local hk hn (fun h' hn' hs => ?_) hcls
    obtain ⟨oL, _, _, hoL, _⟩ := id hn
    refine h _ ⟨I.ok, I.os, I.bare, ⟨fun b o e n hb hx => ?_, fun b o e n hb hx => ?_, I.base.free, fun b o e hx => ?_, I.base.tups, I.base.frzs, I.base.tbls⟩, ⟨_, hn', fun j y v' e1 e2 e3 => ?_⟩, fun y c e => ?_, I.free, I.freeC, fun p hp => ?_, tracked ⟨oL, hoL, I.free⟩ hs, by simpa using I.len⟩ ⟨_, hs, .inl rfl⟩
    · exact (hs.2 b (Nat.ne_of_lt (Nat.lt_of_lt_of_le (Heap.lt_size e) I.ok.above))).trans (I.base.keep b o e n hb hx)
    · obtain ⟨sl, e1⟩ := I.base.slot b o e n hb hx
      exact ⟨sl, (hs.2 b (Nat.ne_of_lt (Nat.lt_of_lt_of_le (Heap.lt_size e) I.ok.above))).trans e1⟩
    · obtain ⟨o', e1⟩ := I.base.there b o e hx
      exact ⟨o', (hs.2 b (Nat.ne_of_lt (Nat.lt_of_lt_of_le (Heap.lt_size e) I.ok.above))).trans e1⟩
    · by_cases hj : j = i
      · subst hj
        rw [hi] at e1; cases e1
        rw [List.getElem?_set_self hiσ] at e2
        cases e2
        exact ⟨u, r, .inl ⟨hk, by simp⟩⟩
      · rw [List.getElem?_set_ne (Ne.symm hj)] at e2
        obtain ⟨u', r', q⟩ := hl j y v' e1 e2 e3
        refine ⟨u', r', ?_⟩
        rcases q with ⟨k, e⟩ | ⟨k, c, e, z⟩
        · refine .inl ⟨k, ?_⟩
          have : y ≠ x := fun e => hj (nodup_ix hN e1 (e ▸ hi))
          simp [this, e]
        · exact .inr ⟨k, c, e, z.sameBut hs (cne y c e)⟩
    · obtain ⟨w', z⟩ := I.cell y c e
      exact ⟨w', z.sameBut hs (cne y c e)⟩
    · obtain ⟨e, n, ne, nf, d⟩ := I.pin p hp
      exact ⟨(hs.2 p.1 ne).trans e, n, ne, nf, d⟩
  · have hfn : X.fn x = true := by
      rcases hf with z | z
      · exact z
      · rw [z] at hk; cases hk
    obtain ⟨c, hc⟩ := I.ok.has x (.inl hk)
    obtain ⟨w', z⟩ := I.cell x c hc
    refine wpAny_storeName_cell I.ok.kind hk hc z (fun h' hc' hs => ?_)
    obtain ⟨oc, hoc, hocd⟩ := id z
    refine h { s with heap := h' } ⟨I.ok, I.os, I.bare, ⟨fun b o e n hb hx => ?_, fun b o e n hb hx => ?_, I.base.free, fun b o e hx => ?_, I.base.tups, I.base.frzs, I.base.tbls⟩, ⟨m, hn.sameBut hs (Ne.symm (cne x c hc)), fun j y v' e1 e2 e3 => ?_⟩, fun y c' e => ?_, I.free, I.freeC, fun p hp => ?_, tracked ⟨oc, hoc, I.freeC x c hc⟩ hs, by simpa using I.len⟩ ⟨c, hs, .inr hc⟩
    · exact (hs.2 b (Nat.ne_of_lt (Nat.lt_of_lt_of_le (Heap.lt_size e) (I.ok.cab x c hfn hc)))).trans (I.base.keep b o e n hb hx)
    · obtain ⟨sl, e1⟩ := I.base.slot b o e n hb hx
      exact ⟨sl, (hs.2 b (Nat.ne_of_lt (Nat.lt_of_lt_of_le (Heap.lt_size e) (I.ok.cab x c hfn hc)))).trans e1⟩
    · obtain ⟨o', e1⟩ := I.base.there b o e hx
      exact ⟨o', (hs.2 b (Nat.ne_of_lt (Nat.lt_of_lt_of_le (Heap.lt_size e) (I.ok.cab x c hfn hc)))).trans e1⟩
    · by_cases hj : j = i
      · subst hj
        rw [hi] at e1; cases e1
        rw [List.getElem?_set_self hiσ] at e2
        cases e2
        exact ⟨u, r, .inr ⟨.inl hk, c, hc, hc'⟩⟩
      · rw [List.getElem?_set_ne (Ne.symm hj)] at e2
        obtain ⟨u', r', q⟩ := hl j y v' e1 e2 e3
        refine ⟨u', r', ?_⟩
        rcases q with q | ⟨k, c', e, z'⟩
        · exact .inl q
        · refine .inr ⟨k, c', e, z'.sameBut hs ?_⟩
          rintro rfl
          exact hj (nodup_ix hN e1 (I.ok.inj _ _ _ e hc ▸ hi))
    · by_cases hcc : c' = c
      · subst hcc; exact ⟨_, hc'⟩
      · obtain ⟨w2, z2⟩ := I.cell y c' e
        exact ⟨w2, z2.sameBut hs hcc⟩
    · obtain ⟨e, n, ne, nf, d⟩ := I.pin p hp
      refine ⟨(hs.2 p.1 ?_).trans e, n, ne, nf, d⟩
      intro q
      rw [q, hoc] at e
      have q' : oc = p.2 := Option.some.inj e
      exact d w' (by rw [← q']; exact hocd)
theorem store_ok {M : Model} {A : Around} {E : Value → Shared → Prop} {i : Nat} {x : Str} {v : V} {u : Value} {Q : Unit → Shared → Prop} (I : Inv X pins σ H s) (hN : X.N.Nodup) (hi : X.N[i]? = some x) (hx : Loc X.env.scope x) (r : RelV v u)
    (h : ∀ s', Inv X pins (σ.set i (some v)) H s' → Q () s') (hf : X.fn x = true ∨ X.env.scope.names.lookup x = some .local := by first | exact .inl rfl | exact .inr rfl | assumption) : wpAny M A (storeName X.env x u) Q E s :=
  store_ok2 I hN hi hx r (fun s' I' _ => h s' I') hf
/-- behind a call or a block, the state as it is -/
theorem Inv.call' {s' : Shared} {ch : List Addr} (I : Inv X pins σ H s) (ho : s'.os = s.os) (u : Un (frs X.stack) ch H H' s.heap s'.heap) (hok : HOk X.prog X.w H' s'.heap) (hg : AllBare s'.gens)
    (hch : ∀ b ∈ ch, (b ∈ X.ex ∨ X.s₀.heap.objs.size ≤ b) ∧ b ≠ X.env.locals ∧ (∀ x c, X.env.cells.lookup x = some c → c ≠ b) ∧ ∀ p ∈ X.pn ++ pins, p.1 ≠ b) : Inv X pins σ H' s' := by
  obtain ⟨h', g', d', t', o'⟩ := s'
  have e : o' = s.os := ho
  subst e
  exact I.call (g' := g') (t' := t') (d' := d') u hok hg hch
end

/-! ### the judgements -/
/-- an exception: its class, its own dict's address (where it has one), the abstract heap behind it -/
abbrev XK := Value → Option Addr → Hp → Prop
abbrev St := List (Option V)
abbrev VK := V → Hp → Prop
/-- an expression's reading; a test's; an argument list's -/
abbrev TE := St → Hp → VK → Prop
abbrev TT := St → Hp → (Bool → Hp → Prop) → Prop
abbrev TA := St → Hp → (List V → Hp → Prop) → Prop
/-- what is wanted behind a statement -/
structure Ends where
  nx : St → Hp → Prop
  rt : VK
  bk : St → Hp → Prop := fun _ _ => False
  ct : St → Hp → Prop := fun _ _ => False
abbrev TS := Ends → St → Hp → Prop

def EP (X : Cx) (pins : List (Addr × Obj)) (σ : St) (Q : VK) (u : Value) (s' : Shared) : Prop := ∃ v H', Inv X pins σ H' s' ∧ RelV v u ∧ Q v H'
def TP (X : Cx) (pins : List (Addr × Obj)) (σ : St) (Q : Bool → Hp → Prop) (b : Bool) (s' : Shared) : Prop := ∃ H', Inv X pins σ H' s' ∧ Q b H'
def AP (X : Cx) (pins : List (Addr × Obj)) (σ : St) (Q : List V → Hp → Prop) (us : List Value) (s' : Shared) : Prop := ∃ vs H', Inv X pins σ H' s' ∧ Vals vs us ∧ Q vs H'
def SP (X : Cx) (pins : List (Addr × Obj)) (D : Ends) (f : Flow) (s' : Shared) : Prop :=
  match f with
  | .next => ∃ σ' H', Inv X pins σ' H' s' ∧ D.nx σ' H'
  | .brk => ∃ σ' H', Inv X pins σ' H' s' ∧ D.bk σ' H'
  | .cont => ∃ σ' H', Inv X pins σ' H' s' ∧ D.ct σ' H'
  | .ret u => ∃ v σ' H', Inv X pins σ' H' s' ∧ RelV v u ∧ D.rt v H'

def PE (X : Cx) (e : Expr) (t : TE) : Prop :=
  ∀ (pins : List (Addr × Obj)) (s : Shared) (σ : St) (H : Hp) (Q : VK), Inv X pins σ H s → t σ H Q → wpAny (model X.prog X.w) X.A (eval e X.env) (EP X pins σ Q) X.xe s
def PT (X : Cx) (e : Expr) (t : TT) : Prop :=
  ∀ (pins : List (Addr × Obj)) (s : Shared) (σ : St) (H : Hp) (Q : Bool → Hp → Prop), Inv X pins σ H s → t σ H Q → wpAny (model X.prog X.w) X.A (isTrue e X.env (eval e X.env)) (TP X pins σ Q) X.xe s
/-- a test whatever its 'whole' is (and, or) -/
def PW (X : Cx) (e : Expr) (t : TT) : Prop :=
  ∀ (whole : Sem Value) (pins : List (Addr × Obj)) (s : Shared) (σ : St) (H : Hp) (Q : Bool → Hp → Prop), Inv X pins σ H s → t σ H Q → wpAny (model X.prog X.w) X.A (isTrue e X.env whole) (TP X pins σ Q) X.xe s
theorem PW.pt {X : Cx} {e : Expr} {t : TT} (h : PW X e t) : PT X e t := h _
/-- an argument list (no star), from the left -/
def PA (X : Cx) (es : List Expr) (t : TA) : Prop :=
  ∀ (pos : Pos) (pins : List (Addr × Obj)) (s : Shared) (σ : St) (H : Hp) (Q : List V → Hp → Prop), Inv X pins σ H s → t σ H Q → wpAny (model X.prog X.w) X.A (spliced (backTo pos (starEach es X.env))) (AP X pins σ Q) X.xe s
def PS (X : Cx) (st : Stmt) (t : TS) : Prop :=
  ∀ (pins : List (Addr × Obj)) (s : Shared) (σ : St) (H : Hp) (D : Ends), Inv X pins σ H s → t D σ H → wpAny (model X.prog X.w) X.A (exec st X.env) (SP X pins D) X.xe s
def PSs (X : Cx) (st : List Stmt) (t : TS) : Prop :=
  ∀ (pins : List (Addr × Obj)) (s : Shared) (σ : St) (H : Hp) (D : Ends), Inv X pins σ H s → t D σ H → wpAny (model X.prog X.w) X.A (execs st X.env) (SP X pins D) X.xe s
/-- weaken the end -/
theorem thn {α : Type} {t : Sem α} {Q Q' : α → Shared → Prop} {M : Model} {A : Around} {E : Value → Shared → Prop} {s : Shared} (h : wpAny M A t Q E s) (hQ : ∀ a s, Q a s → Q' a s) : wpAny M A t Q' E s := wpAny_mono h hQ fun _ _ x => x
end L2

namespace L2
open PySem PySem.Spec PyProof.Rows
section
variable {X : Cx}

/-! ### names and constants -/
def tVar (i : Nat) : TE := fun σ H Q => ∃ v, σ[i]? = some (some v) ∧ Q v H
def tC (v : V) : TE := fun _ H Q => Q v H
theorem pe_var {i : Nat} {x : Str} {pos : Pos} (hN : X.N[i]? = some x) (hv : Vis X.env.scope x) (hd : (x == ("__debug__" : Str)) = false := by decide) (hcd : (x == ("__classdict__" : Str)) = false := by decide) : PE X (.Name x pos) (tVar i) := by
  intro pins s σ H Q I h
  obtain ⟨v, e, h⟩ := h
  obtain ⟨m, hn, hl⟩ := I.loc
  obtain ⟨u, r, l⟩ := hl i x v hN e hv
  have fin : EP X pins σ Q u s := ⟨v, H, I, r, h⟩
  rcases l with ⟨hk, hm⟩ | ⟨hk, c, hc, hcell⟩
  · exact wpAny_Name (wpAny_loadName_local I.ok.kind hk hn hm fin) hd
  · rcases hk with hk | hk
    · exact wpAny_Name (wpAny_loadName_cell I.ok.kind hk hc hcell fin) hd
    · exact wpAny_Name (wpAny_loadName_free I.ok.kind hk hc hcell fin hcd) hd
theorem pe_int {i j pos} : PE X (.Constant (.int i) j pos) (tC (.int i)) := fun _ _ _ H _ I h => wpAny_Constant_int ⟨.int i, H, I.tok _, ⟨_, rfl⟩, h⟩
theorem pe_bl {b j pos} : PE X (.Constant (.bool b) j pos) (tC (.bl b)) := fun _ _ _ H _ I h => Constant_bool ⟨.bl b, H, I, rfl, h⟩
theorem pe_non {j pos} : PE X (.Constant .none j pos) (tC .non) := fun _ _ _ H _ I h => Constant_none ⟨.non, H, I, rfl, h⟩
/-- a global name of the def -/
def Gl (X : Cx) (x : Str) : Prop := X.env.kindOf x = some .globalImplicit
theorem ld_glob {E : Value → Shared → Prop} {pins : List (Addr × Obj)} {s : Shared} {σ : St} {H : Hp} {x : Str} {u : Value} {pos : Pos} {Q : Value → Shared → Prop} (I : Inv X pins σ H s) (hg : Gl X x) (hm : X.mg x = some u) (h : Q u s)
    (hd : (x == ("__debug__" : Str)) = false := by decide) : wpAny (model X.prog X.w) X.A (eval (.Name x pos) X.env) Q E s :=
  Calls.Name_function_global I.ok.kind hg (Calls.loadGlobal_global (by rw [I.ok.glob]; exact I.mod.glob.keeps I.bk) hm h) hd
theorem ld_blt {E : Value → Shared → Prop} {pins : List (Addr × Obj)} {s : Shared} {σ : St} {H : Hp} {x : Str} {u : Value} {pos : Pos} {Q : Value → Shared → Prop} (I : Inv X pins σ H s) (hg : Gl X x) (hm : X.mg x = none) (hv : bootBuiltins x = some u) (h : Q u s)
    (hn : x ≠ "__name__" := by decide) (hd : (x == ("__debug__" : Str)) = false := by decide) : wpAny (model X.prog X.w) X.A (eval (.Name x pos) X.env) Q E s := by
  obtain ⟨mb, h1, h2⟩ := I.mod.blt
  exact Calls.Name_function_global I.ok.kind hg (Calls.loadGlobal_builtin (by rw [I.ok.glob]; exact I.mod.glob.keeps I.bk) hm (by rw [I.ok.blt]; exact h1.keeps I.bk) ((h2 x hn).trans hv) h) hd
theorem pe_bltn {x : Str} {v : V} {u : Value} {pos : Pos} (hg : Gl X x) (hm : X.mg x = none) (hv : bootBuiltins x = some u) (r : RelV v u) (hn : x ≠ "__name__" := by decide) (hd : (x == ("__debug__" : Str)) = false := by decide) : PE X (.Name x pos) (tC v) :=
  fun _ _ _ H _ I h => ld_blt I hg hm hv ⟨v, H, I, r, h⟩ hn hd

/-! ### arithmetic -/
variable {a b : Expr} {ta tb : TE} {pos : Pos}
/-! ### comparisons -/
/-- a comparison as a value, as a test -/
def tB (t : TE) : TT := fun σ H Q => t σ H fun x H1 => ∃ c, x = .bl c ∧ Q c H1
/-- an expression whose value is a bool, as a test -/
theorem pt_val {e : Expr} {t : TE} (h : PE X e t) (he : ∀ whole, isTrue e X.env whole = (do let v ← whole; standAt e.pos; holding [v] (truthy v)) := by intro _; rfl) : PT X e (tB t) := by
  intro pins s σ H Q I hw
  refine isTrue_plain (thn (h pins s σ H _ I hw) fun v s1 ⟨x, H1, I1, r1, q1⟩ => ?_) (he _)
  obtain ⟨d, rfl, q⟩ := q1
  cases r1
  exact wpAny_truthy_bool ⟨H1, I1, q⟩

/-! ### and, or, not -/
variable {tA tB' : TT} {rest : List Expr}
def tAnd (t u : TT) : TT := fun σ H Q => t σ H fun c H1 => if c = true then u σ H1 Q else Q false H1
def tOr (t u : TT) : TT := fun σ H Q => t σ H fun c H1 => if c = true then Q true H1 else u σ H1 Q
def tNot (t : TT) : TT := fun σ H Q => t σ H fun c H1 => Q (!c) H1
theorem pw_and1 (ha : PT X a tA) : PW X (.BoolOp .And [a] pos) tA := by
  intro wh pins s σ H Q I h
  refine isTrue_and (thn (ha pins s σ H Q I h) fun c s1 e => ?_)
  cases c with
  | true => exact isTrue_and_nil e
  | false => exact e
theorem pw_or1 (ha : PT X a tA) : PW X (.BoolOp .Or [a] pos) tA := by
  intro wh pins s σ H Q I h
  refine isTrue_or (thn (ha pins s σ H Q I h) fun c s1 e => ?_)
  cases c with
  | false => exact isTrue_or_nil e
  | true => exact e
theorem pw_and (ha : PT X a tA) (hb : PW X (.BoolOp .And (b :: rest) pos) tB') : PW X (.BoolOp .And (a :: b :: rest) pos) (tAnd tA tB') := by
  intro wh pins s σ H Q I h
  refine isTrue_and (thn (ha pins s σ H _ I h) fun c s1 ⟨H1, I1, q1⟩ => ?_)
  cases c with
  | true => exact hb wh pins s1 σ H1 Q I1 q1
  | false => exact ⟨H1, I1, q1⟩
theorem pw_or (ha : PT X a tA) (hb : PW X (.BoolOp .Or (b :: rest) pos) tB') : PW X (.BoolOp .Or (a :: b :: rest) pos) (tOr tA tB') := by
  intro wh pins s σ H Q I h
  refine isTrue_or (thn (ha pins s σ H _ I h) fun c s1 ⟨H1, I1, q1⟩ => ?_)
  cases c with
  | true => exact ⟨H1, I1, q1⟩
  | false => exact hb wh pins s1 σ H1 Q I1 q1
theorem pt_not (ha : PT X a tA) : PT X (.UnaryOp .Not a pos) (tNot tA) := by
  intro pins s σ H Q I h
  exact isTrue_not (ha pins s σ H (fun c H1 => Q (!c) H1) I h)
/-- .. as values (bools) -/
def tAndV (ta tb : TE) : TE := fun σ H Q => ta σ H fun x H1 => ∃ c, x = .bl c ∧ if c = true then tb σ H1 Q else Q (.bl false) H1
def tNotV (ta : TE) : TE := fun σ H Q => ta σ H fun x H1 => ∃ c, x = .bl c ∧ Q (.bl (!c)) H1
theorem pe_one {op} {t : TE} (h : PE X a t) : PE X (.BoolOp op [a] pos) t := fun pins s σ H Q I hw => BoolOp_one (h pins s σ H Q I hw)
theorem pe_and (ha : PE X a ta) (hb : PE X (.BoolOp .And (b :: rest) pos) tb) : PE X (.BoolOp .And (a :: b :: rest) pos) (tAndV ta tb) := by
  intro pins s σ H Q I h
  refine BoolOp_and (thn (ha pins s σ H _ I h) fun v s1 ⟨x, H1, I1, r1, q1⟩ => ?_)
  obtain ⟨c, rfl, q1⟩ := q1
  cases r1
  refine wpAny_truthy_bool ?_
  cases c with
  | true => exact hb pins s1 σ H1 Q I1 q1
  | false => exact ⟨.bl false, H1, I1, rfl, q1⟩
theorem pe_not (ha : PE X a ta) : PE X (.UnaryOp .Not a pos) (tNotV ta) := by
  intro pins s σ H Q I h
  refine UnaryOp_ (thn (ha pins s σ H _ I h) fun v s1 ⟨x, H1, I1, r1, q1⟩ => ?_)
  obtain ⟨c, rfl, q1⟩ := q1
  cases r1
  exact not_of (wpAny_truthy_bool ⟨.bl (!c), H1, I1, rfl, q1⟩)
end
end L2

namespace L2
open PySem PySem.Spec PyProof.Rows

/-! ### a list, a tuple that is read: tracked, frozen, or an object of the module -/
def SqL (K : PySem.W.Frag) (H : Hp) (a : Addr) (xs : List V) : Prop :=
  Rd H a (.lst xs) ∨
    ∃ (o : Obj) (its : Array Value) (n : Nat), K.lookup a = some o ∧ o.cls = .type "list" ∧ o.dict = none ∧ o.data = .seq its n ∧ its.size ≤ sizeLine ∧ Vals xs its.toList
def SqT (K : PySem.W.Frag) (H : Hp) (a : Addr) (xs : List V) : Prop :=
  Rd H a (.tup xs) ∨
    ∃ (o : Obj) (its : Array Value) (n : Nat), K.lookup a = some o ∧ o.cls = .type "tuple" ∧ o.data = .seq its n ∧ its.size ≤ sizeLine ∧ Vals xs its.toList
def absV : Value → Option V
  | .none => some .non
  | .bool b => some (.bl b)
  | .int i _ => some (.int i)
  | .str x _ => some (.str x)
  | .bytes b _ => some (.byt b)
  | .float b _ => some (.flt b)
  | .ref a => some (.ref a)
  | .type n => some (.ty n)
  | _ => none
theorem RelV.abs {x : V} {u : Value} (r : RelV x u) : absV u = some x := by
  cases x with
  | non => cases r; rfl
  | bl _ => cases r; rfl
  | int _ => obtain ⟨t, rfl⟩ := r; rfl
  | str _ => obtain ⟨t, rfl⟩ := r; rfl
  | byt _ => obtain ⟨t, rfl⟩ := r; rfl
  | flt _ => obtain ⟨t, rfl⟩ := r; rfl
  | ref _ => cases r; rfl
  | ty _ => cases r; rfl
theorem RelV.inj {x y : V} {u : Value} (r : RelV x u) (q : RelV y u) : x = y := Option.some.inj (r.abs.symm.trans q.abs)
theorem Vals.inj : ∀ {xs ys : List V} {us : List Value}, Vals xs us → Vals ys us → xs = ys
  | _, _, _, .nil, .nil => rfl
  | _, _, _, .cons r t, .cons r' t' => by rw [r.inj r', Vals.inj t t']
section
variable {X : Cx} {pins : List (Addr × Obj)} {σ : St} {H : Hp} {s : Shared} {a : Addr} {xs ys : List V}
theorem SqL.of {K : PySem.W.Frag} (h : H a = some (.lst xs)) : SqL K H a xs := .inl (.inl h)
theorem SqT.of {K : PySem.W.Frag} (h : H a = some (.tup xs)) : SqT K H a xs := .inl (.inl h)
theorem Inv.list (I : Inv X pins σ H s) (h : SqL X.K H a xs) : ∃ its : List Value, Vals xs its ∧ PlainL s.heap a its.toArray ∧ xs.length ≤ sizeLine := by
  rcases h with h | ⟨o, its, n, hk, hc, hd, hs, hz, r⟩
  · obtain ⟨z, its, n, r, e⟩ := h.ok I.hok
    exact ⟨its, r, ⟨_, n, e, rfl, rfl, rfl⟩, z⟩
  · refine ⟨its.toList, r, ⟨o, n, I.kIn a o hk, hc, hd, by simpa using hs⟩, ?_⟩
    have e := r.length
    simp only [Array.length_toList] at e
    omega
theorem Inv.tuple (I : Inv X pins σ H s) (h : SqT X.K H a xs) : ∃ its : List Value, Vals xs its ∧ IsTup s.heap a its.toArray ∧ xs.length ≤ sizeLine := by
  rcases h with h | ⟨o, its, n, hk, hc, hs, hz, r⟩
  · obtain ⟨z, its, r, p⟩ := h.ok I.hok
    exact ⟨its, r, p, z⟩
  · refine ⟨its.toList, r, ⟨o, I.kIn a o hk, hc, n, by simpa using hs⟩, ?_⟩
    have e := r.length
    simp only [Array.length_toList] at e
    omega
theorem Inv.list_inj (I : Inv X pins σ H s) (h : SqL X.K H a xs) (h' : SqL X.K H a ys) : xs = ys := by
  obtain ⟨its, r, ⟨o, n, e, _, _, d⟩, _⟩ := I.list h
  obtain ⟨its', r', ⟨o', n', e', _, _, d'⟩, _⟩ := I.list h'
  rw [e] at e'; cases e'
  rw [d] at d'
  injection d' with d1 _
  have : its = its' := by simpa using congrArg Array.toList d1
  subst this
  exact r.inj r'
theorem Inv.tuple_inj (I : Inv X pins σ H s) (h : SqT X.K H a xs) (h' : SqT X.K H a ys) : xs = ys := by
  obtain ⟨its, r, ⟨o, e, _, n, d⟩, _⟩ := I.tuple h
  obtain ⟨its', r', ⟨o', e', _, n', d'⟩, _⟩ := I.tuple h'
  rw [e] at e'; cases e'
  rw [d] at d'
  injection d' with d1 _
  have : its = its' := by simpa using congrArg Array.toList d1
  subst this
  exact r.inj r'
end

/-! ### another wish about exceptions -/
abbrev Cx.wish (X : Cx) (E : Value → Shared → Prop) : Cx := { X with xe := E }
/-- no exception leaves -/
abbrev Cx.nox (X : Cx) : Cx := X.wish fun _ _ => False
theorem Cx.Ok.wish {X : Cx} (ok : X.Ok) (E : Value → Shared → Prop) : (X.wish E).Ok :=
  ⟨ok.mod, ok.kind, ok.glob, ok.blt, ok.above, ok.inj, ok.has, ok.cab, ok.hd, ok.frames, ok.stk, ok.exf, ok.bs, ok.bsz, ok.noex, ok.exfs, ok.funs, ok.frf⟩
theorem Cx.Ok.unwish {X : Cx} {E : Value → Shared → Prop} (ok : (X.wish E).Ok) : X.Ok :=
  ⟨ok.mod, ok.kind, ok.glob, ok.blt, ok.above, ok.inj, ok.has, ok.cab, ok.hd, ok.frames, ok.stk, ok.exf, ok.bs, ok.bsz, ok.noex, ok.exfs, ok.funs, ok.frf⟩
section
variable {X : Cx} {pins : List (Addr × Obj)} {σ : St} {H : Hp} {s : Shared} {E : Value → Shared → Prop}
theorem Inv.wish (I : Inv X pins σ H s) (E : Value → Shared → Prop) : Inv (X.wish E) pins σ H s := ⟨I.ok.wish E, I.os, I.bare, I.base, I.loc, I.cell, I.free, I.freeC, I.pin, I.hok, I.len⟩
theorem Inv.unwish (I : Inv (X.wish E) pins σ H s) : Inv X pins σ H s := ⟨I.ok.unwish, I.os, I.bare, I.base, I.loc, I.cell, I.free, I.freeC, I.pin, I.hok, I.len⟩
theorem SP.unwish {D : Ends} {f : Flow} {s' : Shared} (h : SP (X.wish E) pins D f s') : SP X pins D f s' := by
  cases f with
  | next => obtain ⟨σ', H', I, q⟩ := h; exact ⟨σ', H', I.unwish, q⟩
  | brk => obtain ⟨σ', H', I, q⟩ := h; exact ⟨σ', H', I.unwish, q⟩
  | cont => obtain ⟨σ', H', I, q⟩ := h; exact ⟨σ', H', I.unwish, q⟩
  | ret u => obtain ⟨v, σ', H', I, r, q⟩ := h; exact ⟨v, σ', H', I.unwish, r, q⟩
theorem PE.nox {e : Expr} {t : TE} (h : PE X.nox e t) : PE X e t := fun pins s σ H Q I hw =>
  wpAny_mono (h pins s σ H Q (I.wish _) hw) (fun _ _ ⟨v, H', I', r, q⟩ => ⟨v, H', I'.unwish, r, q⟩) fun _ _ z => False.elim z
theorem PT.nox {e : Expr} {t : TT} (h : PT X.nox e t) : PT X e t := fun pins s σ H Q I hw =>
  wpAny_mono (h pins s σ H Q (I.wish _) hw) (fun _ _ ⟨H', I', q⟩ => ⟨H', I'.unwish, q⟩) fun _ _ z => False.elim z
theorem PSs.nox {st : List Stmt} {t : TS} (h : PSs X.nox st t) : PSs X st t := fun pins s σ H D I hw =>
  wpAny_mono (h pins s σ H D (I.wish _) hw) (fun _ _ q => q.unwish) fun _ _ z => False.elim z
end

/-! ### blocks and small statements -/
section
variable {X : Cx} {st : Stmt} {rest : List Stmt} {t u : TS} {e : Expr} {te : TE} {pos : Pos}
def tNext : TS := fun D σ H => D.nx σ H
def tSeq (t u : TS) : TS := fun D σ H => t { D with nx := u D } σ H
theorem pss_nil : PSs X [] tNext := fun _ _ σ H _ I h => wpAny_execs_nil ⟨σ, H, I, h⟩
theorem pss_cons (h1 : PS X st t) (h2 : PSs X rest u) : PSs X (st :: rest) (tSeq t u) := by
  intro pins s σ H D I h
  refine wpAny_execs_cons (thn (h1 pins s σ H { D with nx := u D } I h) fun f s1 q => ?_)
  cases f with
  | next =>
    obtain ⟨σ', H', I', q⟩ := q
    exact h2 pins s1 σ' H' D I' q
  | ret v => exact q
  | brk => exact q
  | cont => exact q
theorem pss_one (h1 : PS X st t) : PSs X [st] t := by
  intro pins s σ H D I h
  refine wpAny_execs_cons (thn (h1 pins s σ H D I h) fun f s1 q => ?_)
  cases f with
  | next => exact wpAny_execs_nil q
  | ret v => exact q
  | brk => exact q
  | cont => exact q
/-- in a def's body nothing is shown -/
theorem Inv.quiet {pins : List (Addr × Obj)} {σ : St} {H : Hp} {s : Shared} (I : Inv X pins σ H s) : interactive X.env = false := by simp [interactive, I.ok.kind]
/-- an expression whose value is dropped -/
def tDrop (te : TE) : TS := fun D σ H => te σ H fun _ H1 => D.nx σ H1
theorem ps_expr (he : PE X e te) (hs : swapsWith e none pos.line X.env = pure false := by rfl) : PS X (.Expr e pos) (tDrop te) := by
  intro pins s σ H D I h
  exact wpAny_Expr_any (thn (he pins s σ H _ I h) fun v s1 ⟨x, H1, I1, r1, q1⟩ => ⟨σ, H1, I1, q1⟩) I.quiet hs
def tRet (te : TE) : TS := fun D σ H => te σ H D.rt
theorem ps_ret (he : PE X e te) : PS X (.Return (some e) pos) (tRet te) := by
  intro pins s σ H D I h
  exact wpAny_Return_some (thn (he pins s σ H _ I h) fun v s1 ⟨x, H1, I1, r1, q1⟩ => ⟨x, σ, H1, I1, r1, q1⟩)
def tIfS (c : TT) (t u : TS) : TS := fun D σ H => c σ H fun b H1 => if b = true then t D σ H1 else u D σ H1
theorem ps_if {c : Expr} {a b : List Stmt} {tc : TT} (hc : PT X c tc) (ha : PSs X a t) (hb : PSs X b u) : PS X (.If c a b pos) (tIfS tc t u) := by
  intro pins s σ H D I h
  refine wpAny_If (thn (hc pins s σ H _ I h) fun d s1 ⟨H1, I1, q1⟩ => ?_)
  cases d with
  | true => exact ha pins s1 σ H1 D I1 q1
  | false => exact hb pins s1 σ H1 D I1 q1
end

/-! ### targets -/
abbrev TG := V → St → Hp → (St → Hp → Prop) → Prop
abbrev TGs := List V → St → Hp → (St → Hp → Prop) → Prop
def PG (X : Cx) (target : Expr) (t : TG) : Prop :=
  ∀ (pins : List (Addr × Obj)) (s : Shared) (σ : St) (H : Hp) (v : V) (u : Value) (Q : St → Hp → Prop), Inv X pins σ H s → RelV v u → t v σ H Q →
    wpAny (model X.prog X.w) X.A (assign target X.env u) (fun _ s' => ∃ σ' H', Inv X pins σ' H' s' ∧ Q σ' H') X.xe s
/-- several targets, one after another -/
def PGs (X : Cx) (ts : List Expr) (t : TGs) : Prop :=
  ∀ (pins : List (Addr × Obj)) (s : Shared) (σ : St) (H : Hp) (vs : List V) (us : List Value) (Q : St → Hp → Prop), Inv X pins σ H s → Vals vs us → t vs σ H Q →
    wpAny (model X.prog X.w) X.A (assignInOrder ((assignEach ts X.env).map (·.2)) us) (fun _ s' => ∃ σ' H', Inv X pins σ' H' s' ∧ Q σ' H') X.xe s
/-- o[i] = v, by values -/
abbrev TSet := V → V → V → Hp → (Hp → Prop) → Prop
def PSet (X : Cx) (t : TSet) : Prop :=
  ∀ (pins : List (Addr × Obj)) (s : Shared) (σ : St) (H : Hp) (o i v : V) (ov iv u : Value) (Q : Hp → Prop), Inv X pins σ H s → RelV o ov → RelV i iv → RelV v u → t o i v H Q →
    wpAny (model X.prog X.w) X.A (setItem ov iv u) (fun _ s' => ∃ H', Inv X pins σ H' s' ∧ Q H') X.xe s
section
variable {X : Cx} {pos : Pos}
def gName (i : Nat) : TG := fun v σ H Q => Q (σ.set i (some v)) H
theorem pg_name {i : Nat} {x : Str} (hN : X.N.Nodup) (hi : X.N[i]? = some x) (hx : Loc X.env.scope x) (hf : X.fn x = true ∨ X.env.scope.names.lookup x = some .local := by first | exact .inl rfl | exact .inr rfl | assumption) : PG X (.Name x pos) (gName i) := by
  intro pins s σ H v u Q I r h
  exact wpAny_assign_Name (store_ok I hN hi hx r (fun s' I' => ⟨_, H, I', h⟩) hf)
def gNil : TGs := fun vs σ H Q => vs = [] ∧ Q σ H
def gCons (t : TG) (u : TGs) : TGs := fun vs σ H Q => ∃ v r, vs = v :: r ∧ t v σ H fun σ' H' => u r σ' H' Q
theorem pgs_nil : PGs X [] gNil := by
  intro pins s σ H vs us Q I r h
  obtain ⟨e, h⟩ := h
  subst e
  cases r
  exact assignInOrder_nil ⟨σ, H, I, h⟩
theorem pgs_cons {e : Expr} {es : List Expr} {t : TG} {u : TGs} (h1 : PG X e t) (h2 : PGs X es u)
    (hs : (assignEach (e :: es) X.env).map (·.2) = assign e X.env :: (assignEach es X.env).map (·.2) := by rfl) : PGs X (e :: es) (gCons t u) := by
  intro pins s σ H vs us Q I r h
  obtain ⟨v, vr, e1, h⟩ := h
  subst e1
  cases r with
  | cons r rr =>
    rw [hs]
    refine assignInOrder_cons (thn (h1 pins s σ H _ _ _ I r h) fun _ s1 ⟨σ1, H1, I1, q1⟩ => ?_)
    exact h2 pins s1 σ1 H1 _ _ Q I1 rr q1
/-- (a, b, ..) = a tuple of that length -/
def gTup (K : PySem.W.Frag) (n : Nat) (t : TGs) : TG := fun v σ H Q => ∃ a xs, v = .ref a ∧ SqT K H a xs ∧ xs.length = n ∧ t xs σ H Q
theorem pg_tup {es : List Expr} {k : Nat} {t : TGs} {n : Nat} (hc : X.calm = true) (h : PGs X es t)
    (hn : (assignEach es X.env).length = n := by rfl) (hst : (assignEach es X.env).findIdx? (·.1) = none := by rfl) : PG X (.Tuple es k pos) (gTup X.K n t) := by
  intro pins s σ H v u Q I r hw
  obtain ⟨a, xs, e1, hq, hl, hw⟩ := hw
  subst e1
  cases r
  obtain ⟨its, rv, ht, hz⟩ := I.tuple hq
  refine assign_Tuple_tuple (I.ok.hd hc) ht (by simp [hn, ← hl, rv.length]) hst fun h' hx => ?_
  have I1 : Inv X pins σ H { s with heap := h' } := I.kept (t' := s.toks) fun b o e => hx b o (Nat.ne_of_lt (Heap.lt_size e)) e
  exact h pins _ σ H xs _ Q I1 (by simpa using rv) hw
/-- o[i] = .. -/
def gSub (to ti : TE) (t : TSet) : TG := fun v σ H Q => to σ H fun o H1 => ti σ H1 fun i H2 => t o i v H2 fun H3 => Q σ H3
theorem pg_sub {o i : Expr} {to ti : TE} {t : TSet} (ho : PE X o to) (hi : PE X i ti) (hs : PSet X t)
    (ha : ∀ v, assign (.Subscript o i pos) X.env v = (do
      let ov ← holding [v] (eval o X.env)
      let iv ← holding [v, ov] (eval i X.env)
      standAt pos
      holding [v, ov, iv] (setItem ov iv v)
      release [v, ov, iv] []) := by intro _; rfl) : PG X (.Subscript o i pos) (gSub to ti t) := by
  intro pins s σ H v u Q I r h
  rw [ha]
  refine wpAny_bind (wpAny_holding (thn (ho pins s σ H _ I h) fun ov s1 ⟨x, H1, I1, r1, q1⟩ => ?_))
  refine wpAny_bind (wpAny_holding (thn (hi pins s1 σ H1 _ I1 q1) fun iv s2 ⟨y, H2, I2, r2, q2⟩ => ?_))
  refine wpAny_bind (wpAny_standAt (wpAny_bind (wpAny_holding (thn (hs pins s2 σ H2 x y v ov iv u _ I2 r1 r2 r q2) fun _ s3 ⟨H3, I3, q3⟩ => ?_))))
  exact wpAny_release ⟨σ, H3, I3, q3⟩
/-- target = value -/
def tAsg (te : TE) (g : TG) : TS := fun D σ H => te σ H fun x H1 => g x σ H1 D.nx
theorem ps_asg {tg e : Expr} {te : TE} {g : TG} (he : PE X e te) (hg : PG X tg g) (hs : swapsWithSole [tg] e pos.line X.env = pure false := by rfl) (hw : swappedStores [tg] e X.env = pure none := by rfl)
    (h1 : (assignEach [tg] X.env).map (·.2) = [assign tg X.env] := by rfl) : PS X (.Assign [tg] e pos) (tAsg te g) := by
  intro pins s σ H D I h
  refine wpAny_Assign_stores (thn (he pins s σ H _ I h) fun v s1 ⟨x, H1, I1, r1, q1⟩ => ?_) hs hw
  rw [h1]
  exact thn (hg pins s1 σ H1 x v _ I1 r1 q1) fun _ s2 q => q
/-- name = value -/
theorem ps_set {i : Nat} {x : Str} {e : Expr} {te : TE} {pos' : Pos} (hN : X.N.Nodup) (hi : X.N[i]? = some x) (hx : Loc X.env.scope x) (he : PE X e te) (hs : swapsWith e (some (.Name x pos')) pos.line X.env = pure false := by rfl) (hf : X.fn x = true ∨ X.env.scope.names.lookup x = some .local := by first | exact .inl rfl | exact .inr rfl | assumption) :
    PS X (.Assign [.Name x pos'] e pos) (tAsg te (gName i)) := by
  intro pins s σ H D I h
  refine wpAny_Assign_Name (thn (he pins s σ H _ I h) fun v s1 ⟨y, H1, I1, r1, q1⟩ => ?_) hs
  exact store_ok I1 hN hi hx r1 (fun s2 I2 => ⟨_, H1, I2, q1⟩) hf
/-- a, b = x, y with plain local names: stored from the right; the pair itself is not tracked (the opening rows as in PyProof/Rows/TupAssign.lean:23) -/
def tPar (i j : Nat) (ta : TA) : TS := fun D σ H => ta σ H fun vs H1 => ∃ v w, vs = [v, w] ∧ D.nx ((σ.set i (some v)).set j (some w)) H1
theorem ps_par {i j : Nat} {x y : Str} {a b : Expr} {ta : TA} {px py pt : Pos} {kt k2 pt2} (hc : X.calm = true) (hN : X.N.Nodup) (hi : X.N[i]? = some x) (hj : X.N[j]? = some y) (hij : i ≠ j)
    (hx : X.env.scope.names.lookup x = some .local) (hy : X.env.scope.names.lookup y = some .local) (ha : PA X [a, b] ta)
    (hw : swappedStores [.Tuple [.Name x px, .Name y py] kt pt] (.Tuple [a, b] k2 pt2) X.env = pure (some [x, y]))
    (hs : swapsWithSole [.Tuple [.Name x px, .Name y py] kt pt] (.Tuple [a, b] k2 pt2) pos.line X.env = pure false := by rfl) :
    PS X (.Assign [.Tuple [.Name x px, .Name y py] kt pt] (.Tuple [a, b] k2 pt2) pos) (tPar i j ta) := by
  intro pins s σ H D I h
  rw [exec_Assign_arm]
  refine wpAny_bind (wpAny_standAt ?_)
  rw [hs]
  refine wpAny_bind (wpAny_pure ?_)
  rw [if_neg (by decide)]
  refine wpAny_bind (Tuple_ (thn (ha _ pins s σ H _ I h) fun us s1 ⟨vs, H1, I1, r1, q1⟩ => ?_))
  obtain ⟨v, w, e1, q1⟩ := q1
  subst e1
  obtain ⟨u1, u2, rfl, rv, rw'⟩ : ∃ u1 u2, us = [u1, u2] ∧ RelV v u1 ∧ RelV w u2 := by
    cases r1 with
    | cons p q =>
      cases q with
      | cons p' q' =>
        cases q'
        exact ⟨_, _, rfl, p, p'⟩
  refine wpAny_newObj_type ?_ (by show 2 ≤ sizeLine; decide)
  have I2 : Inv X pins σ H1 { s1 with heap := s1.heap.push { cls := .type "tuple", data := .seq [u1, u2].toArray } } := I1.kept (t' := s1.toks) fun b o e => Heap.get?_push_of_some _ e
  rw [hw]
  refine wpAny_bind (wpAny_pure ?_)
  show wpAny (model X.prog X.w) X.A (do rule "assign.swapped-stores"; let items ← unpackItems (.ref s1.heap.objs.size) 2 none; assignInOrder [fun v => bindName X.env y v, fun v => bindName X.env x v] items.reverse; pure Flow.next) _ _ _
  refine wpAny_bind (wpAny_rule (wpAny_bind (unpackItems_tuple (items := #[u1, u2]) (I.ok.hd hc) (IsTup.new s1.heap _) fun h' hx' => ?_)))
  have I3 := I2.kept (h' := h') (t' := s1.toks) fun b o e => hx' b o (Nat.ne_of_lt (Heap.lt_size e)) e
  show wpAny _ _ (assignInOrder [fun v => bindName X.env y v, fun v => bindName X.env x v] [u2, u1] >>= fun _ => pure Flow.next) _ _ _
  refine wpAny_bind (assignInOrder_cons (wpAny_bindName (store_ok I3 hN hj (.inl hy) rw' (fun s2 I4 => ?_) (.inr hy))))
  refine assignInOrder_cons (wpAny_bindName (store_ok I4 hN hi (.inl hx) rv (fun s3 I5 => assignInOrder_nil (wpAny_pure ?_)) (.inr hx)))
  rw [List.set_comm _ _ (Ne.symm hij)] at I5
  exact ⟨_, H1, I5, q1⟩
end

/-! ### while -/
section
variable {X : Cx} {pos : Pos}
/-- the invariant W with its measure -/
def tWhile (c : TT) (tb : TS) : TS := fun D σ H => ∃ W : Nat → St → Hp → Prop, (∃ m, W m σ H) ∧ ∀ m σ H, W m σ H →
  c σ H fun b H1 => if b = true then ∃ N : St → Hp → Prop, (∀ σ' H', N σ' H' → ∃ m', m' < m ∧ W m' σ' H') ∧ tb { D with nx := N, ct := N, bk := D.nx } σ H1 else D.nx σ H1
theorem ps_while {c : Expr} {body : List Stmt} {tc : TT} {tb : TS} (hp : PassesOwn (model X.prog X.w) X.A X.env X.xe) (hc : PT X c tc) (hb : PSs X body tb) : PS X (.While c body [] pos) (tWhile tc tb) := by
  intro pins s σ H D I h
  obtain ⟨W, ⟨m0, w0⟩, turn⟩ := h
  refine wpAny_While (codeAny_whileLoop (fun n s' => ∃ σ' H', Inv X pins σ' H' s' ∧ W n σ' H') ?_ m0 ⟨σ, H, I, w0⟩)
  rintro n s1 ⟨σ1, H1, I1, w1⟩
  refine wpAny_passesOwn hp (thn (hc pins s1 σ1 H1 _ I1 (turn n σ1 H1 w1)) fun b s2 ⟨H2, I2, q2⟩ => ?_)
  cases b with
  | true =>
    obtain ⟨N, hN, q2⟩ := q2
    rw [if_pos rfl]
    refine wpAny_passesOwn hp (thn (hb pins s2 σ1 H2 _ I2 q2) fun f s3 q3 => ?_)
    cases f with
    | next =>
      obtain ⟨σ3, H3, I3, n3⟩ := q3
      obtain ⟨m', hm, w3⟩ := hN σ3 H3 n3
      exact ⟨m', hm, σ3, H3, I3, w3⟩
    | cont =>
      obtain ⟨σ3, H3, I3, n3⟩ := q3
      obtain ⟨m', hm, w3⟩ := hN σ3 H3 n3
      exact ⟨m', hm, σ3, H3, I3, w3⟩
    | brk => exact q3
    | ret v => exact q3
  | false =>
    rw [if_neg Bool.false_ne_true]
    exact wpAny_execs_nil ⟨σ1, H2, I2, q2⟩
end

/-! ### what a loop or a comprehension walks -/
/-- at turn i: it yields x (the heap may grow), or it stops -/
structure It where
  go : Nat → Hp → Prop
  yld : Nat → Hp → V → Hp → Prop
  stop : Nat → Hp → Prop
/-- the iterator's own objects may turn: they are not the frame's, not pinned, younger than the entry (or a comprehension's own) -/
def FpOk (X : Cx) (pins : List (Addr × Obj)) (H : Hp) (b : Addr) : Prop :=
  H b = none ∧ b ≠ X.env.locals ∧ b ∉ X.fs ∧ (b ∈ X.ex ∨ X.s₀.heap.objs.size ≤ b) ∧ (∀ x c, X.env.cells.lookup x = some c → c ≠ b) ∧ ∀ p ∈ X.pn ++ pins, p.1 ≠ b
theorem Inv.fpOk {X : Cx} {pins : List (Addr × Obj)} {σ : St} {H H' : Hp} {s : Shared} {b : Addr} (I : Inv X pins σ H s) (hb : s.heap.objs.size ≤ b) (hn : H' b = none) : FpOk X pins H' b := by
  refine ⟨hn, Nat.ne_of_gt (Nat.lt_of_lt_of_le I.lt hb), I.nofs hb, .inr (Nat.le_trans I.sz hb), fun x c e z => ?_, fun p hp z => ?_⟩
  · obtain ⟨v, q⟩ := I.cell x c e
    exact absurd (Nat.lt_of_lt_of_le q.lt (by rw [z]; exact hb)) (Nat.lt_irrefl _)
  · exact absurd (Nat.lt_of_lt_of_le (Heap.lt_size (I.pin p hp).1) (by rw [z]; exact hb)) (Nat.lt_irrefl _)
structure Turn (P : Program) (w : World) (K : PySem.W.Frag) (tg : Expr) (J : It) (fp : List Addr) (it : Addr) (tn : Nat → Heap → Prop) : Prop where
  mem : it ∈ fp
  obj : ∀ i h, tn i h → ∀ b ∈ fp, ∃ o, h.get? b = some o ∧ ∀ v, o.data ≠ .cell v
  keep : ∀ i h h', tn i h → (∀ b ∈ fp, ∀ o, h.get? b = some o → h'.get? b = some o) → tn i h'
  item : ∀ (X : Cx), X.prog = P → X.w = w → X.K = K → X.calm = true → ∀ (i : Nat) (pins : List (Addr × Obj)) (s : Shared) (σ : St) (H : Hp) (E : Value → Shared → Prop), Inv X pins σ H s → (∀ b ∈ fp, FpOk X pins H b) → tn i s.heap → J.go i H →
    wpAny (model P w) X.A (pyNext (.ref it)) (fun r s1 => ∃ u, r = some u ∧
      wpAny (model P w) X.A (letOwnedTupleGo tg (.ref it) u) (fun _ s2 => ∃ x H', Inv X pins σ H' s2 ∧ RelV x u ∧ J.yld i H x H' ∧ tn (i + 1) s2.heap ∧ ∀ b ∈ fp, H' b = none) E s1) E s
  done : ∀ (X : Cx), X.prog = P → X.w = w → X.K = K → X.calm = true → ∀ (i : Nat) (pins : List (Addr × Obj)) (s : Shared) (σ : St) (H : Hp) (E : Value → Shared → Prop), Inv X pins σ H s → (∀ b ∈ fp, FpOk X pins H b) → tn i s.heap → J.stop i H →
    wpAny (model P w) X.A (pyNext (.ref it)) (fun r s1 => r = none ∧ Inv X pins σ H s1) E s
  self : ∀ (A : Around) (i : Nat) (s : Shared) (Q : Value → Shared → Prop) (E : Value → Shared → Prop), tn i s.heap → Q (.ref it) s → wpAny (model P w) A (pyIter (.ref it)) Q E s
abbrev TI := St → Hp → (It → Hp → Prop) → Prop
/-- an iterator has come -/
def PIE (X : Cx) (pins : List (Addr × Obj)) (σ : St) (tg : Expr) (R : It → Hp → Prop) (itv : Value) (s2 : Shared) : Prop :=
  ∃ (it : Addr) (fp : List Addr) (tn : Nat → Heap → Prop) (J : It) (H' : Hp), itv = .ref it ∧ Inv X pins σ H' s2 ∧ Turn X.prog X.w X.K tg J fp it tn ∧ tn 0 s2.heap ∧ (∀ b ∈ fp, FpOk X pins H' b) ∧ R J H'
def PI (X : Cx) (tg iter : Expr) (wi : TI) : Prop :=
  ∀ (pins : List (Addr × Obj)) (s : Shared) (σ : St) (H : Hp) (R : It → Hp → Prop), Inv X pins σ H s → wi σ H R →
    wpAny (model X.prog X.w) X.A (eval iter X.env) (fun v s1 => wpAny (model X.prog X.w) X.A (pyIter v) (PIE X pins σ tg R) X.xe s1) X.xe s

/-- the step ahead of the store is nothing for an iterator that keeps no tuple -/
theorem go_of {M : Model} {A : Around} {E : Value → Shared → Prop} {s : Shared} {tg : Expr} {it : Addr} {u : Value} {o : Obj} {n : String} {vs : Array Value} {Q : Unit → Shared → Prop} (ho : s.heap.get? it = some o) (hc : o.cls = .type n) (hd : o.data = .fields vs)
    (hn : ["enumerate", "zip", "dict_itemiterator", "dict_reverseitemiterator", "odict_iterator", "itertools.zip_longest", "itertools.pairwise"].contains n = false) (hQ : Q () s) : wpAny M A (letOwnedTupleGo tg (.ref it) u) Q E s := by
  unfold letOwnedTupleGo
  cases tg <;> first
    | exact wpAny_pure hQ
    | (cases u <;> first
        | exact wpAny_pure hQ
        | (refine wpAny_bind (wpAny_load ho ?_)
           rw [hc, hd]
           show wpAny M A (if (["enumerate", "zip", "dict_itemiterator", "dict_reverseitemiterator", "odict_iterator", "itertools.zip_longest", "itertools.pairwise"].contains n && vs[0]? == some (rawInt _)) = true then _ else _) Q E s
           rw [if_neg (by intro h; rw [hn, Bool.false_and] at h; cases h)]
           exact wpAny_pure hQ))

/-- the list at a, as it stands at each turn (a loop may append to it) -/
def Itl (K : PySem.W.Frag) (a : Addr) : It :=
  ⟨fun i H => ∃ xs x, SqL K H a xs ∧ xs[i]? = some x, fun i H x H' => H' = H ∧ ∀ xs, SqL K H a xs → xs[i]? = some x, fun i H => ∃ xs, SqL K H a xs ∧ xs.length ≤ i⟩
def Itt (K : PySem.W.Frag) (a : Addr) : It :=
  ⟨fun i H => ∃ xs x, SqT K H a xs ∧ xs[i]? = some x, fun i H x H' => H' = H ∧ ∀ xs, SqT K H a xs → xs[i]? = some x, fun i H => ∃ xs, SqT K H a xs ∧ xs.length ≤ i⟩
/-- lo, lo + 1, .. (n of them) -/
def Itr (lo : Int) (n : Nat) : It := ⟨fun i _ => i < n, fun i H x H' => H' = H ∧ x = .int (lo + i), fun i _ => n ≤ i⟩
theorem turn_list {P : Program} {w : World} {K : PySem.W.Frag} {tg : Expr} (a it : Addr) : Turn P w K tg (Itl K a) [it] it (fun i h => h.IsListIter it a i) where
  mem := by simp
  obj := fun i h st b hb => by
    have e : b = it := by simpa using hb
    subst e
    obtain ⟨o, e, c, d⟩ := st
    exact ⟨o, e, fun v z => by rw [d] at z; cases z⟩
  keep := fun i h h' st k => st.at fun o e => k it (by simp) o e
  item := by
    intro X hP hw hK hc i pins s σ H E I hf st hg
    subst hP hw hK
    obtain ⟨xs, x, hq, hx⟩ := hg
    obtain ⟨its, rv, p, hz⟩ := I.list hq
    obtain ⟨u, hu, ru⟩ := rv.get hx
    obtain ⟨f0, f1, f2, f3, f4, f5⟩ := hf it (by simp)
    refine wpAny_pyNext_list_item st p.isList (x := u) (by simpa using hu) fun h' st' sb => ?_
    have I1 : Inv X pins σ H { s with heap := h' } := I.turned (t' := s.toks) (fun b o hb e => (sb.2 b hb).trans e) f0 f1 f3 f4 f5
    obtain ⟨o, e, c, d⟩ := id st'
    exact ⟨u, rfl, go_of (s := { s with heap := h' }) e c d (by decide) ⟨x, H, I1, ru, ⟨rfl, fun ys hy => by rw [I.list_inj hy hq]; exact hx⟩, st', fun b hb => (hf b hb).1⟩⟩
  done := by
    intro X hP hw hK hc i pins s σ H E I hf st hg
    subst hP hw hK
    obtain ⟨xs, hq, hx⟩ := hg
    obtain ⟨its, rv, p, hz⟩ := I.list hq
    obtain ⟨f0, f1, f2, f3, f4, f5⟩ := hf it (by simp)
    have hl := rv.length
    exact wpAny_pyNext_list_end (I.ok.hd hc) st p.isList (by simp; omega) fun h' eb => ⟨rfl, I.turned (t' := s.toks) (fun b o hb e => eb b o hb e) f0 f1 f3 f4 f5⟩
  self := fun _ _ _ _ _ st h => wpAny_pyIter_listiter st h
theorem turn_tuple {P : Program} {w : World} {K : PySem.W.Frag} {tg : Expr} (a it : Addr) : Turn P w K tg (Itt K a) [it] it (fun i h => h.IsTupleIter it a i) where
  mem := by simp
  obj := fun i h st b hb => by
    have e : b = it := by simpa using hb
    subst e
    obtain ⟨o, e, c, d⟩ := st
    exact ⟨o, e, fun v z => by rw [d] at z; cases z⟩
  keep := fun i h h' st k => st.at fun o e => k it (by simp) o e
  item := by
    intro X hP hw hK hc i pins s σ H E I hf st hg
    subst hP hw hK
    obtain ⟨xs, x, hq, hx⟩ := hg
    obtain ⟨its, rv, p, hz⟩ := I.tuple hq
    obtain ⟨u, hu, ru⟩ := rv.get hx
    obtain ⟨f0, f1, f2, f3, f4, f5⟩ := hf it (by simp)
    refine wpAny_pyNext_tuple_item st (show s.heap.IsTuple a its.toArray from p) (x := u) (by simpa using hu) fun h' st' sb => ?_
    have I1 : Inv X pins σ H { s with heap := h' } := I.turned (t' := s.toks) (fun b o hb e => (sb.2 b hb).trans e) f0 f1 f3 f4 f5
    obtain ⟨o, e, c, d⟩ := id st'
    exact ⟨u, rfl, go_of (s := { s with heap := h' }) e c d (by decide) ⟨x, H, I1, ru, ⟨rfl, fun ys hy => by rw [I.tuple_inj hy hq]; exact hx⟩, st', fun b hb => (hf b hb).1⟩⟩
  done := by
    intro X hP hw hK hc i pins s σ H E I hf st hg
    subst hP hw hK
    obtain ⟨xs, hq, hx⟩ := hg
    obtain ⟨its, rv, p, hz⟩ := I.tuple hq
    obtain ⟨f0, f1, f2, f3, f4, f5⟩ := hf it (by simp)
    have hl := rv.length
    exact wpAny_pyNext_tuple_end (I.ok.hd hc) st (show s.heap.IsTuple a its.toArray from p) (by simp; omega) fun h' eb => ⟨rfl, I.turned (t' := s.toks) (fun b o hb e => eb b o hb e) f0 f1 f3 f4 f5⟩
  self := fun _ _ _ _ _ st h => wpAny_pyIter_tupleiter st h
theorem turn_range {P : Program} {w : World} {K : PySem.W.Frag} {tg : Expr} (it : Addr) (lo : Int) (n : Nat) : Turn P w K tg (Itr lo n) [it] it (fun i h => IsRangeIter h it (lo + (i : Nat) * 1) ((n : Int) - (i : Nat)) 1) where
  mem := by simp
  obj := fun i h st b hb => by
    have e : b = it := by simpa using hb
    subst e
    exact ⟨_, st, fun v z => by
      have z' : Data.fields _ = Data.cell v := z
      cases z'⟩
  keep := fun i h h' st k => k it (by simp) _ st
  item := by
    intro X hP hw hK hc i pins s σ H E I hf st hg
    subst hP hw hK
    obtain ⟨f0, f1, f2, f3, f4, f5⟩ := hf it (by simp)
    have W := Walks.range (prog := X.prog) (w := X.w) (I.ok.hd hc) it lo 1 n
    refine W.item i s _ _ hg st fun v h' tk hv st' kk => ?_
    obtain ⟨t, rfl⟩ := hv
    have I1 : Inv X pins σ H { s with heap := h', toks := tk } := I.turned (fun b o hb e => kk b o (by simpa using hb) e) f0 f1 f3 f4 f5
    refine ⟨_, rfl, go_of (s := { s with heap := h', toks := tk }) (n := "range_iterator") st' rfl rfl (by decide) ⟨.int (lo + i), H, I1, ⟨t, ?_⟩, ⟨rfl, rfl⟩, st', fun b hb => (hf b hb).1⟩⟩
    rw [Int.mul_one]
  done := by
    intro X hP hw hK hc i pins s σ H E I hf st hg
    subst hP hw hK
    obtain ⟨f0, f1, f2, f3, f4, f5⟩ := hf it (by simp)
    exact wpAny_pyNext_range_end (I.ok.hd hc) st (by have : n ≤ i := hg; omega) fun h' eb => ⟨rfl, I.turned (t' := s.toks) (fun b o hb e => eb b o hb e) f0 f1 f3 f4 f5⟩
  self := fun _ _ _ _ _ st h => wpAny_pyIter_rangeiter st h
end L2

namespace L2
open PySem PySem.Spec PyProof.Rows
section
variable {X : Cx} {tg : Expr}
def iList (K : PySem.W.Frag) (tl : TE) : TI := fun σ H R => tl σ H fun x H1 => ∃ a, x = .ref a ∧ (∃ xs, SqL K H1 a xs) ∧ R (Itl K a) H1
def iTup (K : PySem.W.Frag) (tl : TE) : TI := fun σ H R => tl σ H fun x H1 => ∃ a, x = .ref a ∧ (∃ xs, SqT K H1 a xs) ∧ R (Itt K a) H1
theorem pi_list {l : Expr} {tl : TE} (hl : PE X l tl) : PI X tg l (iList X.K tl) := by
  intro pins s σ H R I h
  refine thn (hl pins s σ H _ I h) fun v s1 ⟨x, H1, I1, r1, q1⟩ => ?_
  obtain ⟨a, e, ⟨xs, hq⟩, q⟩ := q1
  subst e
  cases r1
  obtain ⟨its, rv, p, hz⟩ := I1.list hq
  refine wpAny_pyIter_list p.isList ?_
  refine ⟨s1.heap.objs.size, [s1.heap.objs.size], _, _, H1, rfl, I1.kept (t' := s1.toks) fun b o e => Heap.get?_push_of_some _ e, turn_list a _, ⟨_, Heap.get?_push_size _ rfl, rfl, rfl⟩, fun b hb => ?_, q⟩
  have e : b = s1.heap.objs.size := by simpa using hb
  subst e
  exact I1.fpOk (Nat.le_refl _) (I1.hok.fresh (Nat.le_refl _))
theorem pi_tup {l : Expr} {tl : TE} (hl : PE X l tl) : PI X tg l (iTup X.K tl) := by
  intro pins s σ H R I h
  refine thn (hl pins s σ H _ I h) fun v s1 ⟨x, H1, I1, r1, q1⟩ => ?_
  obtain ⟨a, e, ⟨xs, hq⟩, q⟩ := q1
  subst e
  cases r1
  obtain ⟨its, rv, p, hz⟩ := I1.tuple hq
  refine wpAny_pyIter_tuple (show s1.heap.IsTuple a its.toArray from p) ?_
  refine ⟨s1.heap.objs.size, [s1.heap.objs.size], _, _, H1, rfl, I1.kept (t' := s1.toks) fun b o e => Heap.get?_push_of_some _ e, turn_tuple a _, ⟨_, Heap.get?_push_size _ rfl, rfl, rfl⟩, fun b hb => ?_, q⟩
  have e : b = s1.heap.objs.size := by simpa using hb
  subst e
  exact I1.fpOk (Nat.le_refl _) (I1.hok.fresh (Nat.le_refl _))
/-- a range object just made, walked -/
theorem range_it {pins : List (Addr × Obj)} {σ : St} {H : Hp} {s : Shared} {R : It → Hp → Prop} {E : Value → Shared → Prop} {lo hi : Int} {t u v : Tok} {tk : Nat} (I : Inv X pins σ H s) (h1 : -(2 ^ 62) ≤ lo) (h2 : lo < 2 ^ 62) (h3 : -(2 ^ 62) ≤ hi) (h4 : hi < 2 ^ 62)
    (q : R (Itr lo (hi - lo).toNat) H) : wpAny (model X.prog X.w) X.A (pyIter (.ref s.heap.objs.size)) (PIE X pins σ tg R) E { s with heap := s.heap.push { cls := .type "range", data := .fields #[.int lo t, .int hi u, .int 1 v] }, toks := tk } := by
  refine wpAny_pyIter_range (IsRange.new ..) (small_one h1 h2 h3 h4) ?_
  have I1 : Inv X pins σ H { s with heap := s.heap.push { cls := .type "range", data := .fields #[.int lo t, .int hi u, .int 1 v] }, toks := tk } := I.kept fun b o e => Heap.get?_push_of_some _ e
  refine ⟨(s.heap.push { cls := .type "range", data := .fields #[.int lo t, .int hi u, .int 1 v] }).objs.size, [(s.heap.push { cls := .type "range", data := .fields #[.int lo t, .int hi u, .int 1 v] }).objs.size], _, _, H, rfl,
    I1.kept (t' := tk) fun b o e => Heap.get?_push_of_some _ e, turn_range _ lo (hi - lo).toNat, ?_, fun b hb => ?_, q⟩
  · have e1 : lo + ((0 : Nat) : Int) * 1 = lo := by simp
    have e2 : (((hi - lo).toNat : Nat) : Int) - ((0 : Nat) : Int) = Builtin.Range.rangeSize lo hi 1 := by rw [rangeSize_one]; split <;> omega
    show IsRangeIter _ _ (lo + ((0 : Nat) : Int) * 1) ((((hi - lo).toNat : Nat) : Int) - ((0 : Nat) : Int)) 1
    rw [e1, e2]
    exact Heap.get?_push_size _ rfl
  · have e : b = (s.heap.push { cls := .type "range", data := .fields #[.int lo t, .int hi u, .int 1 v] }).objs.size := by simpa using hb
    subst e
    exact I1.fpOk (Nat.le_refl _) (I1.hok.fresh (Nat.le_refl _))
def iRng1 (ta : TA) : TI := fun σ H R => ta σ H fun vs H1 => ∃ j : Int, vs = [.int j] ∧ -(2 ^ 62) ≤ j ∧ j < 2 ^ 62 ∧ R (Itr 0 j.toNat) H1
theorem pi_range1 {a : Expr} {ta : TA} {p pos : Pos} (hg : Gl X "range") (hm : X.mg "range" = none) (ha : PA X [a] ta) (hs : starEach [a] X.env = [(false, eval a X.env)] := by rfl) : PI X tg (.Call (.Name "range" p) [a] [] pos) (iRng1 ta) := by
  intro pins s σ H R I h
  refine Call_ (ld_blt I hg hm boot_range (PyProof.Rows.callWith_type1 (thn (ha pos pins s σ H _ I h) fun us s1 ⟨vs, H1, I1, r1, q1⟩ => ?_) hs rfl))
  obtain ⟨j, e, q1, q2, q⟩ := q1
  subst e
  cases r1 with
  | cons r rr =>
    cases rr
    obtain ⟨t, rfl⟩ := r
    exact call_range_1 (range_it I1 (by omega) (by omega) q1 q2 (by simpa using q))
/-! ### for -/
/-- W: the invariant by the turn and a measure; N: what the body is to reach -/
def tFor (wi : TI) (g : TG) (tb : TS) : TS := fun D σ H => wi σ H fun J H1 => ∃ W : Nat → Nat → St → Hp → Prop, (∃ m, W 0 m σ H1) ∧ ∀ i m σ H, W i m σ H →
  (J.stop i H ∧ D.nx σ H) ∨ (J.go i H ∧ ∃ N : St → Hp → Prop, (∀ σ' H', N σ' H' → ∃ m', m' < m ∧ W (i + 1) m' σ' H') ∧ ∀ x H', J.yld i H x H' → g x σ H' fun σ2 H2 => tb { D with nx := N, ct := N, bk := D.nx } σ2 H2)
/-- the records at fp as they stand -/
def pinsAt (fp : List Addr) (h : Heap) : List (Addr × Obj) := fp.filterMap fun b => (h.get? b).map fun o => (b, o)
theorem mem_pinsAt {fp : List Addr} {h : Heap} {b : Addr} {o : Obj} (hb : b ∈ fp) (e : h.get? b = some o) : (b, o) ∈ pinsAt fp h := List.mem_filterMap.mpr ⟨b, hb, by rw [e]; rfl⟩
theorem of_pinsAt {fp : List Addr} {h : Heap} {p : Addr × Obj} (hp : p ∈ pinsAt fp h) : p.1 ∈ fp ∧ h.get? p.1 = some p.2 := by
  obtain ⟨b, hb, e⟩ := List.mem_filterMap.mp hp
  cases q : h.get? b with
  | none => rw [q] at e; cases e
  | some o =>
    rw [q] at e
    have e' : (b, o) = p := Option.some.inj e
    subst e'
    exact ⟨hb, q⟩
theorem Inv.pinned {pins : List (Addr × Obj)} {σ : St} {H : Hp} {s : Shared} {fp : List Addr} (I : Inv X pins σ H s) (hf : ∀ b ∈ fp, FpOk X pins H b) (ho : ∀ b ∈ fp, ∃ o, s.heap.get? b = some o ∧ ∀ v, o.data ≠ .cell v) : Inv X (pins ++ pinsAt fp s.heap) σ H s :=
  I.pins_of fun p hp => (List.mem_append.mp hp).elim (fun z => I.pin p (List.mem_append_right _ z)) fun z => by
    obtain ⟨hb, e⟩ := of_pinsAt z
    obtain ⟨f0, f1, f2, _⟩ := hf p.1 hb
    obtain ⟨o, e', d⟩ := ho p.1 hb
    rw [e] at e'; cases e'
    exact ⟨e, f0, f1, f2, d⟩
theorem Inv.unpinned {pins pl : List (Addr × Obj)} {σ : St} {H : Hp} {s : Shared} (I : Inv X (pins ++ pl) σ H s) : Inv X pins σ H s := I.pins_of fun p hp => I.pin p (List.mem_append_right _ (List.mem_append_left _ hp))
theorem ps_for {iter : Expr} {body : List Stmt} {wi : TI} {g : TG} {tb : TS} {pos : Pos} (hp : PassesOwn (model X.prog X.w) X.A X.env X.xe) (hc : X.calm = true) (hi : PI X tg iter wi) (hg : PG X tg g) (hb : PSs X body tb)
    (hs : ∀ x, foldedSetIterable iter X.env x = pure x := by intro _; rfl) : PS X (.For tg iter body [] pos) (tFor wi g tb) := by
  intro pins s σ H D I h
  refine wpAny_For (thn (hi pins s σ H _ I h) fun v s1 h1 => thn h1 fun itv s2 h2 => ?_) hs
  obtain ⟨it, fp, tn, J, H2, e, I2, T, st2, f2, W, ⟨m0, w0⟩, turn⟩ := h2
  subst e
  -- what stays true of the iterator's objects through the loop
  have stat : ∀ {H' : Hp}, (∀ b ∈ fp, H' b = none) → ∀ b ∈ fp, FpOk X pins H' b := fun hn b hb => ⟨hn b hb, (f2 b hb).2⟩
  refine codeAny_forLoop_any (fun n s' => ∃ i σ' H', Inv X pins σ' H' s' ∧ tn i s'.heap ∧ (∀ b ∈ fp, H' b = none) ∧ W i n σ' H') ?_ m0 ⟨0, σ, H2, I2, st2, fun b hb => (f2 b hb).1, w0⟩
  rintro n s3 ⟨i, σ3, H3, I3, st3, fr3, w3⟩
  rcases turn i n σ3 H3 w3 with ⟨stop, qn⟩ | ⟨go, N, hN, step⟩
  · refine wpAny_passesOwn hp (thn (T.done X rfl rfl rfl hc i pins s3 σ3 H3 X.xe I3 (stat fr3) st3 stop) fun r s4 ⟨hr, I4⟩ => ?_)
    subst hr
    exact wpAny_execs_nil ⟨σ3, H3, I4, qn⟩
  · refine wpAny_passesOwn hp (thn (T.item X rfl rfl rfl hc i pins s3 σ3 H3 X.xe I3 (stat fr3) st3 go) fun r s4 ⟨u, hr, h4⟩ => ?_)
    subst hr
    refine wpAny_passesOwn hp (thn h4 fun _ s5 ⟨x, H5, I5, r5, y5, st5, fr5⟩ => ?_)
    have I5' := I5.pinned (stat fr5) (T.obj _ _ st5)
    refine wpAny_passesOwn hp (thn (hg _ s5 σ3 H5 x u _ I5' r5 (step x H5 y5)) fun _ s6 ⟨σ6, H6, I6, q6⟩ => ?_)
    refine wpAny_passesOwn hp (thn (hb _ s6 σ6 H6 _ I6 q6) fun f s7 q7 => ?_)
    have again : ∀ {σ7 : St} {H7 : Hp}, Inv X (pins ++ pinsAt fp s5.heap) σ7 H7 s7 → N σ7 H7 → ∃ m, m < n ∧ ∃ i σ' H', Inv X pins σ' H' s7 ∧ tn i s7.heap ∧ (∀ b ∈ fp, H' b = none) ∧ W i m σ' H' := fun {σ7 H7} I7 n7 => by
      obtain ⟨m', hm, w7⟩ := hN σ7 H7 n7
      refine ⟨m', hm, i + 1, σ7, H7, I7.unpinned, T.keep _ _ _ st5 fun b hb o e => (I7.pin (b, o) (List.mem_append_right _ (List.mem_append_right _ (mem_pinsAt hb e)))).1, fun b hb => ?_, w7⟩
      obtain ⟨o, e, d⟩ := T.obj _ _ st5 b hb
      exact (I7.pin (b, o) (List.mem_append_right _ (List.mem_append_right _ (mem_pinsAt hb e)))).2.1
    cases f with
    | next => obtain ⟨σ7, H7, I7, n7⟩ := q7; exact again I7 n7
    | cont => obtain ⟨σ7, H7, I7, n7⟩ := q7; exact again I7 n7
    | brk => obtain ⟨σ7, H7, I7, q7⟩ := q7; exact ⟨σ7, H7, I7.unpinned, q7⟩
    | ret v => obtain ⟨x7, σ7, H7, I7, r7, q7⟩ := q7; exact ⟨x7, σ7, H7, I7.unpinned, r7, q7⟩
end

/-! ### the forms one uses -/
end L2

namespace L2
open PySem PySem.Spec PyProof.Rows

abbrev R2 := V → V → Hp → VK → Prop
/-- a two-place operation on values: f is binaryOp op, inplaceOp op or compareOp op -/
def OpR (X : Cx) (f : Value → Value → Sem Value) (r : R2) : Prop :=
  ∀ (pins : List (Addr × Obj)) (s : Shared) (σ : St) (H : Hp) (x y : V) (v u : Value) (Q : VK), Inv X pins σ H s → RelV x v → RelV y u → r x y H Q →
    wpAny (model X.prog X.w) X.A (f v u) (EP X pins σ Q) X.xe s
/-- a one-place operation -/
def UnR (X : Cx) (f : Value → Sem Value) (r : V → Hp → VK → Prop) : Prop :=
  ∀ (pins : List (Addr × Obj)) (s : Shared) (σ : St) (H : Hp) (x : V) (v : Value) (Q : VK), Inv X pins σ H s → RelV x v → r x H Q →
    wpAny (model X.prog X.w) X.A (f v) (EP X pins σ Q) X.xe s
/-- a call of a value that is known (a builtin, a type) with values -/
def CallR (X : Cx) (f : Value) (r : List V → Hp → VK → Prop) : Prop :=
  ∀ (pins : List (Addr × Obj)) (s : Shared) (σ : St) (H : Hp) (xs : List V) (us : List Value) (Q : VK), Inv X pins σ H s → Vals xs us → r xs H Q →
    wpAny (model X.prog X.w) X.A (call f us) (EP X pins σ Q) X.xe s
def tOp (r : R2) (ta tb : TE) : TE := fun σ H Q => ta σ H fun x H1 => tb σ H1 fun y H2 => r x y H2 Q
def tUn (r : V → Hp → VK → Prop) (ta : TE) : TE := fun σ H Q => ta σ H fun x H1 => r x H1 Q
/-- ints in, under C, and a value out -/
def rI (C : Int → Int → Prop) (g : Int → Int → V) : R2 := fun x y H Q => ∃ i j, x = .int i ∧ y = .int j ∧ C i j ∧ Q (g i j) H
def rI0 (g : Int → Int → V) : R2 := fun x y H Q => ∃ i j, x = .int i ∧ y = .int j ∧ Q (g i j) H
def rU (g : Int → V) : V → Hp → VK → Prop := fun x H Q => ∃ i, x = .int i ∧ Q (g i) H

section
variable {X : Cx} {a b c : Expr} {ta tb tc : TE} {pos : Pos}

theorem binT (ha : PE X a ta) (hb : PE X b tb) {pins : List (Addr × Obj)} {s : Shared} {σ : St} {H : Hp} {R : V → V → Hp → Prop} (I : Inv X pins σ H s)
    (h : ta σ H fun x H1 => tb σ H1 fun y H2 => R x y H2) {Q : Value → Shared → Prop} {f : Value → Value → Sem Value}
    (hf : ∀ v u s2 x y H2, Inv X pins σ H2 s2 → RelV x v → RelV y u → R x y H2 → wpAny (model X.prog X.w) X.A (f v u) Q X.xe s2) :
    wpAny (model X.prog X.w) X.A (eval a X.env) (fun v s₁ => wpAny (model X.prog X.w) X.A (eval b X.env) (fun u s₂ => wpAny (model X.prog X.w) X.A (f v u) Q X.xe s₂) X.xe s₁) X.xe s := by
  refine thn (ha pins s σ H _ I h) fun v s1 ⟨x, H1, I1, r1, q1⟩ => ?_
  refine thn (hb pins s1 σ H1 _ I1 q1) fun u s2 ⟨y, H2, I2, r2, q2⟩ => ?_
  exact hf v u s2 x y H2 I2 r1 r2 q2

theorem pe_op {op : Operator} {r : R2} (ho : OpR X (binaryOp op) r) (ha : PE X a ta) (hb : PE X b tb) : PE X (.BinOp a op b pos) (tOp r ta tb) := by
  intro pins s σ H Q I h
  exact wpAny_BinOp (binT ha hb I h fun v u s2 x y H2 I2 rx ry q => ho pins s2 σ H2 x y v u Q I2 rx ry q)
theorem pe_un {op : UnaryOp} {r : V → Hp → VK → Prop} (ho : UnR X (unaryOp op) r) (ha : PE X a ta) : PE X (.UnaryOp op a pos) (tUn r ta) := by
  intro pins s σ H Q I h
  exact UnaryOp_ (thn (ha pins s σ H _ I h) fun v s1 ⟨x, H1, I1, r1, q1⟩ => ho pins s1 σ H1 x v Q I1 r1 q1)
/-! ### ints -/
theorem opI {f : Value → Value → Sem Value} {C : Int → Int → Prop} {g : Int → Int → Int}
    (rule : ∀ (i j : Int) (t u : Tok) (s : Shared) (Q : Value → Shared → Prop) (E : Value → Shared → Prop), C i j → Q (.int (g i j) s.toks) { s with toks := s.toks + 1 } → wpAny (model X.prog X.w) X.A (f (.int i t) (.int j u)) Q E s) :
    OpR X f (rI C fun i j => .int (g i j)) := by
  intro pins s σ H x y v u Q I rx ry h
  obtain ⟨i, j, rfl, rfl, hc, q⟩ := h
  obtain ⟨t, rfl⟩ := rx
  obtain ⟨t', rfl⟩ := ry
  exact rule i j t t' s _ _ hc ⟨.int (g i j), H, I.tok _, ⟨_, rfl⟩, q⟩
theorem opB0 {f : Value → Value → Sem Value} {g : Int → Int → Bool}
    (rule : ∀ (i j : Int) (t u : Tok) (s : Shared) (Q : Value → Shared → Prop) (E : Value → Shared → Prop), Q (.bool (g i j)) s → wpAny (model X.prog X.w) X.A (f (.int i t) (.int j u)) Q E s) :
    OpR X f (rI0 fun i j => .bl (g i j)) := by
  intro pins s σ H x y v u Q I rx ry h
  obtain ⟨i, j, rfl, rfl, q⟩ := h
  obtain ⟨t, rfl⟩ := rx
  obtain ⟨t', rfl⟩ := ry
  exact rule i j t t' s _ _ ⟨.bl (g i j), H, I, rfl, q⟩

def CMul (i j : Int) : Prop := (-(2 ^ 64) < i ∧ i < 2 ^ 64) ∨ (-(2 ^ 64) < j ∧ j < 2 ^ 64)
theorem CMul.ok {i j : Int} (h : CMul i j) : IntMulOk i j := by
  rcases h with ⟨h1, h2⟩ | ⟨h1, h2⟩
  · exact .of_left (intBits_le_64 h1 h2)
  · exact .of_right (intBits_le_64 h1 h2)
theorem unI {f : Value → Sem Value} {g : Int → Int}
    (rule : ∀ (i : Int) (t : Tok) (s : Shared) (Q : Value → Shared → Prop) (E : Value → Shared → Prop), Q (.int (g i) s.toks) { s with toks := s.toks + 1 } → wpAny (model X.prog X.w) X.A (f (.int i t)) Q E s) :
    UnR X f (rU fun i => .int (g i)) := by
  intro pins s σ H x v Q I rx h
  obtain ⟨i, rfl, q⟩ := h
  obtain ⟨t, rfl⟩ := rx
  exact rule i t s _ _ ⟨.int (g i), H, I.tok _, ⟨_, rfl⟩, q⟩
theorem un_neg : UnR X (unaryOp .USub) (rU fun i => .int (-i)) := unI fun _ _ _ _ _ q => neg_int q
/-! ### bools among ints: n += (a < b) -/
end

/-! ### comparisons -/
/-- the scalars that == tells apart as data does -/
def scal : V → V → Bool
  | .non, .non => true | .non, .int _ => true | .int _, .non => true | .non, .bl _ => true | .bl _, .non => true | .non, .str _ => true | .str _, .non => true
  | .int _, .int _ => true | .bl _, .bl _ => true | .str _, .str _ => true | .byt _, .byt _ => true
  | .int _, .str _ => true | .str _, .int _ => true | .bl _, .str _ => true | .str _, .bl _ => true
  | _, _ => false
def rEq : R2 := fun x y H Q => scal x y = true ∧ Q (.bl (decide (x = y))) H
def rNe : R2 := fun x y H Q => scal x y = true ∧ Q (.bl (!decide (x = y))) H

theorem dec_int {i j : Int} : decide (V.int i = V.int j) = (i == j) := by
  rw [Bool.eq_iff_iff]
  simp
theorem dec_bl {i j : Bool} : decide (V.bl i = V.bl j) = (i == j) := by
  rw [Bool.eq_iff_iff]
  simp
theorem dec_str {i j : Str} : decide (V.str i = V.str j) = (i == j) := by
  rw [Bool.eq_iff_iff]
  simp
theorem dec_byt {i j : Array UInt8} : decide (V.byt i = V.byt j) = (i.toList == j.toList) := by
  rw [Bool.eq_iff_iff]
  cases i
  cases j
  simp

section
variable {X : Cx} {a b c : Expr} {ta tb tc : TE} {pos : Pos}
theorem fin_bl {pins : List (Addr × Obj)} {σ : St} {H : Hp} {s : Shared} {Q : VK} {k k' : Bool} (I : Inv X pins σ H s) (q : Q (.bl k) H) (e : k = k') : EP X pins σ Q (.bool k') s := by
  subst e
  exact ⟨.bl k, H, I, rfl, q⟩
theorem op_eq : OpR X (compareOp .Eq) rEq := by
  intro pins s σ H x y v u Q I rx ry h
  obtain ⟨hs, q⟩ := h
  cases x with
  | non =>
    cases rx
    cases y with
    | non => cases ry; exact PySem.EqNone.eq_none_none (fin_bl I q (by simp))
    | bl j => cases ry; exact PySem.EqNone.eq_none_bool (fin_bl I q (by simp))
    | int j => obtain ⟨t', rfl⟩ := ry; exact PySem.EqNone.eq_none_int (fin_bl I q (by simp))
    | str j => obtain ⟨t', rfl⟩ := ry; exact PySem.EqNone.eq_none_str (fin_bl I q (by simp))
    | _ => exact absurd (show false = true from hs) Bool.false_ne_true
  | bl i =>
    cases rx
    cases y with
    | non => cases ry; exact PySem.EqNone.eq_bool_none (fin_bl I q (by simp))
    | bl j => cases ry; exact eq_bool (fin_bl I q dec_bl)
    | str j => obtain ⟨t', rfl⟩ := ry; exact PySem.EqMixed.eq_bool_str (fin_bl I q (by simp))
    | _ => exact absurd (show false = true from hs) Bool.false_ne_true
  | int i =>
    obtain ⟨t, rfl⟩ := rx
    cases y with
    | non => cases ry; exact PySem.EqNone.eq_int_none (fin_bl I q (by simp))
    | int j => obtain ⟨t', rfl⟩ := ry; exact eq_int (fin_bl I q dec_int)
    | str j => obtain ⟨t', rfl⟩ := ry; exact PySem.EqMixed.eq_int_str (fin_bl I q (by simp))
    | _ => exact absurd (show false = true from hs) Bool.false_ne_true
  | str i =>
    obtain ⟨t, rfl⟩ := rx
    cases y with
    | non => cases ry; exact PySem.EqNone.eq_str_none (fin_bl I q (by simp))
    | bl j => cases ry; exact PySem.EqMixed.eq_str_bool (fin_bl I q (by simp))
    | int j => obtain ⟨t', rfl⟩ := ry; exact PySem.EqMixed.eq_str_int (fin_bl I q (by simp))
    | str j => obtain ⟨t', rfl⟩ := ry; exact eq_str (fin_bl I q dec_str)
    | _ => exact absurd (show false = true from hs) Bool.false_ne_true
  | byt i =>
    obtain ⟨t, rfl⟩ := rx
    cases y with
    | byt j => obtain ⟨t', rfl⟩ := ry; exact PySem.W.eq_bytes (fin_bl I q dec_byt)
    | _ => exact absurd (show false = true from hs) Bool.false_ne_true
  | _ => cases y <;> exact absurd (show false = true from hs) Bool.false_ne_true
theorem op_ne : OpR X (compareOp .NotEq) rNe := by
  intro pins s σ H x y v u Q I rx ry h
  obtain ⟨hs, q⟩ := h
  cases x with
  | non =>
    cases rx
    cases y with
    | non => cases ry; exact PySem.EqNone.ne_none_none (fin_bl I q (by simp))
    | bl j => cases ry; exact PySem.EqNone.ne_none_bool (fin_bl I q (by simp))
    | int j => obtain ⟨t', rfl⟩ := ry; exact PySem.EqNone.ne_none_int (fin_bl I q (by simp))
    | str j => obtain ⟨t', rfl⟩ := ry; exact PySem.EqNone.ne_none_str (fin_bl I q (by simp))
    | _ => exact absurd (show false = true from hs) Bool.false_ne_true
  | bl i =>
    cases rx
    cases y with
    | non => cases ry; exact PySem.EqNone.ne_bool_none (fin_bl I q (by simp))
    | bl j => cases ry; exact ne_bool (fin_bl I q (congrArg not dec_bl))
    | str j => obtain ⟨t', rfl⟩ := ry; exact PySem.EqMixed.ne_bool_str (fin_bl I q (by simp))
    | _ => exact absurd (show false = true from hs) Bool.false_ne_true
  | int i =>
    obtain ⟨t, rfl⟩ := rx
    cases y with
    | non => cases ry; exact PySem.EqNone.ne_int_none (fin_bl I q (by simp))
    | int j => obtain ⟨t', rfl⟩ := ry; exact ne_int (fin_bl I q (congrArg not dec_int))
    | str j => obtain ⟨t', rfl⟩ := ry; exact PySem.EqMixed.ne_int_str (fin_bl I q (by simp))
    | _ => exact absurd (show false = true from hs) Bool.false_ne_true
  | str i =>
    obtain ⟨t, rfl⟩ := rx
    cases y with
    | non => cases ry; exact PySem.EqNone.ne_str_none (fin_bl I q (by simp))
    | bl j => cases ry; exact PySem.EqMixed.ne_str_bool (fin_bl I q (by simp))
    | int j => obtain ⟨t', rfl⟩ := ry; exact PySem.EqMixed.ne_str_int (fin_bl I q (by simp))
    | str j => obtain ⟨t', rfl⟩ := ry; exact ne_str (fin_bl I q (congrArg not dec_str))
    | _ => exact absurd (show false = true from hs) Bool.false_ne_true
  | byt i =>
    obtain ⟨t, rfl⟩ := rx
    cases y with
    | byt j => obtain ⟨t', rfl⟩ := ry; exact PySem.W.ne_bytes (fin_bl I q (congrArg not dec_byt))
    | _ => exact absurd (show false = true from hs) Bool.false_ne_true
  | _ => cases y <;> exact absurd (show false = true from hs) Bool.false_ne_true

theorem op_lt : OpR X (compareOp .Lt) (rI0 fun i j => .bl (decide (i < j))) := opB0 fun _ _ _ _ _ _ _ q => lt_int q
theorem op_le : OpR X (compareOp .LtE) (rI0 fun i j => .bl (decide (i ≤ j))) := opB0 fun _ _ _ _ _ _ _ q => le_int q
theorem op_gt : OpR X (compareOp .Gt) (rI0 fun i j => .bl (decide (j < i))) := opB0 fun _ _ _ _ _ _ _ q => gt_int q
/-- two rules for one operation: by cases -/
theorem OpR.or {f : Value → Value → Sem Value} {r r' : R2} (h : OpR X f r) (h' : OpR X f r') : OpR X f (fun x y H Q => r x y H Q ∨ r' x y H Q) := by
  intro pins s σ H x y v u Q I rx ry q
  rcases q with q | q
  · exact h pins s σ H x y v u Q I rx ry q
  · exact h' pins s σ H x y v u Q I rx ry q

theorem nomark (b : Expr) {op : CmpOp} (h : op ≠ .In := by decide) (h2 : op ≠ .NotIn := by decide) : behindInMarks op b = false := by
  have e1 : (op == CmpOp.In) = false := by cases op <;> first | rfl | exact absurd rfl h
  have e2 : (op == CmpOp.NotIn) = false := by cases op <;> first | rfl | exact absurd rfl h2
  cases b <;> simp [behindInMarks, e1, e2]
/-- a reading of a value as a test -/
def tTest (t : TE) : TT := fun σ H Q => t σ H fun x H' => ∃ k, x = .bl k ∧ Q k H'
theorem pt_cmpR {op : CmpOp} {r : R2} (ho : OpR X (compareOp op) r) (ha : PE X a ta) (hb : PE X b tb) (hm : behindInMarks op b = false) : PT X (.Compare a [op] [b] pos) (tTest (tOp r ta tb)) := by
  intro pins s σ H Q I h
  refine wpAny_isTrue_Compare1 (thn (ha pins s σ H _ I h) fun v s1 ⟨x, H1, I1, r1, q1⟩ => thn (hb pins s1 σ H1 _ I1 q1) fun u s2 ⟨y, H2, I2, r2, q2⟩ =>
    thn (ho pins s2 σ H2 x y v u _ I2 r1 r2 q2) fun c s3 ⟨z, H3, I3, r3, k, e, q3⟩ => ?_) hm
  subst e
  cases r3
  exact wpAny_truthy_bool ⟨H3, I3, q3⟩
/-! ### truth -/
theorem line63 : (sizeLine : Nat) < 2 ^ 63 := by rw [sizeLine_eq]; decide
/-! ### strs and bytes -/
/-! ### scalar builtins, by CallR -/
theorem vals1 {x : V} {us : List Value} (r : Vals [x] us) : ∃ u, us = [u] ∧ RelV x u := by
  cases r with
  | cons r1 r2 => cases r2; exact ⟨_, rfl, r1⟩
theorem vals2 {x y : V} {us : List Value} (r : Vals [x, y] us) : ∃ u w', us = [u, w'] ∧ RelV x u ∧ RelV y w' := by
  cases r with
  | cons r1 r2 =>
    cases r2 with
    | cons r3 r4 => cases r4; exact ⟨_, _, rfl, r1, r3⟩
theorem call_abs : CallR X (.builtin "abs") (fun xs H Q => ∃ i, xs = [.int i] ∧ Q (.int (if i < 0 then -i else i)) H) := by
  intro pins s σ H xs us Q I r h
  obtain ⟨i, rfl, q⟩ := h
  obtain ⟨u, rfl, t, rfl⟩ := vals1 r
  exact call_abs_int fun u tk => ⟨.int (if i < 0 then -i else i), H, I.tok _, ⟨_, rfl⟩, q⟩
theorem call_max2 (hc : X.calm = true) : CallR X (.builtin "max") (fun xs H Q => ∃ i j, xs = [.int i, .int j] ∧ Q (.int (if j > i then j else i)) H) := by
  intro pins s σ H xs us Q I r h
  obtain ⟨i, j, rfl, q⟩ := h
  obtain ⟨u, w', rfl, ⟨t, rfl⟩, ⟨t', rfl⟩⟩ := vals2 r
  refine max_two_ints (I.ok.hd hc) fun h' tk k => ⟨_, H, I.kept k, ?_, q⟩
  by_cases hj : j > i
  · rw [if_pos hj, if_pos hj]; exact ⟨_, rfl⟩
  · rw [if_neg hj, if_neg hj]; exact ⟨_, rfl⟩
theorem call_min2 (hc : X.calm = true) : CallR X (.builtin "min") (fun xs H Q => ∃ i j, xs = [.int i, .int j] ∧ Q (.int (if j < i then j else i)) H) := by
  intro pins s σ H xs us Q I r h
  obtain ⟨i, j, rfl, q⟩ := h
  obtain ⟨u, w', rfl, ⟨t, rfl⟩, ⟨t', rfl⟩⟩ := vals2 r
  refine min_two_ints (I.ok.hd hc) fun h' tk k => ⟨_, H, I.kept k, ?_, q⟩
  by_cases hj : j < i
  · rw [if_pos hj, if_pos hj]; exact ⟨_, rfl⟩
  · rw [if_neg hj, if_neg hj]; exact ⟨_, rfl⟩
end
end L2

namespace L2
open PySem PySem.Spec PyProof.Rows

/-! ### an instance, its attributes a map -/
structure ObjM (h : Heap) (x dx C : Addr) (mA : Str → Option Value) : Prop where
  obj : h.get? x = some (PySem.W.instObj C dx)
  ns : h.Ns1 dx mA
  ne : dx ≠ x

theorem lookIn_ns {h : Heap} {dx : Addr} {mA : Str → Option Value} (n : h.Ns1 dx mA) : ∃ od, h.get? dx = some od ∧ ∀ name, PySem.W.lookIn name od = some (mA name) := by
  obtain ⟨o, es, ep, ho, hd, hk, _, hm⟩ := n
  refine ⟨o, ho, fun name => ?_⟩
  have e := hm name
  unfold nsFind findBy at e
  rw [← Array.find?_toList] at e
  unfold PySem.W.lookIn
  rw [hd]
  dsimp only
  split
  · rename_i y q
    rw [q] at e
    exact congrArg some e
  · rename_i q
    rw [q] at e
    have a : es.toList.any (·.refKey) = false := by
      rw [List.any_eq_false]
      intro y hy
      obtain ⟨z, t, hkey⟩ := hk y (Array.mem_toList_iff.mp hy)
      simp [DictEntry.refKey, hkey]
    have a' : ¬ es.toList.any (·.refKey) = true := by rw [a]; exact Bool.false_ne_true
    rw [if_neg a']
    exact congrArg some e

theorem ObjM.look {h : Heap} {x dx C : Addr} {mA : Str → Option Value} (I : ObjM h x dx C mA) : ∃ od, PySem.W.InstAt h x (PySem.W.instObj C dx) C (some od) ∧ ∀ name, PySem.W.lookIn name od = some (mA name) :=
  let ⟨od, ho, hl⟩ := lookIn_ns I.ns
  ⟨od, ⟨I.obj, rfl, rfl, ho⟩, hl⟩

section
variable {prog : Program} {w : World} {A : Around} {E : Value → Shared → Prop} {s : Shared} {K : PySem.W.Frag} {x dx C f : Addr} {mA : Str → Option Value} {name : Str} {v : Value}

end

/-! ### the attributes as a list of pairs -/
section
variable {P : Program} {w : World} {H H' : Hp} {h h' : Heap} {a C dx : Addr} {fs fs' : List (Str × V)}
theorem ins_get (hok : HOk P w H h) (e : H a = some (.ins C dx fs)) : ∃ mA, ObjM h a dx C mA ∧ (∀ f, RelO (fs.lookup f) (mA f)) ∧ PySem.Within mA (fs.map (·.1)) ∧ fs.length ≤ 1000 ∧ H dx = some (.own a) := by
  obtain ⟨d, z, ne, ob, mA, n, r, q⟩ := (show ObjOk P w H h a (.ins C dx fs) from hok a _ e)
  exact ⟨mA, ⟨ob, n, ne⟩, r, q, z, d⟩
end

/-! ### what of the text a class must have -/
structure Cls (K : PySem.W.Frag) (C : Addr) : Prop where
  pg : PySem.W.plainGet K C Str.empty = true
  hd : PySem.W.hasDictIn K C = true
  po : PySem.W.plainOver K C = true
  sa : PySem.W.findIn K (.ref C) "__setattr__" = some (some (.builtin "object.__setattr__"))
theorem Cls.get {K : PySem.W.Frag} {C : Addr} (c : Cls K C) (f : Str) : PySem.W.plainGet K C f = true := c.pg
/-- a constant of the class -/
structure Con (K : PySem.W.Frag) (C : Addr) (f : Str) (v : V) (u : Value) : Prop where
  at_ : PySem.W.findIn K (.ref C) f = some (some u)
  rel : RelV v u
  get : PySem.W.specialIn K u "__get__" = some none
  cp : PySem.W.copiedNames.contains f = false
/-- a method: a plain def of the class or of one above it -/
structure Meth (K : PySem.W.Frag) (C : Addr) (m : Str) (f : Addr) : Prop where
  at_ : PySem.W.findIn K (.ref C) m = some (some (.ref f))
  fn : PySem.W.isFn K (.ref f) = true
  kp : PySem.W.keepIn K (.ref f) = true

section
variable {X : Cx} {pins : List (Addr × Obj)} {σ : St} {H : Hp} {s : Shared} {a C dx : Addr} {fs : List (Str × V)} {f : Str} {v : V} {A : Around} {E : Value → Shared → Prop}

/-- a new instance, tracked, without attributes -/
theorem Inv.made (I : Inv X pins σ H s) : Inv X pins σ (upd (upd H s.heap.objs.size (.own (s.heap.objs.size + 1))) (s.heap.objs.size + 1) (.ins C s.heap.objs.size []))
    { s with heap := (s.heap.push PySem.W.emptyDict).push (PySem.W.instObj C s.heap.objs.size) } := by
  have e1 : (s.heap.push PySem.W.emptyDict).get? s.heap.objs.size = some PySem.W.emptyDict := Heap.get?_push_size s.heap rfl
  have e2 : ((s.heap.push PySem.W.emptyDict).push (PySem.W.instObj C s.heap.objs.size)).get? (s.heap.objs.size + 1) = some (PySem.W.instObj C s.heap.objs.size) := by
    have := Heap.get?_push_size (s.heap.push PySem.W.emptyDict) (o := PySem.W.instObj C s.heap.objs.size) rfl
    rwa [Heap.size_push] at this
  have e3 : (s.heap.push PySem.W.emptyDict).Ns s.heap.objs.size (fun _ => none) := ⟨PySem.W.emptyDict, #[], _, e1, rfl, (fun e he => absurd he (by simp)), fun _ => rfl⟩
  have I1 := I.laid (a := s.heap.objs.size) (o := .own (s.heap.objs.size + 1)) (h' := s.heap.push PySem.W.emptyDict) (t' := s.toks) (fun b u q => Heap.get?_push_of_some _ q) (Nat.le_refl _) ⟨_, e1⟩
  refine I1.laid (a := s.heap.objs.size + 1) (o := .ins C s.heap.objs.size []) (t' := s.toks) (fun b u q => Heap.get?_push_of_some _ q) (Nat.le_of_eq (Heap.size_push _ _)) ?_
  have ne : s.heap.objs.size ≠ s.heap.objs.size + 1 := Nat.ne_of_lt (Nat.lt_succ_self _)
  refine ⟨by rw [upd_ne ne, upd_same], Nat.zero_le _, ne, e2, fun _ => none, (Heap.Ns1.of_empty e3).at fun o q => Heap.get?_push_of_some _ q, fun _ => True.intro, fun y hy => absurd rfl hy⟩

end

/-! ### readings and rules -/
section
variable {X : Cx} {o e value : Expr} {f : Str} {pos pos' tpos : Pos} {ta tv : TE}
end

/-! ### isinstance -/
section
variable {X : Cx} {pins : List (Addr × Obj)} {σ : St} {H : Hp} {s : Shared} {A : Around} {E : Value → Shared → Prop} {Q : Value → Shared → Prop} {c : Value} {b : Bool}
/-- the type of a value, as the fragment's deciders take it; for an instance its class -/
inductive TyOf (K : PySem.W.Frag) (H : Hp) : V → Value → Prop where
  | non : TyOf K H .non (.type "NoneType")
  | bl (x : Bool) : TyOf K H (.bl x) (.type "bool")
  | int (i : Int) : TyOf K H (.int i) (.type "int")
  | str (x : Str) : TyOf K H (.str x) (.type "str")
  | flt (x : UInt64) : TyOf K H (.flt x) (.type "float")
  | lst {a : Addr} {xs : List V} (e : H a = some (.lst xs)) : TyOf K H (.ref a) (.type "list")
  | frz {a : Addr} {o : Obj} {xs : List V} (e : H a = some (.frz o (.lst xs))) : TyOf K H (.ref a) (.type "list")
  | tup {a : Addr} {xs : List V} (e : H a = some (.tup xs)) : TyOf K H (.ref a) (.type "tuple")
  | dK {a : Addr} {kvs : List (Key × V)} (e : H a = some (.dK kvs)) : TyOf K H (.ref a) (.type "dict")
  | dT {a : Addr} {kvs : List (List Key × V)} (e : H a = some (.dT kvs)) : TyOf K H (.ref a) (.type "dict")
  | ins {a C dx : Addr} {fs : List (Str × V)} (e : H a = some (.ins C dx fs)) (cl : Cls K C) (ha : PySem.W.findIn K (.ref C) "__class__" = some (some (.builtin "object.__class__")))
      (hn : PySem.W.specialIn K (.builtin "object.__class__") "__get__" = some (some (.builtin "getset_descriptor.__get__"))) (htk : PySem.W.takesIn K (.builtin "object.__class__") = some true)
      (hm : PySem.W.mroIn K C (.type "object") = some true) : TyOf K H (.ref a) (.ref C)
/-- isinstance(x, c) for one class c, a built-in or an own one: kitOne's answer -/
theorem isinst_ok {x : V} {u t : Value} (I : Inv X pins σ H s) (rx : RelV x u) (ty : TyOf X.K H x t) (e : PySem.W.kitOne X.K t c = some b) (h : ∀ tk, Q (.bool b) { s with toks := tk }) :
    wpAny (model X.prog X.w) A (call (.builtin "isinstance") [u, c]) Q E s := by
  cases ty with
  | non => cases (show u = Value.none from rx); exact PySem.W.kia_one PySem.W.kitx_none I.kIn True.intro e (fun z => nomatch z) h
  | bl y => cases (show u = Value.bool y from rx); exact PySem.W.kia_one PySem.W.kitx_bool I.kIn True.intro e (fun z => nomatch z) h
  | int i => obtain ⟨t, q⟩ := (show ∃ t, u = Value.int i t from rx); cases q; exact PySem.W.kia_one PySem.W.kitx_int I.kIn True.intro e (fun z => nomatch z) h
  | str y => obtain ⟨t, q⟩ := (show ∃ t, u = Value.str y t from rx); cases q; exact PySem.W.kia_one PySem.W.kitx_str I.kIn True.intro e (fun z => nomatch z) h
  | flt y => obtain ⟨t, q⟩ := (show ∃ t, u = Value.float y t from rx); cases q; exact PySem.W.kia_one PySem.W.kitx_float I.kIn True.intro e (fun z => nomatch z) h
  | @lst a xs ea =>
    cases (show u = Value.ref a from rx)
    obtain ⟨_, _, n, _, h1⟩ := (show ObjOk X.prog X.w H s.heap a (.lst xs) from I.hok a _ ea)
    exact PySem.W.kia_one PySem.W.kitx_list I.kIn ⟨_, h1, rfl⟩ e (fun z => nomatch z) h
  | @frz a ob xs ea =>
    cases (show u = Value.ref a from rx)
    obtain ⟨_, _, _, n, _, h1⟩ := (show ObjOk X.prog X.w H s.heap a (.frz ob (.lst xs)) from I.hok a _ ea)
    exact PySem.W.kia_one PySem.W.kitx_list I.kIn ⟨_, h1, rfl⟩ e (fun z => nomatch z) h
  | @tup a xs ea =>
    cases (show u = Value.ref a from rx)
    obtain ⟨_, _, _, p⟩ := (show ObjOk X.prog X.w H s.heap a (.tup xs) from I.hok a _ ea)
    obtain ⟨o, h1, h2, _⟩ := p
    exact PySem.W.kia_one PySem.W.kitx_tuple I.kIn ⟨o, h1, h2⟩ e (fun z => nomatch z) h
  | @dK a kvs ea =>
    cases (show u = Value.ref a from rx)
    obtain ⟨_, _, vs, _, p⟩ := (show ObjOk X.prog X.w H s.heap a (.dK kvs) from I.hok a _ ea)
    obtain ⟨o, es, ep, h1, h2, _⟩ := p
    exact PySem.W.kia_one PySem.W.kitx_dict I.kIn ⟨o, h1, h2.1⟩ e (fun z => nomatch z) h
  | @dT a kvs ea =>
    cases (show u = Value.ref a from rx)
    obtain ⟨_, _, xs, _, o, es, ep, h1, h2, _⟩ := (show ObjOk X.prog X.w H s.heap a (.dT kvs) from I.hok a _ ea)
    exact PySem.W.kia_one PySem.W.kitx_dict I.kIn ⟨o, h1, h2.1⟩ e (fun z => nomatch z) h
  | @ins a C dx fs ea cl ha hn htk hm =>
    cases (show u = Value.ref a from rx)
    obtain ⟨mA, O, _⟩ := ins_get I.hok ea
    obtain ⟨od, J, _⟩ := O.look
    exact PySem.W.kia_one (PySem.W.kitx_own (cl.get _) cl.hd ha hn htk hm) I.kIn J e (fun z => nomatch z) h
end
end L2

namespace L2
open PySem PySem.Spec PyProof.Rows

/-! ### room -/
structure Room (k : Nat) (A : Around) : Prop where
  hd : A.handled = none
  dp : A.depth + 3 * k + 5 < recursionLimit
  un : A.units + 16 * k + 200 < cLine
theorem Room.mono {j k : Nat} {A : Around} (r : Room k A) (h : j ≤ k) : Room j A := ⟨r.hd, by have := r.dp; omega, by have := r.un; omega⟩
theorem Room.deeper {k : Nat} {A : Around} (r : Room (k + 1) A) (env : Env) : Room k (A.deeper env) :=
  ⟨r.hd, by have := r.dp; show A.depth + 1 + 3 * k + 5 < _; omega, by have := r.un; show A.units + 3 + 16 * k + 200 < _; omega⟩
theorem Room.in1 {k : Nat} {A : Around} (r : Room (k + 1) A) : Room k A.in1 :=
  ⟨r.hd, by have := r.dp; show A.depth + 3 * k + 5 < _; omega, by have := r.un; show A.units + 1 + 16 * k + 200 < _; omega⟩
theorem Room.depth {k : Nat} {A : Around} (r : Room k A) : A.depth < recursionLimit := by have := r.dp; omega
theorem Room.units {k : Nat} {A : Around} (r : Room k A) : A.units + 64 < cLine := by have := r.un; omega
/-! ### argument lists and displays -/
def tNil : TA := fun _ H Q => Q [] H
def tCons (ta : TE) (tr : TA) : TA := fun σ H Q => ta σ H fun x H1 => tr σ H1 fun xs H2 => Q (x :: xs) H2
section
variable {X : Cx} {e : Expr} {es : List Expr} {te : TE} {t : TA} {pos : Pos}
theorem pa_nil : PA X [] tNil := fun _ _ _ _ H Q I h => Calls.spliced_nil ⟨[], H, I, .nil, h⟩
theorem pa_cons (ha : PE X e te) (hr : PA X es t) (hs : starEach (e :: es) X.env = (false, eval e X.env) :: starEach es X.env := by rfl) : PA X (e :: es) (tCons te t) := by
  intro pos pins s σ H Q I h
  rw [hs]
  show wpAny _ _ (spliced ((false, eval e X.env) :: backTo pos (starEach es X.env))) _ _ s
  refine Calls.spliced_cons (thn (ha pins s σ H _ I h) fun u s1 ⟨x, H1, I1, r1, q1⟩ => ?_)
  exact thn (hr pos pins s1 σ H1 _ I1 q1) fun us s2 ⟨xs, H2, I2, r2, q2⟩ => ⟨x :: xs, H2, I2, .cons r1 r2, q2⟩

/-- a tuple, a list of written items -/
def tTup (t : TA) : TE := fun σ H Q => t σ H fun xs H1 => xs.length ≤ sizeLine ∧ ∀ p, H1 p = none → Q (.ref p) (upd H1 p (.tup xs))
def tLst (t : TA) : TE := fun σ H Q => t σ H fun xs H1 => xs.length ≤ sizeLine ∧ ∀ p, H1 p = none → Q (.ref p) (upd H1 p (.lst xs))
theorem pe_tup {x1} (h : PA X es t) : PE X (.Tuple es x1 pos) (tTup t) := by
  intro pins s σ H Q I hq
  refine wpAny_Tuple_spliced (thn (h pos pins s σ H _ I hq) fun us s1 ⟨xs, H1, I1, r, z, q⟩ => ⟨by rw [← r.length]; exact z, ?_⟩)
  have hf : H1 s1.heap.objs.size = none := I1.hok.fresh (Nat.le_refl _)
  refine ⟨.ref s1.heap.objs.size, upd H1 s1.heap.objs.size (.tup xs), I1.laid (t' := s1.toks) (fun b u e => Heap.get?_push_of_some _ e) (Nat.le_refl _) ?_, rfl, q _ hf⟩
  exact ⟨z, us, r, ⟨_, Heap.get?_push_size _ rfl, rfl, _, rfl⟩⟩
theorem pe_lst (h : PA X es t) : PE X (.List es pos) (tLst t) := by
  intro pins s σ H Q I hq
  refine wpAny_List_spliced (thn (h pos pins s σ H _ I hq) fun us s1 ⟨xs, H1, I1, r, z, q⟩ => ⟨by rw [← r.length]; exact z, ?_⟩)
  have hf : H1 s1.heap.objs.size = none := I1.hok.fresh (Nat.le_refl _)
  refine ⟨.ref s1.heap.objs.size, upd H1 s1.heap.objs.size (.lst xs), I1.laid (t' := s1.toks) (fun b u e => Heap.get?_push_of_some _ e) (Nat.le_refl _) ?_, rfl, q _ hf⟩
  exact ⟨z, us, 0, r, Heap.get?_push_size _ rfl⟩
end

/-! ### what a def promises -/
/-- a def's promise: the bound arguments in the parameters' order, the heap, the wanted end, the wanted exception -/
abbrev Sp := List V → Hp → VK → XK → Prop
/-- how an exception lies behind a call (file 08 gives it): the callers' frames, abstract heap and state ahead of the call, the wish, the exception, the state -/
abbrev CXT := List Env → Hp → Shared → XK → Value → Shared → Prop

/-- the state at a call -/
structure Env0 (P : Program) (w : World) (K : PySem.W.Frag) (mg : Str → Option Value) (base : Heap) (A : Around) (outer : List Env) (s : Shared) (H : Hp) : Prop where
  frames : A.frames = some outer
  mod : Mod K mg base
  bs : ∀ b o, base.get? b = some o → s.heap.get? b = some o ∧ H b = none
  bsz : base.objs.size ≤ s.heap.objs.size
  funs : s.heap.FunFrames base outer
  frf : ∀ b ∈ frs outer, H b = none
  hok : HOk P w H s.heap
  bare : AllBare s.gens
/-- a call's end -/
def CE (outer : List Env) (P : Program) (w : World) (H : Hp) (s : Shared) (Q : VK) (u : Value) (s' : Shared) : Prop :=
  ∃ v H', s'.os = s.os ∧ AllBare s'.gens ∧ Un (frs outer) [] H H' s.heap s'.heap ∧ HOk P w H' s'.heap ∧ RelV v u ∧ Q v H'
def CR (CX : CXT) (outer : List Env) (P : Program) (w : World) (H : Hp) (s : Shared) (Q : VK) (E : XK) (r : Result) (s' : Shared) : Prop :=
  match r with
  | .ok (.ret u) => CE outer P w H s Q u s'
  | .ok _ => False
  | .error e => CX outer H s E e s'
structure FnOk (P : Program) (w : World) (K : PySem.W.Frag) (mg : Str → Option Value) (base : Heap) (CX : CXT) (k : Nat) (f : Addr) (fd : FuncData) (ps : List Str) (sp : Sp) : Prop where
  len : ∀ vs H Q E, sp vs H Q E → vs.length = ps.length
  run : ∀ (A : Around) (outer : List Env) (s : Shared) (H : Hp) (args : Args) (us : List Value) (vs : List V) (Q : VK) (E : XK), Room k A → Env0 P w K mg base A outer s H → BindsTo s fd args (ps.zip us) → Vals vs us → sp vs H Q E →
    codeAny (model P w) A (.call (.ref f) args) (CR CX outer P w H s Q E) s
theorem FnOk.mono {P : Program} {w : World} {K : PySem.W.Frag} {mg : Str → Option Value} {base : Heap} {CX : CXT} {j k : Nat} {f : Addr} {fd : FuncData} {ps : List Str} {sp : Sp} (F : FnOk P w K mg base CX j f fd ps sp) (h : j ≤ k) :
    FnOk P w K mg base CX k f fd ps sp := ⟨F.len, fun A outer s H args us vs Q E hr => F.run A outer s H args us vs Q E (hr.mono h)⟩
/-- a weaker promise -/
theorem FnOk.imp {P : Program} {w : World} {K : PySem.W.Frag} {mg : Str → Option Value} {base : Heap} {CX : CXT} {k : Nat} {f : Addr} {fd : FuncData} {ps : List Str} {sp sp' : Sp} (F : FnOk P w K mg base CX k f fd ps sp)
    (h : ∀ vs H Q E, sp' vs H Q E → sp vs H Q E) : FnOk P w K mg base CX k f fd ps sp' :=
  ⟨fun vs H Q E q => F.len vs H Q E (h _ _ _ _ q), fun A outer s H args us vs Q E hr he hb hv hs => F.run A outer s H args us vs Q E hr he hb hv (h _ _ _ _ hs)⟩

theorem Env0.in1 {P : Program} {w : World} {K : PySem.W.Frag} {mg : Str → Option Value} {base : Heap} {A : Around} {outer : List Env} {s : Shared} {H : Hp} (e : Env0 P w K mg base A outer s H) :
    Env0 P w K mg base A.in1 outer s H := ⟨e.frames, e.mod, e.bs, e.bsz, e.funs, e.frf, e.hok, e.bare⟩

section
variable {X : Cx} {pins : List (Addr × Obj)} {σ : St} {H : Hp} {s s' : Shared}
/-- from a body: what a callee wants -/
theorem Inv.env0 (I : Inv X pins σ H s) : Env0 X.prog X.w X.K X.mg X.base X.A X.stack s H :=
  ⟨I.ok.frames, I.ok.mod, I.bs, Nat.le_trans I.ok.bsz I.sz, I.stack, I.stkFree, I.hok, I.bare⟩
/-- behind a call -/
theorem Inv.after {Q : VK} {u : Value} (I : Inv X pins σ H s) (h : CE X.stack X.prog X.w H s Q u s') : EP X pins σ Q u s' := by
  obtain ⟨v, H', os, bare, un, hok, r, q⟩ := h
  obtain ⟨hh, g, d, t, os'⟩ := s'
  obtain rfl : os' = s.os := os
  exact ⟨v, H', I.call (h' := hh) (g' := g) (d' := d) (t' := t) (ch := []) un hok bare (fun b z => absurd z (by simp)), r, q⟩
end

/-! ### calls -/
/-- f(..): the written arguments, then the defaults dvs; E: what is wanted of an exception -/
def tCall (sp : Sp) (dvs : List V) (E : XK) (t : TA) : TE := fun σ H Q => t σ H fun vs H1 => sp (vs ++ dvs) H1 Q E
/-- how the parameters are bound: us the positional arguments, kw the keywords' values by name, ds the defaults that fill up -/
def Binds (K : PySem.W.Frag) (fd : FuncData) (ps : List Str) (ds : List Value) : Prop :=
  ∀ (s : Shared) (us : List Value), K.In s.heap → (us ++ ds).length = ps.length → BindsTo s fd ⟨us, []⟩ (ps.zip (us ++ ds))
/-- every parameter is given -/
theorem Binds.all {K : PySem.W.Frag} {fd : FuncData} {ps : List Str} (h : ∀ us : List Value, us.length = ps.length → bindArgs fd ⟨us, []⟩ = pure (ps.zip us)) : Binds K fd ps [] := fun s us _ hl => by
  rw [List.append_nil] at hl ⊢
  exact .of_eq (h us hl)

/-- an exception of a callee reaches what this body wants of exceptions -/
def Passes (CX : CXT) (X : Cx) (E : XK) : Prop := ∀ (pins : List (Addr × Obj)) (σ : St) (H : Hp) (s : Shared) (e : Value) (s' : Shared), Inv X pins σ H s → CX X.stack H s E e s' → X.xe e s'

section
variable {X : Cx} {CX : CXT} {k : Nat} {f C : Addr} {fd : FuncData} {ps : List Str} {sp : Sp} {dvs : List V} {ds : List Value} {E : XK} {x m : Str} {p pos apos : Pos} {e o : Expr} {es : List Expr} {ta : TE} {t : TA}

/-- the callee runs -/
theorem run_fn {pins : List (Addr × Obj)} {σ : St} {H : Hp} {s : Shared} {Q : VK} {us : List Value} {vs : List V} (F : FnOk X.prog X.w X.K X.mg X.base CX k f fd ps sp) (hr : Room k X.A) (hb : Binds X.K fd ps ds) (hd : Vals dvs ds) (hx : Passes CX X E)
    (I : Inv X pins σ H s) (r : Vals vs us) (h : sp (vs ++ dvs) H Q E) : wpAny (model X.prog X.w) X.A (call (.ref f) us) (EP X pins σ Q) X.xe s := by
  have r2 : Vals (vs ++ dvs) (us ++ ds) := r.append hd
  have hl : (us ++ ds).length = ps.length := by rw [← r2.length]; exact F.len _ _ _ _ h
  refine wpAny_call (codeAny_mono (F.run X.A X.stack s H ⟨us, []⟩ (us ++ ds) (vs ++ dvs) Q E hr I.env0 (hb s us I.kIn hl) r2 h) fun r s' hq => ?_)
  cases r with
  | error e => exact hx pins σ H s e s' I hq
  | ok fl =>
    cases fl with
    | ret u => exact I.after hq
    | next => exact False.elim hq
    | brk => exact False.elim hq
    | cont => exact False.elim hq

theorem pe_call (F : FnOk X.prog X.w X.K X.mg X.base CX k f fd ps sp) (hr : Room k X.A) (hg : Gl X x) (hm : X.mg x = some (.ref f)) (hk : PySem.W.keepIn X.K (.ref f) = true) (hb : Binds X.K fd ps ds) (hd : Vals dvs ds) (hx : Passes CX X E)
    (ha : PA X (e :: es) t) (hdb : (x == ("__debug__" : Str)) = false := by decide) (he : starEach (e :: es) X.env = (false, eval e X.env) :: starEach es X.env := by rfl) (hpl : (backTo pos (starEach es X.env)).any (·.1) = false := by rfl) :
    PE X (.Call (.Name x p) (e :: es) [] pos) (tCall sp dvs E t) := by
  intro pins s σ H Q I h
  refine wpAny_Call_Name_kw (ld_glob I hg hm ?_ hdb)
  refine PySem.W.callWith_K (h₀ := X.base) I.ok.mod.kin hk (thn (ha pos pins s σ H _ I h) fun us s1 ⟨vs, H1, I1, r, q⟩ => ⟨I1.kIn, ?_⟩) he hpl
  exact run_fn F hr hb hd hx I1 r q
/-- what a class must have to be made -/
structure Mk (K : PySem.W.Frag) (C f : Addr) : Prop where
  makes : PySem.W.makesIn K C = true
  init : PySem.W.findIn K (.ref C) "__init__" = some (some (.ref f))
  fn : PySem.W.isFn K (.ref f) = true
  kp : PySem.W.keepIn K (.ref C) = true

end

/-! ### keywords -/
section
variable {X : Cx} {CX : CXT} {k : Nat} {f C : Addr} {fd : FuncData} {ps ks : List Str} {sp : Sp} {E : XK} {x m : Str} {p pos apos kpos : Pos} {e o : Expr} {es : List Expr} {kws : List Keyword} {te ta : TE} {t tk : TA} {nm : Option Str}
/-- how a call with keywords binds: g puts the positional values us and the keywords' values ws (names ks) in the parameters' order, defaults among them -/
structure KBinds (K : PySem.W.Frag) (fd : FuncData) (ps ks : List Str) (g : List Value → List Value → List Value) (gV : List V → List V → List V) : Prop where
  to : ∀ (s : Shared) (us ws : List Value), K.In s.heap → (g us ws).length = ps.length → BindsTo s fd ⟨us, ks.zip ws⟩ (ps.zip (g us ws))
  rel : ∀ {vs : List V} {us : List Value} {zs : List V} {ws : List Value}, Vals vs us → Vals zs ws → Vals (gV vs zs) (g us ws)
variable {g : List Value → List Value → List Value} {gV : List V → List V → List V}
end

/-! ### a def's body keeps its promise -/
/-- names: the parameters first -/
structure FnScope (N P : List Str) (sc : Scope) : Prop where
  kind : sc.kind = .function
  co : sc.isCoroutine = false
  gen : sc.isGenerator = false
  nd : N.Nodup
  pre : N.take P.length = P
  par : ∀ x ∈ P, sc.names.lookup x = some .local ∨ sc.names.lookup x = some .cell
  nofree : ∀ y ∈ sc.names, y.2 ≠ .free

theorem bindL_out {kindOf : Str → Option NameKind} {x : Str} : ∀ {binds : List (Str × Value)} {m : Str → Option Value}, (∀ v, (x, v) ∉ binds) → bindL kindOf binds m x = m x
  | [], _, _ => rfl
  | (n, v) :: r, m, h => by
    unfold bindL
    rw [bindL_out fun w hw => h w (List.mem_cons_of_mem _ hw)]
    split
    · have : x ≠ n := by rintro rfl; exact h v List.mem_cons_self
      simp [this]
    · rfl
theorem bindC_out {kindOf : Str → Option NameKind} {x : Str} : ∀ {binds : List (Str × Value)} {m : Str → Option Value}, (∀ v, (x, v) ∉ binds) → bindC kindOf binds m x = m x
  | [], _, _ => rfl
  | (n, v) :: r, m, h => by
    unfold bindC
    rw [bindC_out fun w hw => h w (List.mem_cons_of_mem _ hw)]
    split
    · rfl
    · have : x ≠ n := by rintro rfl; exact h v List.mem_cons_self
      simp [this]
theorem bindL_get {kindOf : Str → Option NameKind} {x : Str} {v : Value} : ∀ {P : List Str} {vs : List Value} {i : Nat} {m : Str → Option Value}, P.Nodup → P[i]? = some x → vs[i]? = some v → kindOf x = some .local →
    bindL kindOf (P.zip vs) m x = some v
  | [], _, _, _, _, h, _, _ => by simp at h
  | _ :: _, [], _, _, _, _, h, _ => by simp at h
  | p :: P, w :: vs, 0, m, nd, h1, h2, hk => by
    simp at h1 h2; subst h1; subst h2
    show bindL kindOf ((p, w) :: P.zip vs) m p = _
    unfold bindL
    rw [bindL_out fun v hv => (List.nodup_cons.mp nd).1 (List.of_mem_zip hv).1, if_pos hk]
    simp
  | p :: P, w :: vs, i + 1, m, nd, h1, h2, hk => by
    show bindL kindOf ((p, w) :: P.zip vs) m x = _
    unfold bindL
    exact bindL_get (i := i) (List.nodup_cons.mp nd).2 (by simpa using h1) (by simpa using h2) hk
theorem bindC_get {kindOf : Str → Option NameKind} {x : Str} {v : Value} : ∀ {P : List Str} {vs : List Value} {i : Nat} {m : Str → Option Value}, P.Nodup → P[i]? = some x → vs[i]? = some v → kindOf x ≠ some .local →
    bindC kindOf (P.zip vs) m x = some v
  | [], _, _, _, _, h, _, _ => by simp at h
  | _ :: _, [], _, _, _, _, h, _ => by simp at h
  | p :: P, w :: vs, 0, m, nd, h1, h2, hk => by
    simp at h1 h2; subst h1; subst h2
    show bindC kindOf ((p, w) :: P.zip vs) m p = _
    unfold bindC
    rw [bindC_out fun v hv => (List.nodup_cons.mp nd).1 (List.of_mem_zip hv).1, if_neg hk]
    simp
  | p :: P, w :: vs, i + 1, m, nd, h1, h2, hk => by
    show bindC kindOf ((p, w) :: P.zip vs) m x = _
    unfold bindC
    exact bindC_get (i := i) (List.nodup_cons.mp nd).2 (by simpa using h1) (by simpa using h2) hk

/-- the names' values at the entry -/
def start (N : List Str) (vs : List V) : St := vs.map some ++ List.replicate (N.length - vs.length) none

/-- the context of a def's body, at its entry; an exception leaves the frame, then lies as CX says -/
def cxOf (CX : CXT) (P : Program) (w : World) (K : PySem.W.Frag) (mg : Str → Option Value) (base : Heap) (N : List Str) (qual : Str) (scope : Scope) (f : Addr) (cd : Value) (A : Around) (outer : List Env) (s : Shared) (H : Hp) (E : XK) : Cx where
  prog := P
  w := w
  K := K
  mg := mg
  base := base
  A := A.deeper (envOfC qual scope s.heap.objs.size f cd)
  N := N
  s₀ := s
  H₀ := H
  env := envOfC qual scope s.heap.objs.size f cd
  outer := outer
  stack := envOfC qual scope s.heap.objs.size f cd :: outer
  ex := []
  calm := true
  fn := fun _ => true
  pn := []
  xe := fun e s' => wpAny (model P w) (A.deeper (envOfC qual scope s.heap.objs.size f cd)) (leaving (envOfC qual scope s.heap.objs.size f cd) e) (fun _ s'' => CX outer H s E e s'') (fun e' s'' => CX outer H s E e' s'') s'

theorem cell_has {sc : Scope} {n : Nat} {x : Str} (h : sc.names.lookup x = some .cell) : ∃ c, (cellsFrom n sc.names []).lookup x = some c := by
  have q := PySem.W.cellsFrom_some sc.names n [] (.inl h)
  exact Option.isSome_iff_exists.mp q

theorem inv_start {CX : CXT} {P : Program} {w : World} {K : PySem.W.Frag} {mg : Str → Option Value} {base : Heap} {N ps : List Str} {qual : Str} {scope : Scope} {f : Addr} {cd : Value} {A : Around} {outer : List Env} {s s1 : Shared} {H : Hp} {E : XK} {us : List Value} {vs : List V}
    (S : FnScope N ps scope) (hd : A.handled = none) (e0 : Env0 P w K mg base A outer s H) (hl : vs.length = ps.length) (r : Vals vs us)
    (x : InCallC s s.heap.objs.size (bindL (envOfC qual scope s.heap.objs.size f cd).kindOf (ps.zip us) fun _ => none) (cellsFrom (s.heap.objs.size + 1) scope.names []) (bindC (envOfC qual scope s.heap.objs.size f cd).kindOf (ps.zip us) fun _ => none) s1) :
    Inv (cxOf CX P w K mg base N qual scope f cd A outer s H E) [] (start N vs) H s1 := by
  have hpl : ps.length ≤ N.length := by have := congrArg List.length S.pre; rw [List.length_take] at this; omega
  obtain ⟨h1, tk, rfl, hk⟩ := x.done
  have noA : ∀ b : Addr, b ∉ (cxOf CX P w K mg base N qual scope f cd A outer s H E).ex := fun b z => absurd (show b ∈ ([] : List Addr) from z) (by simp)
  refine ⟨⟨e0.mod, S.kind, rfl, rfl, Nat.le_refl _, fun y z c h1 h2 => ?_, fun y hy => ?_, fun y c _ h => ?_, fun _ => hd, Around.frames_deeper e0.frames, .inr ⟨rfl, rfl⟩, fun b z => absurd z (noA b), e0.bs, e0.bsz, fun b _ _ => noA b, fun b z => absurd z (noA b), e0.funs, e0.frf⟩,
    rfl, e0.bare, Un.kept hk, ⟨_, x.toInCall.ns, fun i y v h1 h2 h3 => ?_⟩, fun y c h => ⟨_, x.cell y c h⟩, e0.hok.fresh (Nat.le_refl _), fun y c h => ?_, fun p hp => absurd (show p ∈ ([] : List (Addr × Obj)) from hp) (by simp), e0.hok.kept hk, ?_⟩
  · exact name_of_addr x.apart (PySem.mem_of_lookup h1) (PySem.mem_of_lookup h2)
  · have hy : scope.names.lookup y = some .cell ∨ scope.names.lookup y = some .free := hy
    rcases hy with hy | hy
    · exact cell_has hy
    · exact absurd rfl (S.nofree _ (PySem.mem_of_lookup hy))
  · exact Nat.le_of_lt (x.above y c (PySem.mem_of_lookup h))
  · have hi : i < vs.length := by
      unfold start at h2
      by_cases hi : i < vs.length
      · exact hi
      · rw [List.getElem?_append_right (by simpa using hi)] at h2
        rw [List.getElem?_replicate] at h2
        split at h2 <;> cases h2
    have ha : vs[i]? = some v := by
      unfold start at h2
      rw [List.getElem?_append_left (by simpa using hi), List.getElem?_map] at h2
      cases e : vs[i]? with
      | none => rw [e] at h2; cases h2
      | some a => rw [e] at h2; cases h2; rfl
    obtain ⟨u, hu, rv⟩ := r.get ha
    have hp : ps[i]? = some y := by
      rw [← S.pre, List.getElem?_take_of_lt (by omega)]; exact h1
    have ndP : ps.Nodup := by rw [← S.pre]; exact S.nd.sublist (List.take_sublist _ _)
    refine ⟨u, rv, ?_⟩
    rcases S.par y (List.mem_of_getElem? hp) with k | k
    · exact .inl ⟨k, bindL_get ndP hp hu k⟩
    · obtain ⟨c, e⟩ := cell_has (n := s.heap.objs.size + 1) k
      refine .inr ⟨.inl k, c, e, ?_⟩
      have q := x.cell y c e
      rw [bindC_get ndP hp hu (by show scope.names.lookup y ≠ _; rw [k]; decide)] at q
      exact q
  · exact e0.hok.fresh (Nat.le_of_lt (x.above y c (PySem.mem_of_lookup h)))
  · unfold start
    show _ = N.length
    rw [List.length_append, List.length_map, List.length_replicate]
    omega

/-- THE RULE: a def (or a method) of the text, by its body. The body's reading t is chosen for each entry; it is run at the parameters' values -/
theorem fn_of {CX : CXT} {P : Program} {w : World} {K : PySem.W.Frag} {mg : Str → Option Value} {base : Heap} {k : Nat} {f : Addr} {name qual : Str} {params : Arguments} {body : List Stmt} {scope : Scope} {dV kV doc pm cdv ct oc : Value} {an od : Option Addr}
    {osl : Array (Option Value)} {N ps : List Str} {sp : Sp} (lk : K.lookup f = some ⟨oc, od, .func (PySem.W.fnOf name qual params body scope dV kV doc pm an cdv ct), osl⟩) (hcd : PySem.W.codeIn K cdv qual = true) (S : FnScope N ps scope)
    (len : ∀ vs H Q E, sp vs H Q E → vs.length = ps.length)
    (hbody : ∀ (A : Around) (outer : List Env) (s : Shared) (H : Hp) (vs : List V) (Q : VK) (E : XK), Room k (A.deeper (envOfC qual scope s.heap.objs.size f cdv)) → sp vs H Q E →
      ∃ t, PSs (cxOf CX P w K mg base N qual scope f cdv A outer s H E) body t ∧ t { nx := fun _ H' => Q .non H', rt := Q } (start N vs) H) :
    FnOk P w K mg base CX (k + 1) f (PySem.W.fnOf name qual params body scope dV kV doc pm an cdv ct) ps sp := by
  refine ⟨len, fun A outer s H args us vs Q E hr e0 hb r hsp => ?_⟩
  have hl := len _ _ _ _ hsp
  have KX : K.In s.heap := e0.mod.kin.keeps fun b o e => (e0.bs b o e).1
  have lim : s.heap.NoLimit := e0.mod.nolimit.keeps fun b o e => (e0.bs b o e).1
  have hkind : ∀ y ∈ ps.zip us, scope.names.lookup y.1 = some .local ∨ (scope.names.lookup y.1 = some .cell ∧ ((cellsFrom (s.heap.objs.size + 1) scope.names []).lookup y.1).isSome = true) := fun ⟨n, v⟩ hy => by
    rcases S.par n (List.of_mem_zip hy).1 with q | q
    · exact .inl q
    · exact .inr ⟨q, PySem.W.cellsFrom_some _ _ _ (.inl q)⟩
  refine codeAny_call_function hr.depth (KX _ _ lk) rfl S.co S.gen rfl (PySem.W.codeRec_of KX hcd) (hb _ _ _ _ ?_)
  refine wpAny_newFunctionEnv_cells S.kind hkind fun env he s1 x => ?_
  subst he
  refine ⟨lim.keeps x.toInCall.keep, codeAny_func ?_⟩
  obtain ⟨t, ht, hq⟩ := hbody A outer s H vs Q E (hr.deeper _) hsp
  have I : Inv (cxOf CX P w K mg base N qual scope f cdv A outer s H E) [] (start N vs) H s1 := inv_start S hr.hd e0 hl r x
  refine wpAny_mono (ht [] s1 (start N vs) H _ I hq) (fun fl s' hs => ?_) fun e s' hs => hs
  have fin : ∀ {σ' : St} {H' : Hp} {v : V} {u : Value}, Inv (cxOf CX P w K mg base N qual scope f cdv A outer s H E) [] σ' H' s' → RelV v u → Q v H' → CE outer P w H s Q u s' :=
    fun {σ' H' v u} J rv q => ⟨v, H', J.os, J.bare, J.base, J.hok, rv, q⟩
  cases fl with
  | ret u =>
    obtain ⟨v, σ', H', J, rv, q⟩ := hs
    exact fin J rv q
  | next =>
    obtain ⟨σ', H', J, q⟩ := hs
    exact fin (v := V.non) (u := Value.none) J rfl q
  | brk =>
    obtain ⟨_, _, _, q⟩ := hs
    exact False.elim q
  | cont =>
    obtain ⟨_, _, _, q⟩ := hs
    exact False.elim q
end L2

namespace L2
open PySem PySem.Spec PyProof.Rows
section
variable {X : Cx} {x : Str} {p pos : Pos} {e : Expr} {es : List Expr} {t : TA} {id T : String} {r : List V → Hp → VK → Prop}

def tCB (r : List V → Hp → VK → Prop) (t : TA) : TE := fun σ H Q => t σ H fun vs H1 => r vs H1 Q
/-- f(e, ..), f a built-in function -/
theorem pe_callB (hc : CallR X (.builtin id) r) (hg : Gl X x) (hm : X.mg x = none) (hv : bootBuiltins x = some (.builtin id)) (ha : PA X (e :: es) t) (hn : x ≠ "__name__" := by decide) (hdb : (x == ("__debug__" : Str)) = false := by decide)
    (he : starEach (e :: es) X.env = (false, eval e X.env) :: starEach es X.env := by rfl) (hpl : (backTo pos (starEach es X.env)).any (·.1) = false := by rfl) : PE X (.Call (.Name x p) (e :: es) [] pos) (tCB r t) := by
  intro pins s σ H Q I h
  refine wpAny_Call_Name_kw (ld_blt I hg hm hv ?_ hn hdb)
  exact PyProof.Rows.callWith_builtin1 (thn (ha pos pins s σ H _ I h) fun us s1 ⟨vs, H1, I1, r1, q1⟩ => hc pins s1 σ H1 vs us Q I1 r1 q1) he hpl
/-- T(e, ..), T a built-in type -/
theorem pe_callTy (hc : CallR X (.type T) r) (hg : Gl X x) (hm : X.mg x = none) (hv : bootBuiltins x = some (.type T)) (ha : PA X (e :: es) t) (hn : x ≠ "__name__" := by decide) (hdb : (x == ("__debug__" : Str)) = false := by decide)
    (he : starEach (e :: es) X.env = (false, eval e X.env) :: starEach es X.env := by rfl) (hpl : (backTo pos (starEach es X.env)).any (·.1) = false := by rfl) : PE X (.Call (.Name x p) (e :: es) [] pos) (tCB r t) := by
  intro pins s σ H Q I h
  refine wpAny_Call_Name_kw (ld_blt I hg hm hv ?_ hn hdb)
  exact PyProof.Rows.callWith_type1 (thn (ha pos pins s σ H _ I h) fun us s1 ⟨vs, H1, I1, r1, q1⟩ => hc pins s1 σ H1 vs us Q I1 r1 q1) he hpl
end
end L2

namespace HT
open PySem PyProof.Rows

/-- t < u of tuples of ints -/
def lexLt : List Int → List Int → Bool
  | [], [] => false
  | [], _ :: _ => true
  | _ :: _, [] => false
  | x :: xs, y :: ys => if x = y then lexLt xs ys else decide (x < y)
theorem lexLt_cons (x y : Int) (xs ys : List Int) : lexLt (x :: xs) (y :: ys) = if x = y then lexLt xs ys else decide (x < y) := rfl
theorem lexLt_nil_nil : lexLt [] [] = false := rfl
theorem lexLt_nil_cons (y : Int) (ys : List Int) : lexLt [] (y :: ys) = true := rfl
theorem lexLt_cons_nil (x : Int) (xs : List Int) : lexLt (x :: xs) [] = false := rfl

theorem eqAt_int (A : Around) (s : Shared) (a : Int) (t : Tok) (c : Int) (u : Tok) : ∃ e, SeqAt.EqAt A s (.int a t) (.int c u) e ∧ (e = true ↔ a = c) :=
  ⟨(a == c), SeqAt.EqAt.int_int a t c u, by simp⟩
theorem rcLt_int (A : Around) (s : Shared) (a : Int) (t : Tok) (c : Int) (u : Tok) (prog : Program) (w : World) (E : Value → Shared → Prop) (Q : Value → Shared → Prop) (h : Q (.bool (decide (a < c))) s) :
    wpAny (model prog w) A (richCompare .Lt (.int a t) (.int c u)) Q E s :=
  (PyProof.Rows.lt_int h : wpAny (model prog w) A (compareOp .Lt (.int a t) (.int c u)) Q E s)

section
open PySem.SeqAt
open PySem.AutoSeq1 (wpAny_loadPart')
open PySem.MeetsSeq PySem.MeetsSeq2 PySem.MeetsSeq3

theorem tuple_lt_ints (l b : Addr) (items items2 : Array Value) (n n2 : Nat) (dd dd2 : Option Addr) (sl sl2 : Array (Option Value)) (ns ms : List Int) (hi : IntsAre items.toList ns) (hj : IntsAre items2.toList ms) :
    Meets (Builtin.«tuple.__lt__» ⟨[.ref l, .ref b], []⟩)
      (fun _ R s => s.heap.get? l = some { cls := .type "tuple", dict := dd, data := .seq items n, slots := sl } ∧ s.heap.get? b = some { cls := .type "tuple", dict := dd2, data := .seq items2 n2, slots := sl2 } ∧
        R (.ok (.ret (.bool (lexLt ns ms)))) s) :=
  .of_wp fun prog w A R s h => by
    obtain ⟨hp, g, d, tk, os⟩ := s; obtain ⟨hl, hb, h⟩ := h
    have f2 := AutoSeq1.sub_tuple_tuple
    have z1 : items.size = ns.length := by rw [← hi.length]; simp
    have z2 : items2.size = ms.length := by rw [← hj.length]; simp
    wp_walk using wpAny_loadPart' hl, wpAny_loadPart' hb, wpAny_forIn_list _ (fun rest b s' => b.1 = none ∧ s' = ⟨hp, g, d, tk, os⟩ ∧ ∃ (vs ws : List Value) (ns' ms' : List Int), rest = vs.zip ws ∧
      IntsAre vs ns' ∧ IntsAre ws ms' ∧ ns'.length + items2.size = ms'.length + items.size ∧ R (.ok (.ret (.bool (lexLt ns' ms')))) ⟨hp, g, d, tk, os⟩) _
    case turn =>
      rintro ⟨y, x⟩ rest b s' ⟨hb', rfl, vs, ws, ns', ms', hz, hvi, hwi, hlen, hR⟩
      cases hvi with
      | nil => rw [List.zip_nil_left] at hz; cases hz
      | cons a t hvi' =>
        cases hwi with
        | nil => rw [List.zip_nil_right] at hz; cases hz
        | cons c u hwi' =>
          rw [List.zip_cons_cons] at hz
          injection hz with hyx hrest
          injection hyx with hy hx
          subst hy hx
          rw [lexLt_cons] at hR
          simp only [List.length_cons] at hlen
          obtain ⟨e, he, hiff⟩ := eqAt_int A.in1 ⟨hp, g, d, tk, os⟩ a t c u
          refine wpAny_bind (he prog w _ _ ?_)
          cases e with
          | true =>
            rw [if_pos (hiff.mp rfl)] at hR
            wp_walk
            exact ⟨rfl, rfl, _, _, _, _, hrest, hvi', hwi', by omega, hR⟩
          | false =>
            rw [if_neg (fun q => absurd (hiff.mpr q) Bool.false_ne_true)] at hR
            have hri := rcLt_int A.in1 ⟨hp, g, d, tk, os⟩ a t c u prog w
            wp_walk using hri
            exact ⟨_, rfl, by simpa using hR⟩
    case fin =>
      rintro ⟨b1, b2⟩ s' ⟨hb', rfl, vs, ws, ns', ms', hz, hvi, hwi, hlen, hR⟩
      simp only at hb'
      subst hb'
      have hv : lexLt ns' ms' = decide (items.size < items2.size) := by
        cases hvi with
        | nil =>
          cases hwi with
          | nil =>
            simp only [List.length_nil] at hlen
            rw [lexLt_nil_nil]
            exact (decide_eq_false (by omega)).symm
          | cons c u hw =>
            simp only [List.length_nil, List.length_cons] at hlen
            rw [lexLt_nil_cons]
            exact (decide_eq_true (by omega)).symm
        | cons a t hv =>
          cases hwi with
          | nil =>
            simp only [List.length_nil, List.length_cons] at hlen
            rw [lexLt_cons_nil]
            exact (decide_eq_false (by omega)).symm
          | cons c u hw =>
            rw [List.zip_cons_cons] at hz
            cases hz
      rw [hv] at hR
      wp_walk
      exact ⟨_, rfl, by simpa [Builtin.Tuple.tupleCompareSizes] using hR⟩
    case h =>
      exact ⟨rfl, rfl, items.toList, items2.toList, ns, ms, rfl, hi, hj, by omega, h⟩
end

section
variable {prog : Program} {w : World} {A : Around} {E : Value → Shared → Prop} {s : Shared}

theorem lt_tupInts {l b : Addr} {items items2 : Array Value} {ns ms : List Int} {Q : Value → Shared → Prop} (hl : IsTup s.heap l items) (hb : IsTup s.heap b items2) (hi : IntsAre items.toList ns) (hj : IntsAre items2.toList ms)
    (hu : A.units < cLine) (h : Q (.bool (lexLt ns ms)) s) : wpAny (model prog w) A (compareOp .Lt (.ref l) (.ref b)) Q E s := by
  obtain ⟨⟨cls, dd, data, sl⟩, ho, hc, n, hd⟩ := id hl
  obtain ⟨⟨cls2, dd2, data2, sl2⟩, ho2, hc2, n2, hd2⟩ := id hb
  simp only at hc hd hc2 hd2
  subst hc hd hc2 hd2
  exact richCompare_meets_room (op := .Lt) ⟨_, ho, rfl⟩ ⟨_, ho2, rfl⟩ PySem.F.slot_tuple_lt PySem.F.entry_tuple_lt (PySem.F.args_tuple_lt_2 _ _) (tuple_lt_ints l b items items2 n n2 dd dd2 sl sl2 ns ms hi hj)
    ⟨ho, ho2, show Value.bool (lexLt ns ms) ≠ Value.notImplemented ∧ Q (.bool (lexLt ns ms)) s from ⟨(fun x => nomatch x), h⟩⟩ hu

/-- t + u, t not empty -/
theorem cat_tup {t b : Addr} {vs ws : List Value} {Q : Value → Shared → Prop} (ht : IsTup s.heap t vs.toArray) (hb : IsTup s.heap b ws.toArray) (hv : vs ≠ [])
    (h1 : ws = [] → Q (.ref t) s) (h2 : ws ≠ [] → Q (.ref s.heap.objs.size) { s with heap := s.heap.push { cls := .type "tuple", data := .seq (vs ++ ws).toArray } })
    (hsz : vs.length + ws.length ≤ sizeLine) : wpAny (model prog w) A (binaryOp .Add (.ref t) (.ref b)) Q E s := by
  obtain ⟨⟨cls, dd, data, sl⟩, ho, hc, n, hd⟩ := id ht
  obtain ⟨⟨cls2, dd2, data2, sl2⟩, ho2, hc2, n2, hd2⟩ := id hb
  simp only at hc hd hc2 hd2
  subst hc hd hc2 hd2
  have e : vs.toArray ++ ws.toArray = (vs ++ ws).toArray := by simp
  by_cases hw : ws = []
  · exact concat_meets ⟨_, ho, rfl⟩ ⟨_, ho2, rfl⟩ noFill_tuple_add seq_tuple_add PySem.F.slot_tuple_add PySem.F.entry_tuple_add (PySem.F.args_tuple_add_2 _ _)
      (tuple_addW1 t b vs.toArray ws.toArray n n2 dd dd2 sl sl2 (by simpa using hv) (by simp [hw])) ⟨ho, ho2, h1 hw⟩
  · refine concat_meets ⟨_, ho, rfl⟩ ⟨_, ho2, rfl⟩ noFill_tuple_add seq_tuple_add PySem.F.slot_tuple_add PySem.F.entry_tuple_add (PySem.F.args_tuple_add_2 _ _)
      (tuple_addW2 t b vs.toArray ws.toArray n n2 dd dd2 sl sl2 (by simpa using hv) (by simpa using hw) (by rw [List.size_toArray, List.size_toArray]; exact hsz)) ⟨ho, ho2, ?_⟩
    rw [e]
    exact h2 hw

/-! ### t[a:b], not the whole -/
/-- a slice's bound as a place among n (d where it is left out) -/
def sIx (n d : Nat) : Option Int → Nat
  | none => d
  | some v => if v < 0 then (v + (n : Int)).toNat else min v.toNat n
theorem sIx_none (n d : Nat) : sIx n d none = d := rfl
theorem sIx_nat (n d k : Nat) : sIx n d (some (k : Int)) = min k n := by
  show (if (k : Int) < 0 then ((k : Int) + (n : Int)).toNat else min (k : Int).toNat n) = min k n
  rw [if_neg (by omega), Int.toNat_natCast]
theorem sIx_le (n d : Nat) (hd : d ≤ n) (o : Option Int) : sIx n d o ≤ n := by
  cases o with
  | none => exact hd
  | some v =>
    show (if v < 0 then (v + (n : Int)).toNat else min v.toNat n) ≤ n
    by_cases hv : v < 0
    · rw [if_pos hv]; omega
    · rw [if_neg hv]; exact Nat.min_le_right _ _
theorem clip_eq (v : Int) (n d : Nat) : (if v < 0 then max (v + (n : Int)) 0 else min v (n : Int)) = ((sIx n d (some v) : Nat) : Int) := by
  show (if v < 0 then max (v + (n : Int)) 0 else min v (n : Int)) = (((if v < 0 then (v + (n : Int)).toNat else min v.toNat n) : Nat) : Int)
  by_cases hv : v < 0
  · simp only [if_pos hv]; omega
  · simp only [if_neg hv]; omega
theorem adjust_gen (lo hi : Option Int) (n : Nat) : Builtin.Slice.sliceAdjust lo hi 1 (n : Int) = (((sIx n 0 lo : Nat) : Int), ((sIx n n hi : Nat) : Int)) := by
  have h1 : ¬ ((1 : Int) < 0) := by omega
  unfold Builtin.Slice.sliceAdjust
  simp only [h1, if_false]
  refine Prod.ext ?_ ?_
  · cases lo with
    | none => rfl
    | some v => exact clip_eq v n 0
  · cases hi with
    | none => rfl
    | some v => exact clip_eq v n n
theorem places_gen (i j : Nat) : Builtin.Slice.slicePlaces (i : Int) (j : Int) 1 = j - i := by
  unfold Builtin.Slice.slicePlaces
  have h1 : (1 : Int) > 0 := by omega
  simp only [h1, if_true, Int.ediv_one]
  split <;> omega
theorem slicePart_ {v : Value} {o : Option Int} {Q : Option Int → Shared → Prop} (p : IsPart v o) (h : Q o s) : wpAny (model prog w) A (Builtin.Slice.slicePartIndex v) Q E s := by
  cases p with
  | none => exact slicePart_none h
  | int i t => exact slicePart_int h
theorem sliceApplied_gen {sl : Addr} {vl vu : Value} {lo hi : Option Int} {n : Nat} {Q : Int × Int × Nat → Shared → Prop} (hs : s.heap.IsSliceOf sl vl vu .none) (pl : IsPart vl lo) (pu : IsPart vu hi)
    (h : Q (((sIx n 0 lo : Nat) : Int), 1, sIx n n hi - sIx n 0 lo) s) : wpAny (model prog w) A (Builtin.Slice.sliceApplied (.ref sl) (pure (n : Int))) Q E s := by
  obtain ⟨os, hos, hcs, hds⟩ := id hs
  unfold Builtin.Slice.sliceApplied Builtin.Slice.sliceFields
  refine wpAny_bind (wpAny_bind (wpAny_field hos hds (x := vl) rfl (wpAny_bind (wpAny_field hos hds (x := vu) rfl (wpAny_bind (wpAny_field hos hds (x := .none) rfl (wpAny_pure ?_)))))))
  refine wpAny_bind (slicePart_none ?_)
  show wpAny _ _ (if ((1 : Int) == 0) = true then _ else _) _ _ s
  rw [if_neg (by decide)]
  refine wpAny_bind (slicePart_ pl (wpAny_bind (slicePart_ pu (wpAny_bind (wpAny_pure ?_)))))
  show wpAny _ _ (match Builtin.Slice.sliceAdjust lo hi 1 (n : Int) with | (lo, hi) => pure (lo, (1 : Int), Builtin.Slice.slicePlaces lo hi 1)) _ _ s
  rw [adjust_gen lo hi n]
  show wpAny _ _ (pure (((sIx n 0 lo : Nat) : Int), (1 : Int), Builtin.Slice.slicePlaces ((sIx n 0 lo : Nat) : Int) ((sIx n n hi : Nat) : Int) 1)) _ _ s
  rw [places_gen]
  exact wpAny_pure h
theorem pick_gen (xs : Array Value) (i k : Nat) : ((List.range k).filterMap fun (m : Nat) => xs[((i : Int) + (m : Int) * 1).toNat]?).toArray = ((xs.toList.drop i).take k).toArray := by
  have e : (fun (m : Nat) => xs[((i : Int) + (m : Int) * 1).toNat]?) = fun m => xs[i + m]? := by
    funext m
    have : ((i : Int) + (m : Int) * 1).toNat = i + m := by omega
    rw [this]
  rw [e]
  have := pick_run xs i k
  rw [List.filterMap_map] at this
  have e2 : ((fun x => xs[x]?) ∘ fun x => i + x) = fun m => xs[i + m]? := rfl
  rw [e2] at this
  rw [this]

theorem getItem_tuple_cut {t sl : Addr} {items : Array Value} {vl vu : Value} {lo hi : Option Int} {Q : Value → Shared → Prop} (ht : IsTup s.heap t items) (hs : s.heap.IsSliceOf sl vl vu .none) (pl : IsPart vl lo) (pu : IsPart vu hi)
    (hw : ¬ (sIx items.size 0 lo = 0 ∧ sIx items.size items.size hi = items.size))
    (h : Q (.ref s.heap.objs.size) { s with heap := s.heap.push { cls := .type "tuple", data := .seq ((items.toList.drop (sIx items.size 0 lo)).take (sIx items.size items.size hi - sIx items.size 0 lo)).toArray } })
    (hsz : items.size ≤ sizeLine) : wpAny (model prog w) A (getItem (.ref t) (.ref sl)) Q E s := by
  have htake : sizeOk (.seq ((items.toList.drop (sIx items.size 0 lo)).take (sIx items.size items.size hi - sIx items.size 0 lo)).toArray) := by
    show ((items.toList.drop (sIx items.size 0 lo)).take (sIx items.size items.size hi - sIx items.size 0 lo)).toArray.size ≤ sizeLine
    rw [List.size_toArray, List.length_take, List.length_drop, Array.length_toList]
    omega
  have hj : sIx items.size items.size hi ≤ items.size := sIx_le _ _ (Nat.le_refl _) hi
  obtain ⟨os, hos, hcs, hds⟩ := id hs
  have hTs : s.TypeIs (.ref sl) "slice" := ⟨os, hos, hcs⟩
  unfold getItem
  try with_reducible refine wpAny_holding ?_
  first | refine wpAny_bind (wpAny_pure ?_) | skip
  refine wpAny_bind (wpAny_sequenceKey ht.typeIs (by decide) ?_)
  refine wpAny_bind (wpAny_callSpecial?_slot (name := Str.ofString "__getitem__") ht.typeIs PyProof.Rows.slot_tuple_getitem
    (wpAny_call_entry PyProof.Rows.slot_tuple_getitem ht.typeIs entry_tuple_getitem ?_ (args_tuple_getitem _ _)))
  show wpAny _ _ (Builtin.Tuple.tupleItemsOf (.ref t) >>= _) _ _ s
  refine wpAny_bind (tupleItemsOf_ ht ?_)
  refine wpAny_bind (wpAny_typeOf hTs ?_)
  rw [if_pos (by decide)]
  refine wpAny_bind (sliceApplied_gen hs pl pu ?_)
  have hno : ¬ ((((sIx items.size 0 lo : Nat) : Int) == 0 && (1 : Int) == 1 && (sIx items.size items.size hi - sIx items.size 0 lo) == items.size) = true) := by
    intro q
    rw [Bool.and_eq_true, Bool.and_eq_true] at q
    have q1 : ((sIx items.size 0 lo : Nat) : Int) = 0 := eq_of_beq q.1.1
    have q2 : sIx items.size items.size hi - sIx items.size 0 lo = items.size := eq_of_beq q.2
    exact hw ⟨by omega, by omega⟩
  show wpAny _ _ (if (((sIx items.size 0 lo : Nat) : Int) == 0 && (1 : Int) == 1 && (sIx items.size items.size hi - sIx items.size 0 lo) == items.size) = true then _ else _) _ _ s
  rw [if_neg hno, pick_gen]
  first
    | exact wpAny_bind (m := Builtin.Tuple.tupleExact _) (wpAny_newObj_type (wpAny_pure ⟨_, rfl, wpAny_pure h⟩) htake)
    | exact wpAny_bind (m := Builtin.Tuple.tupleExact _) (wpAny_newObj_type (wpAny_bind (wpAny_pure (wpAny_pure ⟨_, rfl, wpAny_pure h⟩))) htake)
    | exact wpAny_bind (wpAny_bind (m := Builtin.Tuple.tupleExact _) (wpAny_newObj_type (wpAny_pure (wpAny_pure ⟨_, rfl, wpAny_pure h⟩)) htake))
    | exact wpAny_bind (wpAny_bind (m := Builtin.Tuple.tupleExact _) (wpAny_newObj_type (wpAny_pure ⟨_, rfl, wpAny_pure h⟩) htake))
end
end HT

namespace L2
open PySem PySem.Spec PyProof.Rows

/-! ### the parts of a slice -/
abbrev TO := St → Hp → (Option Int → Hp → Prop) → Prop
/-- a slice's part (left out, or an int) -/
def PO (X : Cx) (e : Option Expr) (t : TO) : Prop :=
  ∀ (pins : List (Addr × Obj)) (s : Shared) (σ : St) (H : Hp) (Q : Option Int → Hp → Prop), Inv X pins σ H s → t σ H Q →
    wpAny (model X.prog X.w) X.A (evalPart e X.env) (fun u s' => ∃ o H', Inv X pins σ H' s' ∧ IsPart u o ∧ Q o H') X.xe s
def tNoPart : TO := fun _ H Q => Q none H
def tPart (t : TE) : TO := fun σ H Q => t σ H fun x H1 => ∃ i, x = .int i ∧ Q (some i) H1

theorem intsAre_of {ns : List Int} : ∀ {us : List Value}, Vals (ns.map V.int) us → IntsAre us ns := by
  induction ns with
  | nil => intro us r; rw [List.map_nil] at r; cases r; exact .nil
  | cons n ns ih =>
    intro us r
    rw [List.map_cons] at r
    cases r with
    | cons r1 r2 =>
      obtain ⟨t, e⟩ := r1
      subst e
      exact .cons n t (ih r2)

section
variable {X : Cx} {e : Expr} {te : TE} {lo hi : Option Expr} {tl th : TO} {pos p2 : Pos}

theorem po_none : PO X none tNoPart := by
  intro pins s σ H Q I h
  rw [evalPart_none]
  exact wpAny_pure ⟨none, H, I, .none, h⟩
theorem po_some (h : PE X e te) : PO X (some e) (tPart te) := by
  intro pins s σ H Q I hw
  rw [evalPart_some]
  refine thn (h pins s σ H _ I hw) fun u s1 ⟨x, H1, I1, r1, q1⟩ => ?_
  obtain ⟨i, rfl, q⟩ := q1
  obtain ⟨t, rfl⟩ := r1
  exact ⟨some i, H1, I1, .int i t, q⟩

/-- what a slice of a value is, by values: the slice object stands at sl -/
def SlR (X : Cx) (r : V → Option Int → Option Int → Hp → VK → Prop) : Prop :=
  ∀ (pins : List (Addr × Obj)) (s : Shared) (σ : St) (H : Hp) (x : V) (v vl vu : Value) (lo hi : Option Int) (sl : Addr) (Q : VK), Inv X pins σ H s → RelV x v → s.heap.IsSliceOf sl vl vu .none → IsPart vl lo → IsPart vu hi → r x lo hi H Q →
    ∃ T id, typeLookup (.type T) "__getitem__" = pure (some (.builtin id)) ∧ s.TypeIs v T ∧ wpAny (model X.prog X.w) X.A (getItem v (.ref sl)) (EP X pins σ Q) X.xe s
theorem SlR.or {r r' : V → Option Int → Option Int → Hp → VK → Prop} (h : SlR X r) (h' : SlR X r') : SlR X (fun x lo hi H Q => r x lo hi H Q ∨ r' x lo hi H Q) := by
  intro pins s σ H x v vl vu lo hi sl Q I rx hs pl pu q
  rcases q with q | q
  · exact h pins s σ H x v vl vu lo hi sl Q I rx hs pl pu q
  · exact h' pins s σ H x v vl vu lo hi sl Q I rx hs pl pu q
def tSl (r : V → Option Int → Option Int → Hp → VK → Prop) (te : TE) (tl th : TO) : TE := fun σ H Q => te σ H fun x H1 => tl σ H1 fun l H2 => th σ H2 fun u H3 => r x l u H3 Q
/-- a[lo:hi], any a -/
theorem pe_slice {r : V → Option Int → Option Int → Hp → VK → Prop} (hr : SlR X r) (he : PE X e te) (hl : PO X lo tl) (hu : PO X hi th) : PE X (.Subscript e (.Slice lo hi none p2) pos) (tSl r te tl th) := by
  intro pins s σ H Q I h
  refine Subscript_ (thn (he pins s σ H _ I h) fun v s1 ⟨x, H1, I1, r1, q1⟩ => ?_)
  refine wpAny_Slice (thn (hl pins s1 σ H1 _ I1 q1) fun vl s2 ⟨l, H2, I2, pl, q2⟩ => thn (hu pins s2 σ H2 _ I2 q2) fun vu s3 ⟨u, H3, I3, pu, q3⟩ => ?_)
  rw [evalPart_none]
  refine wpAny_pure ?_
  have I4 : Inv X pins σ H3 { s3 with heap := s3.heap.push { cls := .type "slice", data := .fields #[vl, vu, .none] } } := I3.kept (t' := s3.toks) fun b ob q => Heap.get?_push_of_some _ q
  obtain ⟨T, id, hT, ht, hg⟩ := hr pins { s3 with heap := s3.heap.push { cls := .type "slice", data := .fields #[vl, vu, .none] } } σ H3 x v vl vu l u s3.heap.objs.size Q I4 r1 (Heap.IsSliceOf.new ..) pl pu q3
  show wpAny (model X.prog X.w) X.A (subscriptTail e (.Slice lo hi none p2) v (.ref s3.heap.objs.size)) (EP X pins σ Q) X.xe { s3 with heap := s3.heap.push { cls := .type "slice", data := .fields #[vl, vu, .none] } }
  exact tail_any (ops := [.ref s3.heap.objs.size, v]) ht hT hg (by with_unfolding_all rfl)

/-- the items of xs[lo:hi] -/
def cutV (xs : List V) (lo hi : Option Int) : List V := (xs.drop (HT.sIx xs.length 0 lo)).take (HT.sIx xs.length xs.length hi - HT.sIx xs.length 0 lo)
theorem cutV_length (xs : List V) (lo hi : Option Int) : (cutV xs lo hi).length ≤ xs.length := by
  unfold cutV
  rw [List.length_take, List.length_drop]
  omega
/-- t[lo:hi], not the whole of it (the whole would be t itself) -/
def rSlT (K : PySem.W.Frag) : V → Option Int → Option Int → Hp → VK → Prop := fun x lo hi H Q => ∃ a xs, x = .ref a ∧ SqT K H a xs ∧
  ¬ (HT.sIx xs.length 0 lo = 0 ∧ HT.sIx xs.length xs.length hi = xs.length) ∧ ∀ p, H p = none → Q (.ref p) (upd H p (.tup (cutV xs lo hi)))
theorem sl_tup : SlR X (rSlT X.K) := by
  intro pins s σ H x v vl vu lo hi sl Q I rx hs pl pu h
  obtain ⟨a, xs, rfl, hx, hw, q⟩ := h
  cases rx
  obtain ⟨its, r, ht, hz⟩ := I.tuple hx
  have hlen : its.toArray.size = xs.length := by rw [List.size_toArray]; exact r.length.symm
  refine ⟨"tuple", _, PyProof.Rows.slot_tuple_getitem.lookup, ht.typeIs, ?_⟩
  refine HT.getItem_tuple_cut ht hs pl pu (by rw [hlen]; exact hw) ?_ (by rw [hlen]; exact hz)
  rw [hlen]
  refine ⟨.ref s.heap.objs.size, _, I.laid (t' := s.toks) (o := .tup (cutV xs lo hi)) (fun b ob q => Heap.get?_push_of_some _ q) (Nat.le_refl _) ?_, rfl, q _ (I.hok.fresh (Nat.le_refl _))⟩
  exact ⟨Nat.le_trans (cutV_length xs lo hi) hz, _, (r.drop (HT.sIx xs.length 0 lo)).take (HT.sIx xs.length xs.length hi - HT.sIx xs.length 0 lo), IsTup.new _ _⟩

/-! ### t < u, t + u -/
/-- t + u, t not empty: u empty gives t itself -/
def rCatT (K : PySem.W.Frag) : R2 := fun x y H Q => ∃ a b xs ys, x = .ref a ∧ y = .ref b ∧ SqT K H a xs ∧ SqT K H b ys ∧ xs ≠ [] ∧ xs.length + ys.length ≤ sizeLine ∧
  (ys = [] → Q (.ref a) H) ∧ (ys ≠ [] → ∀ p, H p = none → Q (.ref p) (upd H p (.tup (xs ++ ys))))
theorem Vals.nil_iff {xs : List V} {us : List Value} (r : Vals xs us) : us = [] ↔ xs = [] := by
  cases r with
  | nil => simp
  | cons _ _ => simp
theorem op_catT : OpR X (binaryOp .Add) (rCatT X.K) := by
  intro pins s σ H x y v u Q I rx ry h
  obtain ⟨a, b, xs, ys, rfl, rfl, ha, hb, hx, hz, q1, q2⟩ := h
  cases rx
  cases ry
  obtain ⟨its, r1, p1, _⟩ := I.tuple ha
  obtain ⟨its2, r2, p2, _⟩ := I.tuple hb
  refine HT.cat_tup p1 p2 (fun z => hx (r1.nil_iff.mp z)) (fun z => ⟨.ref a, H, I, rfl, q1 (r2.nil_iff.mp z)⟩) (fun z => ?_) (by rw [← r1.length, ← r2.length]; exact hz)
  refine ⟨.ref s.heap.objs.size, _, I.laid (t' := s.toks) (o := .tup (xs ++ ys)) (fun b ob q => Heap.get?_push_of_some _ q) (Nat.le_refl _) ?_, rfl, q2 (fun w => z (r2.nil_iff.mpr w)) _ (I.hok.fresh (Nat.le_refl _))⟩
  exact ⟨by rw [List.length_append]; exact hz, _, r1.append r2, IsTup.new _ _⟩
end
end L2

namespace L2
open PySem PySem.Spec PyProof.Rows

/-! ### places -/
/-- the place that an index of any sign means -/
def ixN (n : Nat) (i : Int) : Option Nat := if 0 ≤ i then (if i < n then some i.toNat else none) else if -(n : Int) ≤ i then some (i + n).toNat else none
def atI {α : Type} (xs : List α) (i : Int) : Option α := (ixN xs.length i).bind fun j => xs[j]?
theorem ixN_seq {n : Nat} {i : Int} {j : Nat} (h : ixN n i = some j) : seqIndex? i n = some j ∧ j < n ∧ -(n : Int) ≤ i ∧ i < n := by
  unfold ixN at h
  by_cases h0 : 0 ≤ i
  · rw [if_pos h0] at h
    by_cases h1 : i < n
    · rw [if_pos h1] at h
      have e : i.toNat = j := Option.some.inj h
      exact ⟨by rw [seqIndex_of h0 h1, e], by omega, by omega, h1⟩
    · rw [if_neg h1] at h; cases h
  · rw [if_neg h0] at h
    by_cases h1 : -(n : Int) ≤ i
    · rw [if_pos h1] at h
      have e : (i + n).toNat = j := Option.some.inj h
      exact ⟨by rw [seqIndex_neg (by omega) h1, e], by omega, h1, by omega⟩
    · rw [if_neg h1] at h; cases h
theorem atI_get {α : Type} {xs : List α} {i : Int} {v : α} (h : atI xs i = some v) : ∃ j, seqIndex? i xs.length = some j ∧ xs[j]? = some v ∧ j < xs.length ∧ -(xs.length : Int) ≤ i ∧ i < xs.length := by
  unfold atI at h
  cases e : ixN xs.length i with
  | none => rw [e] at h; cases h
  | some j =>
    rw [e] at h
    obtain ⟨h1, h2, h3, h4⟩ := ixN_seq e
    exact ⟨j, h1, h, h2, h3, h4⟩
theorem atI_nat {α : Type} {xs : List α} {j : Nat} {v : α} (h : xs[j]? = some v) : atI xs (j : Int) = some v := by
  have hj : j < xs.length := (List.getElem?_eq_some_iff.mp h).1
  have e : ixN xs.length (j : Int) = some j := by
    unfold ixN
    rw [if_pos (by omega), if_pos (by omega)]; simp
  unfold atI; rw [e]; exact h
theorem atI_last {α : Type} (xs : List α) (v : α) : atI (xs ++ [v]) (-1) = some v := by
  have hl : (xs ++ [v]).length = xs.length + 1 := by simp
  have e : ixN (xs ++ [v]).length (-1) = some xs.length := by
    unfold ixN
    rw [hl, if_neg (by decide), if_pos (by omega)]
    congr 1
    omega
  unfold atI
  rw [e]
  show (xs ++ [v])[xs.length]? = some v
  simp

/-! ### what may be subscripted -/
/-- what stands as an index of a plain subscript -/
def PlainIx (b : Expr) : Prop := ∀ o i, subscripted b false o i = operate [o, i] (getItem o i)
/-- a subscript by values -/
def IxR (X : Cx) (r : R2) : Prop :=
  ∀ (value slice : Expr) (pins : List (Addr × Obj)) (s : Shared) (σ : St) (H : Hp) (x y : V) (v u : Value) (Q : VK), Inv X pins σ H s → RelV x v → RelV y u → r x y H Q →
    subscripted slice false v u = operate [v, u] (getItem v u) → wpAny (model X.prog X.w) X.A (subscriptTail value slice v u) (EP X pins σ Q) X.xe s
/-- a call of a builtin's method by values: the receiver, the arguments -/
def MtR (X : Cx) (id : String) (r : V → List V → Hp → VK → Prop) : Prop :=
  ∀ (pins : List (Addr × Obj)) (s : Shared) (σ : St) (H : Hp) (x : V) (xs : List V) (v : Value) (us : List Value) (Q : VK), Inv X pins σ H s → RelV x v → Vals xs us → r x xs H Q →
    wpAny (model X.prog X.w) X.A (call (.builtin id) (v :: us)) (EP X pins σ Q) X.xe s
section
variable {X : Cx} {a b : Expr} {ta tb : TE} {pos : Pos}
theorem IxR.or {r r' : R2} (h : IxR X r) (h' : IxR X r') : IxR X (fun x y H Q => r x y H Q ∨ r' x y H Q) := by
  intro value slice pins s σ H x y v u Q I rx ry q hs
  rcases q with q | q
  · exact h value slice pins s σ H x y v u Q I rx ry q hs
  · exact h' value slice pins s σ H x y v u Q I rx ry q hs
theorem MtR.or {id : String} {r r' : V → List V → Hp → VK → Prop} (h : MtR X id r) (h' : MtR X id r') : MtR X id (fun x xs H Q => r x xs H Q ∨ r' x xs H Q) := by
  intro pins s σ H x xs v us Q I rx rs q
  rcases q with q | q
  · exact h pins s σ H x xs v us Q I rx rs q
  · exact h' pins s σ H x xs v us Q I rx rs q
/-- a[b] -/
theorem pe_ix {r : R2} (hr : IxR X r) (ha : PE X a ta) (hb : PE X b tb) (hs : PlainIx b) : PE X (.Subscript a b pos) (tOp r ta tb) := by
  intro pins s σ H Q I h
  exact Subscript_ (binT ha hb I h fun v u s2 x y H2 I2 rx ry q => hr a b pins s2 σ H2 x y v u Q I2 rx ry q (hs _ _))

def rIxL (K : PySem.W.Frag) : R2 := fun x y H Q => ∃ p xs i v, x = .ref p ∧ y = .int i ∧ SqL K H p xs ∧ atI xs i = some v ∧ Q v H
def rIxT (K : PySem.W.Frag) : R2 := fun x y H Q => ∃ p xs i v, x = .ref p ∧ y = .int i ∧ SqT K H p xs ∧ atI xs i = some v ∧ Q v H
theorem ix_list : IxR X (rIxL X.K) := by
  intro value slice pins s σ H x y v u Q I rx ry h hs
  obtain ⟨p, xs, i, z, rfl, rfl, hq, he, q⟩ := h
  cases rx
  obtain ⟨t, rfl⟩ := ry
  obtain ⟨its, r, pl, hz⟩ := I.list hq
  obtain ⟨j, h1, h2, h3, h4, h5⟩ := atI_get he
  obtain ⟨w, ew, rw'⟩ := r.get h2
  have hl := r.length
  have hn := line63
  have fin : EP X pins σ Q w s := ⟨z, H, I, rw', q⟩
  by_cases h0 : 0 ≤ i
  · have hj : i.toNat = j := by
      rw [seqIndex_of h0 h5] at h1
      exact Option.some.inj h1
    exact item_listR pl.isList h0 (by omega) (by rw [hj]; simpa using ew) fin hs
  · have hj : (i + (its.toArray.size : Int)).toNat = j := by
      rw [seqIndex_neg (by omega) h4] at h1
      rw [List.size_toArray, ← hl]
      exact Option.some.inj h1
    exact subscriptTail_builtinR (x := w) pl.isList.typeIs slot_list_getitem.lookup
      (wpAny_getItem_list_neg (Q := fun r s' => r = w ∧ EP X pins σ Q r s') pl.isList (by omega) (by rw [List.size_toArray] <;> omega) (by omega) (by rw [hj]; simpa using ew) ⟨rfl, fin⟩) hs
theorem ix_tup : IxR X (rIxT X.K) := by
  intro value slice pins s σ H x y v u Q I rx ry h hs
  obtain ⟨p, xs, i, z, rfl, rfl, hq, he, q⟩ := h
  cases rx
  obtain ⟨t, rfl⟩ := ry
  obtain ⟨its, r, pl, hz⟩ := I.tuple hq
  obtain ⟨j, h1, h2, h3, h4, h5⟩ := atI_get he
  obtain ⟨w, ew, rw'⟩ := r.get h2
  have hl := r.length
  have hn := line63
  have fin : EP X pins σ Q w s := ⟨z, H, I, rw', q⟩
  exact subscriptTail_builtinR (x := w) pl.typeIs slot_tuple_getitem.lookup
    (getItem_tuple (j := j) (Q := fun r s' => r = w ∧ EP X pins σ Q r s') pl (by omega) (by omega) (by rw [List.size_toArray, ← hl]; exact h1) (by simpa using ew) ⟨rfl, fin⟩) hs
/-! ### xs[i] = v, any sign -/
/-- the list's object behind a store -/
theorem mapSeq_set (its : List Value) (n j : Nat) (u : Value) : Obj.mapSeq (·.setIfInBounds j u) { cls := .type "list", data := .seq its.toArray n } = { cls := .type "list", data := .seq (its.set j u).toArray n } := by
  simp [Obj.mapSeq]
theorem Inv.lst {pins : List (Addr × Obj)} {σ : St} {H : Hp} {s : Shared} {p : Addr} {xs : List V} (I : Inv X pins σ H s) (h : H p = some (.lst xs)) :
    ∃ (its : List Value) (n : Nat), Vals xs its ∧ s.heap.get? p = some { cls := .type "list", data := .seq its.toArray n } ∧ xs.length ≤ sizeLine := by
  obtain ⟨z, its, n, r, e⟩ := I.hok p _ h
  exact ⟨its, n, r, e, z⟩
/-- the list at p is written by an update of its object -/
theorem Inv.lstUpd {pins : List (Addr × Obj)} {σ : St} {H : Hp} {s : Shared} {p : Addr} {xs ys : List V} {its its' : List Value} {n n' : Nat} {f : Obj → Obj} (I : Inv X pins σ H s) (h : H p = some (.lst xs))
    (ho : s.heap.get? p = some { cls := .type "list", data := .seq its.toArray n }) (hf : f { cls := .type "list", data := .seq its.toArray n } = { cls := .type "list", data := .seq its'.toArray n' }) (r : Vals ys its') (hz : ys.length ≤ sizeLine) (t : Nat) :
    Inv X pins σ (upd H p (.lst ys)) { s with heap := s.heap.update p f, toks := t } := by
  have e : (s.heap.update p f).get? p = some { cls := .type "list", data := .seq its'.toArray n' } := by
    rw [Heap.get?_update_self f ho (by rw [hf] <;> rfl), hf]
  refine I.write (x := p) (e := p) (by rw [h]; trivial) (.inl rfl) (fun b u hb q => (Heap.get?_update_other _ _ (Ne.symm hb)).trans q) ⟨_, e⟩ ?_
  exact ⟨hz, its', n', r, e⟩
def rSetL : V → V → V → Hp → (Hp → Prop) → Prop := fun o i v H Q => ∃ p xs k j, o = .ref p ∧ i = .int k ∧ H p = some (.lst xs) ∧ ixN xs.length k = some j ∧ Q (upd H p (.lst (xs.set j v)))
theorem set_list : PSet X rSetL := by
  intro pins s σ H o i v ov iv u Q I ro ri rv h
  obtain ⟨p, xs, k, j, rfl, rfl, hp, hj, q⟩ := h
  cases ro
  obtain ⟨t, rfl⟩ := ri
  obtain ⟨its, n, r, ho, hz⟩ := I.lst hp
  obtain ⟨h1, h2, h3, h4⟩ := ixN_seq hj
  have hl := r.length
  have hn := line63
  have I' : Inv X pins σ (upd H p (.lst (xs.set j v))) { s with heap := s.heap.update p (Obj.mapSeq (·.setIfInBounds j u)) } :=
    I.lstUpd hp ho (mapSeq_set its n j u) (r.set rv j) (by rw [List.length_set]; exact hz) s.toks
  by_cases h0 : 0 ≤ k
  · have hk : k.toNat = j := by
      rw [seqIndex_of h0 h4] at h1
      exact Option.some.inj h1
    exact PySem.W.ki_setAt ho h0 (by omega) (by rw [List.size_toArray, ← hl]; exact h4) (by rw [hk]; exact ⟨_, I', q⟩)
  · have hk : (k + (its.toArray.size : Int)).toNat = j := by
      rw [seqIndex_neg (by omega) h3] at h1
      rw [List.size_toArray, ← hl]
      exact Option.some.inj h1
    exact PySem.W.ki_setBack ho (by omega) (by rw [List.size_toArray, ← hl]; exact h3) (by omega) (by rw [hk]; exact ⟨_, I', q⟩)

/-! ### slices -/
theorem slice_bounds (lo hi : Option Int) (n : Nat) : (sliceBounds lo hi none n).1 = ((HT.sIx n 0 lo : Nat) : Int) ∧ (sliceBounds lo hi none n).2.1 = ((HT.sIx n n hi : Nat) : Int) ∧ (sliceBounds lo hi none n).2.2 = 1 := by
  refine ⟨?_, ?_, rfl⟩
  · cases lo with
    | none => simp [sliceBounds, HT.sIx]
    | some i =>
      simp only [sliceBounds, HT.sIx, Option.getD_none, show (1 : Int) > 0 by decide, if_true]
      by_cases h : i < 0
      · simp only [h, if_true] <;> omega
      · simp only [h, if_false] <;> omega
  · cases hi with
    | none => simp [sliceBounds, HT.sIx]
    | some i =>
      simp only [sliceBounds, HT.sIx, Option.getD_none, show (1 : Int) > 0 by decide, if_true]
      by_cases h : i < 0
      · simp only [h, if_true] <;> omega
      · simp only [h, if_false] <;> omega
theorem slicePick_cut (its : List Value) (lo hi : Option Int) : slicePick its.toArray lo hi none = ((its.drop (HT.sIx its.length 0 lo)).take (HT.sIx its.length its.length hi - HT.sIx its.length 0 lo)).toArray := by
  obtain ⟨h1, h2, h3⟩ := slice_bounds lo hi its.toArray.size
  unfold slicePick
  rw [h1, h2, h3]
  simp only [sliceRange_one, pick_run, List.size_toArray] <;> rfl
/-- xs[lo:hi] of a list: a new list -/
def rSlL (K : PySem.W.Frag) : V → Option Int → Option Int → Hp → VK → Prop := fun x lo hi H Q => ∃ a xs, x = .ref a ∧ SqL K H a xs ∧ ∀ p, H p = none → Q (.ref p) (upd H p (.lst (cutV xs lo hi)))
theorem sl_list : SlR X (rSlL X.K) := by
  intro pins s σ H x v vl vu lo hi sl Q I rx hs pl pu h
  obtain ⟨a, xs, rfl, hx, q⟩ := h
  cases rx
  obtain ⟨its, r, ht, hz⟩ := I.list hx
  have hlen := r.length
  refine ⟨"list", _, slot_list_getitem.lookup, ht.isList.typeIs, ?_⟩
  refine wpAny_getItem_list_slice ht.isList hs pl pu .none (by simp) ?_ (by rw [List.size_toArray] <;> omega)
  rw [slicePick_cut, ← hlen]
  refine ⟨.ref s.heap.objs.size, _, I.laid (t' := s.toks) (o := .lst (cutV xs lo hi)) (fun b ob q => Heap.get?_push_of_some _ q) (Nat.le_refl _) ?_, rfl, q _ (I.hok.fresh (Nat.le_refl _))⟩
  exact ⟨Nat.le_trans (cutV_length xs lo hi) hz, _, 0, (r.drop (HT.sIx xs.length 0 lo)).take (HT.sIx xs.length xs.length hi - HT.sIx xs.length 0 lo), Heap.get?_push_size _ rfl⟩

/-! ### in, not in: flat items -/
/-! ### len, list(x), tuple(x) of any list or tuple that is read -/
theorem call_len_seq : CallR X (.builtin "len") (fun xs H Q => ∃ p ys, xs = [.ref p] ∧ (SqL X.K H p ys ∨ SqT X.K H p ys) ∧ Q (.int ys.length) H) := by
  intro pins s σ H xs us Q I r h
  obtain ⟨p, ys, rfl, hq, q⟩ := h
  obtain ⟨u, rfl, rx⟩ := vals1 r
  cases rx
  have hn := line63
  rcases hq with hq | hq
  · obtain ⟨its, r', pl, hz⟩ := I.list hq
    have hlen := r'.length
    exact Calls.call_len_list pl.isList (by simp only [List.size_toArray] <;> omega) ⟨.int ys.length, H, I.tok _, ⟨s.toks + 1, by rw [List.size_toArray, hlen]⟩, q⟩
  · obtain ⟨its, r', pl, hz⟩ := I.tuple hq
    have hlen := r'.length
    exact len_tuple pl (by simp only [List.size_toArray] <;> omega) ⟨.int ys.length, H, I.tok _, ⟨s.toks + 1, by rw [List.size_toArray, hlen]⟩, q⟩
theorem CallR.or {f : Value} {r r' : List V → Hp → VK → Prop} (h : CallR X f r) (h' : CallR X f r') : CallR X f (fun xs H Q => r xs H Q ∨ r' xs H Q) := by
  intro pins s σ H xs us Q I rs q
  rcases q with q | q
  · exact h pins s σ H xs us Q I rs q
  · exact h' pins s σ H xs us Q I rs q
theorem call_tuple_of : CallR X (.type "tuple") (fun xs H Q => ∃ p ys, xs = [.ref p] ∧ ((SqL X.K H p ys ∧ ∀ l, H l = none → Q (.ref l) (upd H l (.tup ys))) ∨ (SqT X.K H p ys ∧ Q (.ref p) H))) := by
  intro pins s σ H xs us Q I r h
  obtain ⟨p, ys, rfl, h⟩ := h
  obtain ⟨u, rfl, rx⟩ := vals1 r
  cases rx
  rcases h with ⟨hq, q⟩ | ⟨hq, q⟩
  · obtain ⟨its, r', pl, hz⟩ := I.list hq
    have hlen := r'.length
    refine call_tuple_list pl.isList (fun h' kp => ?_) (by simp only [List.size_toArray] <;> omega)
    have I1 : Inv X pins σ H { s with heap := h' } := I.kept (t' := s.toks) kp
    have I2 : Inv X pins σ (upd H h'.objs.size (.tup ys)) { s with heap := h'.push { cls := .type "tuple", data := .seq its.toArray } } :=
      I1.laid (t' := s.toks) (fun b o e => Heap.get?_push_of_some _ e) (Nat.le_refl _) (show ObjOk X.prog X.w _ _ _ (.tup ys) from ⟨hz, its, r', IsTup.new _ _⟩)
    exact ⟨.ref h'.objs.size, _, I2, rfl, q _ (I1.hok.fresh (Nat.le_refl _))⟩
  · obtain ⟨its, r', pl, hz⟩ := I.tuple hq
    exact call_tuple_same pl ⟨.ref p, H, I, rfl, q⟩

/-! ### the call of a builtin's method: o.m(..) -/
/-- the value is of that builtin type -/
def tyV (K : PySem.W.Frag) (T : String) (x : V) (H : Hp) : Prop := match x with
  | .str _ => T = "str"
  | .int _ => T = "int"
  | .ref p => (T = "list" ∧ ∃ xs, SqL K H p xs) ∨ (T = "tuple" ∧ ∃ o, K.lookup p = some o ∧ o.cls = .type "tuple" ∧ o.dict = none) ∨
      (T = "dict" ∧ ((∃ kvs, H p = some (.dK kvs)) ∨ ∃ kvs, H p = some (.dT kvs))) ∨ (T = "set" ∧ ∃ S n, H p = some (.set S n))
  | _ => False
theorem tyV_is {pins : List (Addr × Obj)} {σ : St} {H : Hp} {s : Shared} {T : String} {x : V} {v : Value} (I : Inv X pins σ H s) (r : RelV x v) (ty : tyV X.K T x H) :
    s.TypeIs v T ∧ ∀ a, v = .ref a → ∃ ob, s.heap.get? a = some ob ∧ ob.dict = none := by
  cases x with
  | str z =>
    obtain ⟨t, rfl⟩ := r
    cases (show T = "str" from ty)
    exact ⟨typeIs_str s z t, fun _ e => nomatch e⟩
  | int i =>
    obtain ⟨t, rfl⟩ := r
    cases (show T = "int" from ty)
    exact ⟨typeIs_int s i t, fun _ e => nomatch e⟩
  | ref p =>
    cases r
    rcases ty with ⟨rfl, xs, hq⟩ | ⟨rfl, o, hk, hc, hd⟩ | ⟨rfl, hk⟩ | ⟨rfl, S, n, hk⟩
    · obtain ⟨its, _, pl, _⟩ := I.list hq
      refine ⟨pl.isList.typeIs, fun a e => ?_⟩
      cases e
      obtain ⟨o, n, e, c, hd, _⟩ := pl
      exact ⟨o, e, hd⟩
    · refine ⟨⟨o, I.kIn p o hk, hc⟩, fun a e => ?_⟩
      cases e
      exact ⟨o, I.kIn _ o hk, hd⟩
    · have z : ∃ o, s.heap.get? p = some o ∧ o.ExactDict := by
        rcases hk with ⟨kvs, hk⟩ | ⟨kvs, hk⟩
        · obtain ⟨_, _, _, _, o, _, _, e, ex, _⟩ := I.hok p _ hk
          exact ⟨o, e, ex⟩
        · obtain ⟨_, _, _, _, o, _, _, e, ex, _⟩ := I.hok p _ hk
          exact ⟨o, e, ex⟩
      obtain ⟨o, e, ex⟩ := z
      refine ⟨⟨o, e, ex.1⟩, fun a e2 => ?_⟩
      cases e2
      exact ⟨o, e, ex.2.1⟩
    · obtain ⟨o, _, _, _, e, ex, _⟩ := I.hok p _ hk
      refine ⟨⟨o, e, ex.1⟩, fun a e2 => ?_⟩
      cases e2
      exact ⟨o, e, ex.2.1⟩
  | _ => exact False.elim ty
def tBM0 (K : PySem.W.Frag) (T : String) (r : V → List V → Hp → VK → Prop) (to : TE) : TE := fun σ H Q => to σ H fun x H1 => tyV K T x H1 ∧ r x [] H1 Q
def tBM (K : PySem.W.Frag) (T : String) (r : V → List V → Hp → VK → Prop) (to : TE) (t : TA) : TE := fun σ H Q => to σ H fun x H1 => tyV K T x H1 ∧ t σ H1 fun xs H2 => r x xs H2 Q
variable {o e : Expr} {es : List Expr} {to : TE} {t : TA} {name : Str} {apos cpos : Pos} {T id : String} {r : V → List V → Hp → VK → Prop}
theorem pe_bm0 (pa : PlainAttrs T) (slot : Slot T name id) (hty : typeOf (.builtin id) = pure (.type "method_descriptor")) (hm : MtR X id r) (ho : PE X o to)
    (hbase : attributeBase o name X.env (eval o X.env) = eval o X.env := by rfl) (hline : (apos.endLine == cpos.line) = true := by rfl) : PE X (.Call (.Attribute o name apos) [] [] cpos) (tBM0 X.K T r to) := by
  intro pins s σ H Q I h
  refine wpAny_Call_method0_late hbase hline (thn (ho pins s σ H _ I h) fun v s1 ⟨x, H1, I1, r1, ty, q1⟩ => ?_)
  obtain ⟨h1, h2⟩ := tyV_is I1 r1 ty
  exact ⟨T, id, pa, slot, hty, h1, h2, Calls.callWith_builtin rfl (PySem.evalArgs_none (hm pins s1 σ H1 x [] v [] Q I1 r1 .nil q1))⟩
theorem pe_bm (pa : PlainAttrs T) (slot : Slot T name id) (hty : typeOf (.builtin id) = pure (.type "method_descriptor")) (hm : MtR X id r) (ho : PE X o to) (ha : PA X (e :: es) t)
    (hbase : attributeBase o name X.env (eval o X.env) = eval o X.env := by rfl)
    (hfew : ((backTo cpos (starEach (e :: es) X.env)).all (fun x => !x.1) && (backToKw cpos (keywordEach [] X.env)).all (fun x => x.1.isSome)
      && decide ((e :: es).length + ([] : List Keyword).length + (if ([] : List Keyword).isEmpty then 0 else 1) < 30)) = true := by rfl)
    (hline : (apos.endLine == cpos.line) = true := by rfl) (hs : starEach (e :: es) X.env = (false, eval e X.env) :: starEach es X.env := by rfl) (hplain : (backTo cpos (starEach es X.env)).any (·.1) = false := by rfl) :
    PE X (.Call (.Attribute o name apos) (e :: es) [] cpos) (tBM X.K T r to t) := by
  intro pins s σ H Q I h
  refine wpAny_Call_method_late hbase hfew hline rfl (thn (ho pins s σ H _ I h) fun v s1 ⟨x, H1, I1, r1, ty, q1⟩ => ?_)
  obtain ⟨h1, h2⟩ := tyV_is I1 r1 ty
  refine ⟨T, id, pa, slot, hty, h1, h2, ?_⟩
  have hA := ha cpos pins s1 σ H1 _ I1 q1
  rw [hs] at hA ⊢
  refine Calls.callWith_builtin (by show (false || (backTo cpos (starEach es X.env)).any (·.1)) = false; rw [hplain] <;> rfl) (Calls.evalArgs_plain ?_)
  exact thn hA fun us s2 ⟨vs, H2, I2, r2, q2⟩ => hm pins s2 σ H2 x vs v us Q I2 r1 r2 q2
/- xs.append(e), list.index on a module's tuple .. are MtR facts of 06m -/
end
end L2

namespace L2
open PySem PySem.Spec PyProof.Rows

def MtM (X : Cx) (id : String) (r : V → List V → Hp → VK → Prop) : Prop :=
  ∀ (pins : List (Addr × Obj)) (s : Shared) (σ : St) (H : Hp) (x : V) (xs : List V) (v : Value) (us : List Value) (Q : VK), Inv X pins σ H s → RelV x v → Vals xs us → r x xs H Q →
    wpAny (model X.prog X.w) X.A (call (.builtin id) (v :: us)) (EP X pins σ Q) X.xe s

/-! ### lists of values -/
theorem Vals.one : ∀ {x : V} {us : List Value}, Vals [x] us → ∃ u, us = [u] ∧ RelV x u
  | _, _, .cons r .nil => ⟨_, rfl, r⟩
theorem Vals.two : ∀ {x y : V} {us : List Value}, Vals [x, y] us → ∃ u v, us = [u, v] ∧ RelV x u ∧ RelV y v
  | _, _, _, .cons r (.cons q .nil) => ⟨_, _, rfl, r, q⟩
theorem Vals.zero : ∀ {us : List Value}, Vals [] us → us = []
  | _, .nil => rfl
theorem Vals.dropLast {xs : List V} {us : List Value} (h : Vals xs us) : Vals xs.dropLast us.dropLast := by
  induction h with
  | nil => exact .nil
  | cons r t ih =>
    cases t with
    | nil => exact .nil
    | cons q t' => exact .cons r ih
theorem Vals.eraseIdx : ∀ {xs : List V} {us : List Value} (i : Nat), Vals xs us → Vals (xs.eraseIdx i) (us.eraseIdx i)
  | _, _, _, .nil => .nil
  | _, _, 0, .cons _ t => t
  | _, _, i + 1, .cons r t => .cons r (Vals.eraseIdx i t)
theorem Vals.reverse {xs : List V} {us : List Value} (h : Vals xs us) : Vals xs.reverse us.reverse := by
  induction h with
  | nil => exact .nil
  | cons r t ih => rw [List.reverse_cons, List.reverse_cons]; exact Vals.append ih (.cons r .nil)
theorem Vals.rep {xs : List V} {us : List Value} (h : Vals xs us) : ∀ k : Nat, Vals (List.replicate k xs).flatten (List.replicate k us).flatten
  | 0 => .nil
  | k + 1 => by
    rw [List.replicate_succ, List.replicate_succ, List.flatten_cons, List.flatten_cons]
    exact Vals.append h (Vals.rep h k)
theorem erase_last {α : Type} (l : List α) : l.eraseIdx (l.length - 1) = l.dropLast := by
  induction l with
  | nil => rfl
  | cons a r ih =>
    cases r with
    | nil => rfl
    | cons b r =>
      have e : (a :: b :: r).length - 1 = ((b :: r).length - 1) + 1 := by
        have h1 : (a :: b :: r).length = r.length + 2 := rfl
        have h2 : (b :: r).length = r.length + 1 := rfl
        omega
      rw [e, List.eraseIdx_cons_succ, ih]
      all_goals rfl
section
variable {X : Cx} {pins : List (Addr × Obj)} {σ : St} {H : Hp} {s : Shared} {l b : Addr} {xs ys zs : List V}

/-! ### the two steps: a tracked list is rewritten, a new list is laid -/
theorem Inv.lset {its its' : List Value} {n : Nat} {f : Array Value → Array Value} {t' : Nat} (I : Inv X pins σ H s) (hH : H l = some (.lst xs))
    (e : s.heap.get? l = some { cls := .type "list", data := .seq its.toArray n }) (hf : f its.toArray = its'.toArray) (hv : Vals ys its') (hz : ys.length ≤ sizeLine) :
    Inv X pins σ (upd H l (.lst ys)) { s with heap := s.heap.update l (Obj.mapSeq f), toks := t' } := by
  have q := PySem.IsL.update e f
  rw [hf] at q
  refine I.write (x := l) (e := l) (by rw [hH]; exact trivial) (.inl rfl) (fun b' u hb hu => (Heap.get?_update_other s.heap (Obj.mapSeq f) (Ne.symm hb)).trans hu) ⟨_, q⟩ ?_
  exact ⟨hz, its', _, hv, q⟩
theorem Inv.lnew {its : List Value} {t' : Nat} (I : Inv X pins σ H s) (hv : Vals ys its) (hz : ys.length ≤ sizeLine) :
    Inv X pins σ (upd H s.heap.objs.size (.lst ys)) { s with heap := s.heap.push { cls := .type "list", data := .seq its.toArray }, toks := t' } :=
  I.laid (fun _ _ q => Heap.get?_push_of_some _ q) (Nat.le_refl _) ⟨hz, its, 0, hv, Heap.get?_push_size _ rfl⟩
theorem Inv.fresh (I : Inv X pins σ H s) : H s.heap.objs.size = none := I.hok.fresh (Nat.le_refl _)
theorem Inv.lstM (I : Inv X pins σ H s) (hH : H l = some (.lst xs)) : xs.length ≤ sizeLine ∧ ∃ (its : List Value) (n : Nat), Vals xs its ∧ xs.length = its.length ∧ s.heap.get? l = some { cls := .type "list", data := .seq its.toArray n } := by
  obtain ⟨z, its, n, r, e⟩ := I.hok l _ hH
  exact ⟨z, its, n, r, r.length, e⟩

end

section
variable {X : Cx}

/-! ### methods -/
def rAppend : V → List V → Hp → VK → Prop := fun x vs H Q => ∃ l xs y, x = .ref l ∧ vs = [y] ∧ H l = some (.lst xs) ∧ xs.length < sizeLine ∧ Q .non (upd H l (.lst (xs ++ [y])))
theorem mt_append : MtM X "list.append" rAppend := by
  intro pins s σ H x vs v us Q I rx rv h
  obtain ⟨l, xs, y, rfl, rfl, hH, hz, q⟩ := h
  cases rx
  obtain ⟨u, rfl, ru⟩ := rv.one
  obtain ⟨z, its, n, r, hl, e⟩ := I.lstM hH
  refine call_meets F.slot_list_append ⟨_, e, rfl⟩ F.entry_list_append (F.args_list_append_2 _ _) (PySem.list_append l its.toArray n u (by rw [List.size_toArray]; omega)) ⟨e, ?_⟩
  refine ⟨.non, _, I.lset (its' := its ++ [u]) hH e (by simp) (r.append (.cons ru .nil)) ?_, rfl, q⟩
  rw [List.length_append, List.length_singleton]
  omega

def rPop : V → List V → Hp → VK → Prop := fun x vs H Q => ∃ l xs y, x = .ref l ∧ vs = [] ∧ H l = some (.lst xs) ∧ xs[xs.length - 1]? = some y ∧ Q y (upd H l (.lst xs.dropLast))
theorem mt_pop : MtM X "list.pop" rPop := by
  intro pins s σ H x vs v us Q I rx rv h
  obtain ⟨l, xs, y, rfl, rfl, hH, hy, q⟩ := h
  cases rx
  have hus := rv.zero
  subst hus
  obtain ⟨z, its, n, r, hl, e⟩ := I.lstM hH
  obtain ⟨u, hu, ru⟩ := r.get hy
  have hy' : its.toArray[its.toArray.size - 1]? = some u := by
    show its.toArray[its.length - 1]? = some u
    rw [← Array.getElem?_toList, ← hl]
    exact hu
  refine call_meets F.slot_list_pop ⟨_, e, rfl⟩ F.entry_list_pop (F.args_list_pop_1 _) (MeetsSeq.list_pop_last l its.toArray n u hy' (by rw [List.size_toArray]; omega)) ⟨e, ?_⟩
  refine ⟨y, _, I.lset (its' := its.dropLast) hH e ?_ r.dropLast ?_, ru, q⟩
  · show its.toArray.eraseIdxIfInBounds (its.toArray.size - 1) = its.dropLast.toArray
    rw [List.size_toArray, List.eraseIdxIfInBounds_toArray, erase_last]
  · rw [List.length_dropLast]
    omega

/-! ### list + list, list += list, list * int -/
/-! ### del xs[i] -/
end

/-! ### xs[a:b] = ys -/
section
variable {prog : Program} {w : World} {A : Around} {E : Value → Shared → Prop} {s : Shared}
end

section
variable {X : Cx}
end
end L2

namespace Att
open PySem PySem.W PySem.Calls PyProof.Rows

/-! ### the script -/
theorem ints_of_wellAll {P : Params} {h : Heap} : ∀ (ns : List Int) (vs : List Value), WellAll P h vs (ns.map WData.int) → IntsAre vs ns := by
  intro ns
  induction ns with
  | nil =>
    intro vs w
    rw [List.map_nil] at w
    cases w
    exact .nil
  | cons n ns ih =>
    intro vs w
    rw [List.map_cons] at w
    cases w with
    | cons a b =>
      cases a
      exact .cons _ _ (ih _ b)

theorem script_of {l : OpenLaw} {n : Nat} (hn : l.most = some n) {P : Params} {h : Heap} {args : List WData} {vals : List Value}
    (hpre : l.row.toRowW.claim.pre args = true) (hwl : WellAll P h vals args) :
    ∃ a vs ns, vals = [Value.ref a] ∧ args = [WData.list (ns.map WData.int)] ∧ h.get? a = some { cls := .type "list", data := .seq vs.toArray } ∧ IntsAre vs ns ∧ ns.length ≤ n := by
  have hsh : WShape.hasAll [] args [.list .int] = true := (pre_splitW hpre).1
  have hc : l.pre.holds [] { args := args } = true := (pre_splitW hpre).2
  obtain ⟨d, r, rfl, h1, h2⟩ := hasAllW_cons hsh
  obtain rfl := hasAllW_nil h2
  obtain ⟨xs, rfl, h3⟩ := hasW_list h1
  obtain ⟨ns, rfl⟩ := items_int h3
  have hlen : ns.length ≤ n := by
    unfold OpenLaw.pre at hc
    have h4 : (WTm.not (.lt (.lit (.int (n : Int))) (.len (.arg 0)))).holds [] { args := [.list (ns.map .int)] } = true := by
      have h4 := (holds_andW hc).1
      rw [hn] at h4
      exact h4
    have h5 := condW_of h4 (w_not (w_lt w_lit (w_len_list (w_arg rfl))))
    rw [List.length_map] at h5
    refine Nat.le_of_not_lt fun q => ?_
    have q' : (n : Int) < ((ns.length : Nat) : Int) := by omega
    first
      | (rw [decide_eq_true q'] at h5; exact absurd h5 (by decide))
      | (simp at h5; omega)
  cases hwl with
  | cons w1 w2 =>
    cases w2
    cases w1 with
    | list ho hall => exact ⟨_, _, ns, rfl, rfl, ho, ints_of_wellAll ns _ hall, hlen⟩

theorem post_true (l : OpenLaw) (args : List WData) : l.row.toRowW.claim.post args (.bool true) args = true :=
  postW_of (r := l.row.toRowW) (X := (true == true))
    (show WShape.has [] (.bool true) .bool = true by first | rfl | decide | simp [WShape.has, WShape.arms, WShape.armsAll])
    (show (WTm.eq .res (.lit (.bool true))).value [] { args := args, res := some (.bool true), after := args } = some (.bool (true == true)) from w_eq_bool (w_res rfl) w_lit) rfl

/-! ### the attachment: holds_open's last premise (the goal 'hc' behind k_head) from a wpAny of the law's body -/
/-- the same from a codeAny of the CALL (for a layer whose function contracts speak of calls) -/
theorem attach_call {l : OpenLaw} {n : Nat} {q : Program} {loose : List Str} {XP : (Str → Option Value) → Heap → Prop} {YP : World → Heap → Prop} {d : DefRec}
    (hn : l.most = some n) (hdf : d.params.defaults = [])
    (call : ∀ (w : World) (s₀ s₁ : Shared) (mg mb : Str → Option Value) (fa : Addr) (o : Obj) (pm cd doc : Value) (a : Addr) (vs : List Value) (ns : List Int),
      Ground q loose [] XP w s₀ mg mb s₁.heap → YP w s₁.heap →
      s₁.heap.get? fa = some o → o.data = .func (docDef d.name d.params d.body d.scope pm cd doc) → s₁.heap.CodeRec cd d.name → mg d.name = some (.ref fa) →
      s₁.heap.get? a = some { cls := .type "list", data := .seq vs.toArray } → IntsAre vs ns → ns.length ≤ n → s₁.gens = #[] →
      codeAny (model l.prog w) callerA (.call (.ref fa) ⟨[.ref a], []⟩) (fun r s' => r = .ok (.ret (.bool true)) ∧ OldK s₁.heap s'.heap ∧ s'.os = s₁.os ∧ AllBare s'.gens) s₁) :
    WalkO q loose XP YP l.row.toRowW d [] (fun f vs => PySem.call f vs) := by
  intro w s₀ s₁ mg mb G Y fa o pm cd doc dV kV ho hd hcd hD hmg hg args vals as hpre hlay hrd hwl hlo
  obtain rfl : dV = .none := Dflts.none hD hdf
  obtain rfl : kV = .none := Dflts.noKw hD
  obtain ⟨a, vs, ns, rfl, rfl, hobj, hints, hlen⟩ := script_of hn hpre hwl
  refine enter_call (codeAny_mono (call w s₀ s₁ mg mb fa o pm cd doc a vs ns G Y ho (fd_plain hd) hcd hmg hobj hints hlen hg) fun r s' hq => ?_)
  obtain ⟨rfl, h2, h3, h4⟩ := hq
  exact ⟨.inl ⟨.bool true, .bool true, [], rfl, fun _ => rfl, .bool true, post_true l _, fun _ => ⟨List.Pairwise.nil, fun _ hm => (nomatch hm)⟩⟩, h2, h3, h4⟩

/-! ### rules over ANY heap (no ledger) from facts about the written part K: the library's own take a ledger (News) for what they write -/
section
variable {prog : Program} {w : World} {A : Around} {E : Value → Shared → Prop} {s : Shared} {K : Frag}

/-! the whole heap as the ledger: makes every rule that writes through a ledger a rule over any heap -/
def ledger (h : Heap) (L d : Addr) : List (Addr × Obj) := (List.range h.objs.size).filterMap fun a => if a = L ∨ a = d then none else (h.get? a).map fun o => (a, o)
end
end Att

namespace L2
open PySem PySem.Spec PyProof.Rows

theorem vals_ints : ∀ {vs : List Value} {ns : List Int}, IntsAre vs ns → Vals (ns.map V.int) vs
  | _, _, .nil => .nil
  | _, _, .cons n t h => .cons ⟨t, rfl⟩ (vals_ints h)

/-- nothing is tracked but the script, known to the object (or it is an object of the module) -/
def Only (H : Hp) : Prop := ∀ b, H b = none ∨ ∃ o xs, H b = some (.frz o (.lst xs))

/-- THE HEAD: the law's promise, at the heap behind the top. F, the promise of the law's def, may use that base is part of the heap (so K.In base, base.Ns mainGlobals mg stand in Mod) -/
theorem law_call {P : Program} {w : World} {K : PySem.W.Frag} {mg mb : Str → Option Value} {CX : CXT} {k : Nat} {fa a : Addr} {fd : FuncData} {x : Str} {sp : Sp} {s₁ : Shared} {vs : List Value} {ns : List Int}
    (KX : K.In s₁.heap) (hns : s₁.heap.Ns mainGlobals mg) (hb : s₁.heap.Ns builtinsNs mb) (hbb : ∀ x : Str, x ≠ "__name__" → mb x = bootBuiltins x) (hlim : s₁.heap.NoLimit) (hg : s₁.gens = #[])
    (ha : s₁.heap.get? a = some { cls := .type "list", data := .seq vs.toArray }) (hi : IntsAre vs ns) (hl : ns.length ≤ sizeLine) (hr : Room k callerA)
    (F : ∀ base : Heap, K.In base → base.Ns mainGlobals mg → FnOk P w K mg base CX k fa fd [x] sp) (hbind : ∀ (s : Shared) (u : Value), BindsTo s fd ⟨[u], []⟩ [(x, u)])
    (hsp : ∀ H : Hp, Only H → SqL K H a (ns.map V.int) → sp [.ref a] H (fun v _ => v = .bl true) fun _ _ _ => False)
    (hCX : ∀ H e s', CX [] H s₁ (fun _ _ _ => False) e s' → False) :
    codeAny (model P w) callerA (.call (.ref fa) ⟨[.ref a], []⟩) (fun r s' => r = .ok (.ret (.bool true)) ∧ OldK s₁.heap s'.heap ∧ s'.os = s₁.os ∧ AllBare s'.gens) s₁ := by
  have rv := vals_ints hi
  have lenV := hi.length
  -- from an abstract heap in which nothing but the script may be tracked
  have core : ∀ H : Hp, Only H → SqL K H a (ns.map V.int) → HOk P w H s₁.heap → (∀ b, H b ≠ none → b = a) → (H a ≠ none → K.lookup a = none) →
      codeAny (model P w) callerA (.call (.ref fa) ⟨[.ref a], []⟩) (fun r s' => r = .ok (.ret (.bool true)) ∧ OldK s₁.heap s'.heap ∧ s'.os = s₁.os ∧ AllBare s'.gens) s₁ := by
    intro H hO hS hok hA hK
    have base_of : ∀ {b : Addr} {o : Obj}, s₁.heap.get? b = some o → H b = none → (hidT s₁.heap H).get? b = some o := fun e n => hidT_get e n
    have noA : ∀ {b : Addr} {o : Obj} {es : Array DictEntry} {ep : Nat}, s₁.heap.get? b = some o → o.data = .dict es ep → H b = none := fun {b o es ep} e d => by
      cases q : H b with
      | none => rfl
      | some u =>
        have e' : b = a := hA b (by rw [q]; simp)
        subst e'
        rw [ha] at e; cases e
        have d' : Data.seq vs.toArray _ = Data.dict es ep := d
        cases d'
    have nsK : ∀ {b : Addr} {m : Str → Option Value}, s₁.heap.Ns b m → (hidT s₁.heap H).Ns b m := fun {b m} ⟨o, es, ep, e, d, r⟩ => ⟨o, es, ep, base_of e (noA e d), d, r⟩
    have hKb : K.In (hidT s₁.heap H) := fun b o e => base_of (KX b o e) (by
      cases q : H b with
      | none => rfl
      | some u =>
        have e' : b = a := hA b (by rw [q]; simp)
        subst e'
        rw [hK (by rw [q]; simp)] at e; cases e)
    have hM : Mod K mg (hidT s₁.heap H) := ⟨hKb, nsK hns, ⟨mb, nsK hb, hbb⟩, let ⟨mc, h1, h2⟩ := hlim; ⟨mc, nsK h1, h2⟩⟩
    have e0 : Env0 P w K mg (hidT s₁.heap H) callerA [] s₁ H := ⟨rfl, hM, fun b o e => of_hidT e, Nat.le_of_eq (hidT_size _ _), trivial, fun b hb => absurd (show b ∈ ([] : List Addr) from hb) (by simp), hok, .of_eq hg⟩
    refine codeAny_mono ((F _ hKb (nsK hns)).run callerA [] s₁ H ⟨[.ref a], []⟩ [.ref a] [.ref a] _ _ hr e0 (hbind s₁ (.ref a)) (.cons rfl .nil) (hsp H hO hS)) fun r s' h => ?_
    cases r with
    | error e => exact (hCX H e s' h).elim
    | ok fl =>
      cases fl with
      | next => exact False.elim h
      | brk => exact False.elim h
      | cont => exact False.elim h
      | ret u =>
        obtain ⟨v, H', os, bare, un, hok', r', q⟩ := h
        have q' : v = .bl true := q
        subst q'
        obtain rfl : u = Value.bool true := r'
        refine ⟨rfl, OldK.of_keep fun b o e => ?_, os, bare⟩
        cases q : H b with
        | none => exact un.keep b o e q (by intro z; exact absurd (show b ∈ ([] : List Addr) from z) (by simp)) (by simp)
        | some u =>
          rcases hO b with z | ⟨ob, xs, z⟩
          · rw [q] at z; cases z
          · have z2 := un.frzs b ob _ z
            obtain ⟨e1, _⟩ := hok b _ z
            obtain ⟨e2, _⟩ := hok' b _ z2
            rw [e] at e1; cases e1
            exact e2
  cases hk : K.lookup a with
  | some o =>
    -- the script is one of the module's own objects
    have e := KX a o hk
    rw [ha] at e
    cases e
    refine core (fun _ => none) (fun _ => .inl rfl) (.inr ⟨_, vs.toArray, _, hk, rfl, rfl, rfl, by rw [List.size_toArray, lenV]; exact hl, by simpa using rv⟩) (fun b u z => by have z' : (none : Option HO) = some u := z; cases z') (fun b z => absurd rfl z) fun z => absurd rfl z
  | none =>
    refine core (fun b => if b = a then some (.frz { cls := .type "list", data := .seq vs.toArray } (.lst (ns.map V.int))) else none) (fun b => ?_) (.inl (.inr ⟨{ cls := .type "list", data := .seq vs.toArray }, if_pos rfl⟩)) (fun b u z => ?_) (fun b z => ?_) fun _ => hk
    · by_cases hb : b = a
      · exact .inr ⟨_, _, if_pos hb⟩
      · exact .inl (if_neg hb)
    · by_cases hb : b = a
      · have z' := (if_pos hb).symm.trans z
        cases z'
        subst hb
        exact ⟨ha, by rw [List.length_map]; exact hl, vs, _, rv, ha⟩
      · have z' := (if_neg hb).symm.trans z
        cases z'
    · by_cases hb : b = a
      · exact hb
      · exact absurd (if_neg hb) z
end L2

namespace L2
open PySem PySem.Spec PyProof.Rows

abbrev KOf {K : PySem.W.Frag} {h : Heap} (_ : K.In h) : PySem.W.Frag := K

/-- the goal that k_head leaves (case hc), from the law's promise. F gives the function object fd (K's own) once, then the promise over every base -/
theorem walk_of {l : PySem.W.OpenLaw} {n k : Nat} {q : Program} {loose : List Str} {XP : (Str → Option Value) → Heap → Prop} {YP : World → Heap → Prop} {d : DefRec} {K : Params → PySem.W.Frag} {CX : World → CXT} {sp : World → Sp} {x : Str}
    (hn : l.most = some n) (hn2 : n ≤ sizeLine) (hdf : d.params.defaults = []) (hr : Room k callerA)
    (hY : ∀ (w : World) (h : Heap), YP w h → (K w.params).In h)
    (F : ∀ (w : World) (mg : Str → Option Value) (fa : Addr) (h : Heap), (K w.params).In h → h.Ns mainGlobals mg → mg d.name = some (.ref fa) →
      ∃ fd : FuncData, (∀ (s : Shared) (u : Value), BindsTo s fd ⟨[u], []⟩ [(x, u)]) ∧
        ∀ base : Heap, (K w.params).In base → base.Ns mainGlobals mg → FnOk l.prog w (K w.params) mg base (CX w) k fa fd [x] (sp w))
    (hsp : ∀ (w : World) (H : Hp) (a : Addr) (ns : List Int), ns.length ≤ n → Only H → SqL (K w.params) H a (ns.map V.int) → sp w [.ref a] H (fun v _ => v = .bl true) fun _ _ _ => False)
    (hCX : ∀ (w : World) (H : Hp) (s : Shared) (e : Value) (s' : Shared), CX w [] H s (fun _ _ _ => False) e s' → False) :
    PySem.W.WalkO q loose XP YP l.row.toRowW d [] (fun f vs => PySem.call f vs) := by
  refine Att.attach_call hn hdf fun w s₀ s₁ mg mb fa o pm cd doc a vs ns G Y ho hd hcd hmg hobj hints hlen hg => ?_
  have KX := hY w _ Y
  obtain ⟨fd, hb, hF⟩ := F w mg fa _ KX G.T.g hmg
  exact law_call KX G.T.g G.T.b G.T.builtins G.T.nolimit hg hobj hints (Nat.le_trans hlen hn2) hr hF hb (fun H hO hS => hsp w H a ns hlen hO hS) fun H e s' => hCX w H s₁ e s'
end L2

/- THE LAST THEOREM (shape; LID, My.* are yours):
   My.Adr: a structure of the addresses that your layer names (classes, functions); My.Txt K t: a structure (Prop) of the equations over K;
   My.txt_mk : {K} {implicit addresses ..} (e1 : nsIn K mainGlobals "law" = some (some (.ref f))) (e2 : K.lookup f = some ⟨oc, od, .func (fnOf "law" "law" params body scope dV kV doc pm an cdv ct), sl⟩) (e3 : codeIn K cdv "law" = true) .. : ∃ t, My.Txt K t

set_option maxRecDepth 100000 in
set_option maxHeartbeats 0 in
theorem PySem.Challenge.cw_LID_holds : PySem.Challenge.rw_LID.Holds := by
  w_on; o_law; k_head; (case hw => w_witness2)
  k_fill
  refine L2.walk_of (l := PySem.Challenge.rw_LID) (n := 63) (k := 40) (x := "script") (CX := fun w => ..) (sp := fun _ => My.sp_law) rfl (by decide) rfl ⟨rfl, by decide, by decide⟩ (fun w h Y => PySem.W.kIn_of Y) ?F ?S ?C
  case F =>
    intro w mg fa h KX G hmg
    have T : ∃ t, My.Txt (L2.KOf KX) t := by
      dsimp only [L2.KOf]                          -- K must stand as «<heap const> w.params» for k_is
      refine' My.txt_mk ?e1 ?e2 ?e3 ..
      (case e1 => PySem.W.k_is)                    -- in the order: a name -> its address -> its object -> its parts
      (case e2 => PySem.W.k_is)
      ..
    obtain ⟨t, T⟩ := T
    have e0 := hmg.symm.trans (PySem.W.mg_of KX G T.law)
    cases e0                                       -- fa is the law's own address
    exact ⟨_, fun s u => .of_eq rfl, fun base kb nb => My.law_fn T kb nb⟩     -- if «.of_eq rfl» comes too early: refine' ⟨_, ?b, fun base kb nb => My.law_fn T kb nb⟩; exact fun s u => .of_eq rfl
  case S => exact fun w H a ns hl hO hS => ..
  case C => exact ..
(the tactic k_is has no namespace: write k_is) -/

/-! SHORT WORDS over the layer: a def of the text, its body, what a loop and a test want. -/
namespace L2
open PySem PySem.Spec PyProof.Rows

/-! ### the text by places -/
def defArgs (s : Stmt) : Arguments := match s with
  | .FunctionDef _ a _ _ _ _ _ _ _ _ => a
  | _ => { posonlyargs := [], args := [], vararg := none, kwonlyargs := [], kw_defaults := [], kwarg := none, defaults := [] }
def defBody (s : Stmt) : List Stmt := match s with
  | .FunctionDef _ _ b _ _ _ _ _ _ _ => b
  | _ => []
def defScope (s : Stmt) : Scope := match s with
  | .FunctionDef _ _ _ _ _ _ sc _ _ _ => sc
  | _ => { kind := .function, names := [], isGenerator := false, isCoroutine := false }

/-! ### no exception leaves a def -/
abbrev CX0 : CXT := fun _ _ _ _ _ _ => False
abbrev E0 : XK := fun _ _ _ => False
theorem pass0 {X : Cx} : Passes CX0 X E0 := fun _ _ _ _ _ _ _ h => h.elim

/-! ### a def (or method) of the text as it stands behind the top -/
structure Fun (K : PySem.W.Frag) (x qual : Str) (st : Stmt) (f : Addr) (fd : FuncData) : Prop where
  ex : ∃ (oc : Value) (od : Option Addr) (kV doc pm : Value) (an : Option Addr) (cdv ct : Value) (osl : Array (Option Value)),
    fd = PySem.W.fnOf x qual (defArgs st) (defBody st) (defScope st) .none kV doc pm an cdv ct ∧ K.lookup f = some ⟨oc, od, .func fd, osl⟩ ∧ PySem.W.codeIn K cdv qual = true
  kp : PySem.W.keepIn K (.ref f) = true
section
variable {P : Program} {w : World} {K : PySem.W.Frag} {mg : Str → Option Value} {base : Heap}
/-- THE RULE for a def: its body as a term of rules, and the reading of that term -/
theorem Fun.ok {x qual : Str} {st : Stmt} {f : Addr} {fd : FuncData} {N ps : List Str} {k : Nat} {sp : Sp} (F : Fun K x qual st f fd) (S : FnScope N ps (defScope st)) (len : ∀ vs H Q E, sp vs H Q E → vs.length = ps.length)
    (hbody : ∀ (cdv : Value) (A : Around) (outer : List Env) (s : Shared) (H : Hp) (vs : List V) (Q : VK) (E : XK), Room k (A.deeper (envOfC qual (defScope st) s.heap.objs.size f cdv)) → sp vs H Q E →
      ∃ t, PSs (cxOf CX0 P w K mg base N qual (defScope st) f cdv A outer s H E).nox (defBody st) t ∧ t { nx := fun _ H' => Q .non H', rt := Q } (start N vs) H) : FnOk P w K mg base CX0 (k + 1) f fd ps sp := by
  obtain ⟨oc, od, kV, doc, pm, an, cdv, ct, osl, rfl, lk, hcd⟩ := F.ex
  refine fn_of lk hcd S len fun A outer s H vs Q E hr hsp => ?_
  obtain ⟨t, h, q⟩ := hbody cdv A outer s H vs Q E hr hsp
  exact ⟨t, h.nox, q⟩
/-- how its arguments bind (no defaults): h is «fun _ _ _ _ _ _ us hl => match us, hl with | [_, _], _ => rfl», one _ a parameter -/
theorem Fun.binds {x qual : Str} {st : Stmt} {f : Addr} {fd : FuncData} {ps : List Str} (F : Fun K x qual st f fd)
    (h : ∀ (kV doc pm : Value) (an : Option Addr) (cdv ct : Value) (us : List Value), us.length = ps.length → bindArgs (PySem.W.fnOf x qual (defArgs st) (defBody st) (defScope st) .none kV doc pm an cdv ct) ⟨us, []⟩ = pure (ps.zip us)) : Binds K fd ps [] := by
  obtain ⟨oc, od, kV, doc, pm, an, cdv, ct, osl, rfl, lk, hcd⟩ := F.ex
  exact .all (h kV doc pm an cdv ct)
theorem fun_mk {x qual : Str} {st : Stmt} {f : Addr} {oc : Value} {od an : Option Addr} {osl : Array (Option Value)} {kV doc pm cdv ct : Value} (l : K.lookup f = some ⟨oc, od, .func (PySem.W.fnOf x qual (defArgs st) (defBody st) (defScope st) .none kV doc pm an cdv ct), osl⟩)
    (c : PySem.W.codeIn K cdv qual = true) (k : PySem.W.keepIn K (.ref f) = true) : Fun K x qual st f (PySem.W.fnOf x qual (defArgs st) (defBody st) (defScope st) .none kV doc pm an cdv ct) := ⟨⟨oc, od, kV, doc, pm, an, cdv, ct, osl, rfl, l, c⟩, k⟩
end
/-! ### expressions in short: the name that stands in the i-th slot -/
section
variable {X : Cx}
theorem pv (i : Nat) {x : Str} {pos : Pos} (hN : X.N[i]? = some x := by rfl) (hv : Vis X.env.scope x := by first | exact Or.inl rfl | exact Or.inr (Or.inl rfl) | exact Or.inr (Or.inr rfl)) (hd : (x == ("__debug__" : Str)) = false := by decide)
    (hcd : (x == ("__classdict__" : Str)) = false := by decide) : PE X (.Name x pos) (tVar i) := pe_var hN hv hd hcd
end

/-! ### tests -/
/-! ### heaps -/
/-- all that was tracked is as it was -/
def Same (H H' : Hp) : Prop := ∀ b o, H b = some o → H' b = some o
theorem Same.refl (H : Hp) : Same H H := fun _ _ h => h
theorem Same.trans {H H1 H2 : Hp} (a : Same H H1) (b : Same H1 H2) : Same H H2 := fun c o h => b c o (a c o h)
theorem Same.free {H H' : Hp} (e : Same H H') {l : Addr} (h : H' l = Option.none) : H l = Option.none := by
  cases q : H l with
  | none => rfl
  | some o =>
    rw [e l o q] at h
    cases h
theorem Same.seq {K : PySem.W.Frag} {H H' : Hp} {a : Addr} {xs : List V} (e : Same H H') (h : SqL K H a xs) : SqL K H' a xs := by
  rcases h with (h | ⟨o, h⟩) | h
  · exact .inl (.inl (e _ _ h))
  · exact .inl (.inr ⟨o, e _ _ h⟩)
  · exact .inr h

end L2

set_option Elab.async false
set_option linter.all false
set_option maxRecDepth 100000
namespace L2.R2
open PySem PySem.Spec PyProof.Rows L2

/-! ## plain data and how it lies in the abstract heap -/
inductive D where
  | non | bl (b : Bool) | int (i : Int) | str (x : Str) | tup (xs : List D) | lst (xs : List D)

def FzL (K : PySem.W.Frag) (H : Hp) (a : Addr) (vs : List V) : Prop :=
  (∃ o, H a = some (.frz o (.lst vs))) ∨
    ∃ (o : Obj) (its : Array Value) (n : Nat), K.lookup a = some o ∧ o.cls = .type "list" ∧ o.dict = none ∧ o.data = .seq its n ∧ its.size ≤ sizeLine ∧ Vals vs its.toList
theorem FzL.sq {K : PySem.W.Frag} {H : Hp} {a : Addr} {vs : List V} : FzL K H a vs → SqL K H a vs
  | .inl ⟨o, h⟩ => .inl (.inr ⟨o, h⟩)
  | .inr h => .inr h

/-- what never changes is as it was -/
structure Keep (H H' : Hp) : Prop where
  tups : ∀ b xs, H b = some (.tup xs) → H' b = some (.tup xs)
  frzs : ∀ b o u, H b = some (.frz o u) → H' b = some (.frz o u)
theorem Keep.refl (H : Hp) : Keep H H := ⟨fun _ _ h => h, fun _ _ _ h => h⟩
theorem Keep.trans {H H1 H2 : Hp} (a : Keep H H1) (b : Keep H1 H2) : Keep H H2 :=
  ⟨fun c xs h => b.tups c xs (a.tups c xs h), fun c o u h => b.frzs c o u (a.frzs c o u h)⟩
theorem Keep.of {H H' : Hp} (s : Same H H') : Keep H H' := ⟨fun b xs h => s b _ h, fun b o u h => s b _ h⟩

mutual
inductive Rep (K : PySem.W.Frag) (H : Hp) : D → V → Prop
  | non : Rep K H .non .non
  | bl (b : Bool) : Rep K H (.bl b) (.bl b)
  | int (i : Int) : Rep K H (.int i) (.int i)
  | str (x : Str) : Rep K H (.str x) (.str x)
  | tup {a : Addr} {vs : List V} {ds : List D} (h : H a = some (.tup vs)) (r : Reps K H ds vs) : Rep K H (.tup ds) (.ref a)
  | lst {a : Addr} {vs : List V} {ds : List D} (h : FzL K H a vs) (r : Reps K H ds vs) : Rep K H (.lst ds) (.ref a)
inductive Reps (K : PySem.W.Frag) (H : Hp) : List D → List V → Prop
  | nil : Reps K H [] []
  | cons {d : D} {v : V} {ds : List D} {vs : List V} (h : Rep K H d v) (t : Reps K H ds vs) : Reps K H (d :: ds) (v :: vs)
end

section
variable {K : PySem.W.Frag} {H H' : Hp}
theorem SqT.keep {a : Addr} {vs : List V} (k : Keep H H') (h : SqT K H a vs) : SqT K H' a vs := by
  rcases h with (h | ⟨o, h⟩) | h
  · exact .inl (.inl (k.tups _ _ h))
  · exact .inl (.inr ⟨o, k.frzs _ _ _ h⟩)
  · exact .inr h
theorem FzL.keep {a : Addr} {vs : List V} (k : Keep H H') (h : FzL K H a vs) : FzL K H' a vs := by
  rcases h with ⟨o, h⟩ | h
  · exact .inl ⟨o, k.frzs _ _ _ h⟩
  · exact .inr h
mutual
theorem Rep.keep (k : Keep H H') : ∀ {d : D} {v : V}, Rep K H d v → Rep K H' d v
  | _, _, .non => .non
  | _, _, .bl b => .bl b
  | _, _, .int i => .int i
  | _, _, .str x => .str x
  | _, _, .tup h r => .tup (k.tups _ _ h) (Reps.keep k r)
  | _, _, .lst h r => .lst (FzL.keep k h) (Reps.keep k r)
theorem Reps.keep (k : Keep H H') : ∀ {ds : List D} {vs : List V}, Reps K H ds vs → Reps K H' ds vs
  | _, _, .nil => .nil
  | _, _, .cons h t => .cons (Rep.keep k h) (Reps.keep k t)
end
theorem Reps.length : ∀ {ds : List D} {vs : List V}, Reps K H ds vs → ds.length = vs.length
  | _, _, .nil => rfl
  | _, _, .cons _ t => by simp [Reps.length t]
theorem Reps.get : ∀ {ds : List D} {vs : List V} {i : Nat} {d : D}, Reps K H ds vs → ds[i]? = some d → ∃ v, vs[i]? = some v ∧ Rep K H d v
  | _, _, _, _, .nil, e => by simp at e
  | _, _, 0, _, .cons h _, e => by simp at e; subst e; exact ⟨_, rfl, h⟩
  | _, _, i + 1, d, .cons _ t, e => by
    obtain ⟨v, h1, h2⟩ := Reps.get (i := i) (d := d) t (by simpa using e)
    exact ⟨v, by simpa using h1, h2⟩
theorem Reps.append : ∀ {ds es : List D} {vs us : List V}, Reps K H ds vs → Reps K H es us → Reps K H (ds ++ es) (vs ++ us)
  | _, _, _, _, .nil, s => s
  | _, _, _, _, .cons h t, s => .cons h (Reps.append t s)
theorem Reps.take : ∀ {ds : List D} {vs : List V} (n : Nat), Reps K H ds vs → Reps K H (ds.take n) (vs.take n)
  | _, _, 0, _ => .nil
  | _, _, _ + 1, .nil => .nil
  | _, _, n + 1, .cons r t => .cons r (Reps.take n t)
theorem Reps.drop : ∀ {ds : List D} {vs : List V} (n : Nat), Reps K H ds vs → Reps K H (ds.drop n) (vs.drop n)
  | _, _, 0, r => r
  | _, _, _ + 1, .nil => .nil
  | _, _, n + 1, .cons _ t => Reps.drop n t
theorem Reps.set {d : D} {v : V} (r : Rep K H d v) : ∀ {ds : List D} {vs : List V} (i : Nat), Reps K H ds vs → Reps K H (ds.set i d) (vs.set i v)
  | _, _, _, .nil => .nil
  | _, _, 0, .cons _ t => .cons r t
  | _, _, i + 1, .cons q t => .cons q (Reps.set r i t)
theorem Reps.dropLast : ∀ {ds : List D} {vs : List V}, Reps K H ds vs → Reps K H ds.dropLast vs.dropLast
  | _, _, .nil => .nil
  | _, _, .cons _ .nil => .nil
  | _, _, .cons r (.cons r2 t) => by
    simp only [List.dropLast]
    exact .cons r (Reps.dropLast (.cons r2 t))
theorem Reps.reverse : ∀ {ds : List D} {vs : List V}, Reps K H ds vs → Reps K H ds.reverse vs.reverse
  | _, _, .nil => .nil
  | _, _, .cons r t => by
    simp only [List.reverse_cons]
    exact (Reps.reverse t).append (.cons r .nil)
theorem Rep.int_inv {i : Int} {v : V} (h : Rep K H (.int i) v) : v = .int i := by cases h; rfl
theorem Rep.bl_inv {b : Bool} {v : V} (h : Rep K H (.bl b) v) : v = .bl b := by cases h; rfl
theorem Reps.ints : ∀ {ns : List Int}, Reps K H (ns.map D.int) (ns.map V.int)
  | [] => .nil
  | _ :: _ => .cons (.int _) Reps.ints
theorem Reps.ints_inv : ∀ {ns : List Int} {vs : List V}, Reps K H (ns.map D.int) vs → vs = ns.map V.int
  | [], _, h => by cases h; rfl
  | n :: ns, _, h => by
    cases h with
    | cons h t => rw [h.int_inv, Reps.ints_inv t]; rfl
end

/-- borrowed: the list itself may be one that is still grown -/
def RepB (K : PySem.W.Frag) (H : Hp) (d : D) (v : V) : Prop :=
  Rep K H d v ∨ ∃ ds a vs, d = .lst ds ∧ v = .ref a ∧ H a = some (.lst vs) ∧ Reps K H ds vs
theorem RepB.same {K : PySem.W.Frag} {H H' : Hp} {d : D} {v : V} (s : Same H H') (h : RepB K H d v) : RepB K H' d v := by
  rcases h with h | ⟨ds, a, vs, e1, e2, e3, r⟩
  · exact .inl (h.keep (.of s))
  · exact .inr ⟨ds, a, vs, e1, e2, s _ _ e3, r.keep (.of s)⟩
theorem RepB.lst {K : PySem.W.Frag} {H : Hp} {ds : List D} {v : V} (h : RepB K H (.lst ds) v) : ∃ a vs, v = .ref a ∧ SqL K H a vs ∧ Reps K H ds vs := by
  rcases h with h | ⟨ds', a, vs, e1, e2, e3, r⟩
  · cases h with
    | lst h r => exact ⟨_, _, rfl, h.sq, r⟩
  · cases e1; exact ⟨a, vs, e2, SqL.of e3, r⟩
theorem RepB.tup {K : PySem.W.Frag} {H : Hp} {ds : List D} {v : V} (h : RepB K H (.tup ds) v) : ∃ a vs, v = .ref a ∧ H a = some (.tup vs) ∧ Reps K H ds vs := by
  rcases h with h | ⟨ds', a, vs, e1, e2, e3, r⟩
  · cases h with
    | tup h r => exact ⟨_, _, rfl, h, r⟩
  · cases e1

/-! ## names -/
inductive S where
  | d (x : D) | own (xs : List D)
def S.val : S → D
  | .d x => x
  | .own xs => .lst xs
abbrev En := List (Option S)
def RelS (K : PySem.W.Frag) (H₀ H : Hp) : S → V → Prop
  | .d x, v => Rep K H x v
  | .own xs, v => ∃ a vs, v = .ref a ∧ H a = some (.lst vs) ∧ H₀ a = none ∧ Reps K H xs vs

structure StOk (X : Cx) (ρ : En) (σ : St) (H : Hp) : Prop where
  len : ρ.length = σ.length
  same : Same X.H₀ H
  rel : ∀ (i : Nat) (x : S), ρ[i]? = some (some x) → ∃ v, σ[i]? = some (some v) ∧ RelS X.K X.H₀ H x v
  sep : ∀ (i j : Nat) (xs ys : List D) (a : Addr), ρ[i]? = some (some (.own xs)) → ρ[j]? = some (some (.own ys)) → σ[i]? = some (some (.ref a)) → σ[j]? = some (some (.ref a)) → i = j

section
variable {X : Cx} {ρ : En} {σ : St} {H H' : Hp}
theorem RelS.same {K : PySem.W.Frag} {H₀ H H' : Hp} {x : S} {v : V} (s : Same H H') (h : RelS K H₀ H x v) : RelS K H₀ H' x v := by
  cases x with
  | d x => exact Rep.keep (.of s) h
  | own xs =>
    obtain ⟨a, vs, e1, e2, e3, r⟩ := h
    exact ⟨a, vs, e1, s _ _ e2, e3, r.keep (.of s)⟩
theorem StOk.ext (st : StOk X ρ σ H) (s : Same H H') : StOk X ρ σ H' :=
  ⟨st.len, st.same.trans s, fun i x e => let ⟨v, h1, h2⟩ := st.rel i x e; ⟨v, h1, h2.same s⟩, st.sep⟩
theorem StOk.set_d (st : StOk X ρ σ H) {i : Nat} {d : D} {v : V} (r : Rep X.K H d v) : StOk X (ρ.set i (some (.d d))) (σ.set i (some v)) H := by
  refine ⟨by simp [st.len], st.same, fun j x e => ?_, fun j k xs ys a e1 e2 e3 e4 => ?_⟩
  · by_cases hj : i = j
    · subst hj
      have hi : i < ρ.length := by
        by_cases h : i < ρ.length
        · exact h
        · rw [List.set_eq_of_length_le (by omega)] at e
          rw [List.getElem?_eq_none (by omega)] at e; cases e
      rw [List.getElem?_set_self hi] at e
      cases e
      exact ⟨v, by rw [List.getElem?_set_self (by rw [← st.len]; exact hi)], r⟩
    · rw [List.getElem?_set_ne hj] at e ⊢
      exact st.rel j x e
  · have ne : ∀ {j : Nat} {zs : List D}, (ρ.set i (some (.d d)))[j]? = some (some (.own zs)) → i ≠ j := fun {j zs} e q => by
      subst q
      by_cases h : i < ρ.length
      · rw [List.getElem?_set_self h] at e; cases e
      · rw [List.set_eq_of_length_le (by omega), List.getElem?_eq_none (by omega)] at e; cases e
    have n1 := ne e1
    have n2 := ne e2
    rw [List.getElem?_set_ne n1] at e1 e3
    rw [List.getElem?_set_ne n2] at e2 e4
    exact st.sep j k xs ys a e1 e2 e3 e4
/-- a fresh list is kept by a name -/
theorem StOk.set_own (st : StOk X ρ σ H) {i : Nat} {ds : List D} {p : Addr} {vs : List V} (hp : H p = none) (r : Reps X.K H ds vs) :
    StOk X (ρ.set i (some (.own ds))) (σ.set i (some (.ref p))) (upd H p (.lst vs)) := by
  have sm : Same H (upd H p (.lst vs)) := fun b o h => by rw [upd_ne (ne_of_none h hp)]; exact h
  have st' := st.ext sm
  have oldne : ∀ {j : Nat} {zs : List D}, i ≠ j → ρ[j]? = some (some (.own zs)) → σ[j]? ≠ some (some (.ref p)) := fun {j zs} hj e z => by
    obtain ⟨v, h1, a, vs', e1, e2, _⟩ := st.rel j _ e
    rw [h1] at z; cases z; cases e1
    rw [hp] at e2; cases e2
  refine ⟨by simp [st.len], st'.same, fun j x e => ?_, fun j k xs ys a e1 e2 e3 e4 => ?_⟩
  · by_cases hj : i = j
    · subst hj
      have hi : i < ρ.length := by
        by_cases h : i < ρ.length
        · exact h
        · rw [List.set_eq_of_length_le (by omega), List.getElem?_eq_none (by omega)] at e; cases e
      rw [List.getElem?_set_self hi] at e
      cases e
      exact ⟨.ref p, by rw [List.getElem?_set_self (by rw [← st.len]; exact hi)], p, vs, rfl, upd_same, st.same.free hp, r.keep (.of sm)⟩
    · rw [List.getElem?_set_ne hj] at e ⊢
      exact st'.rel j x e
  · by_cases hj : i = j
    · by_cases hk : i = k
      · exact hj.symm.trans hk
      · exfalso
        subst hj
        rw [List.getElem?_set_ne hk] at e2 e4
        have hi : i < σ.length := by
          by_cases h : i < σ.length
          · exact h
          · rw [List.set_eq_of_length_le (by omega), List.getElem?_eq_none (by omega)] at e3; cases e3
        rw [List.getElem?_set_self hi] at e3
        cases e3
        exact oldne hk e2 e4
    · by_cases hk : i = k
      · exfalso
        subst hk
        rw [List.getElem?_set_ne hj] at e1 e3
        have hi : i < σ.length := by
          by_cases h : i < σ.length
          · exact h
          · rw [List.set_eq_of_length_le (by omega), List.getElem?_eq_none (by omega)] at e4; cases e4
        rw [List.getElem?_set_self hi] at e4
        cases e4
        exact oldne hj e1 e3
      · rw [List.getElem?_set_ne hj] at e1 e3
        rw [List.getElem?_set_ne hk] at e2 e4
        exact st.sep j k xs ys a e1 e2 e3 e4
/-- an own list is changed where it lies -/
theorem StOk.upd_own (st : StOk X ρ σ H) {i : Nat} {xs ds : List D} {p : Addr} {us vs : List V} (e : ρ[i]? = some (some (.own xs))) (es : σ[i]? = some (some (.ref p))) (hp : H p = some (.lst us)) (h0 : X.H₀ p = none)
    (r : Reps X.K H ds vs) : StOk X (ρ.set i (some (.own ds))) σ (upd H p (.lst vs)) ∧ Keep H (upd H p (.lst vs)) := by
  have kp : Keep H (upd H p (.lst vs)) := ⟨fun b ys h => by
      rw [upd_ne (ne_of h hp (by intro z; cases z))]; exact h, fun b o u h => by rw [upd_ne (ne_of h hp (by intro z; cases z))]; exact h⟩
  have hi : i < ρ.length := (List.getElem?_eq_some_iff.mp e).1
  refine ⟨⟨by simp [st.len], fun b o h => ?_, fun j x ej => ?_, fun j k xs' ys a e1 e2 e3 e4 => ?_⟩, kp⟩
  · rw [upd_ne (by rintro rfl; rw [h0] at h; cases h)]
    exact st.same b o h
  · by_cases hj : i = j
    · subst hj
      rw [List.getElem?_set_self hi] at ej
      cases ej
      exact ⟨.ref p, es, p, vs, rfl, upd_same, h0, r.keep kp⟩
    · rw [List.getElem?_set_ne hj] at ej
      obtain ⟨v, h1, h2⟩ := st.rel j x ej
      refine ⟨v, h1, ?_⟩
      cases x with
      | d x => exact Rep.keep kp h2
      | own zs =>
        obtain ⟨a, vs', e1, e2, e3, r'⟩ := h2
        refine ⟨a, vs', e1, ?_, e3, r'.keep kp⟩
        rw [upd_ne]
        · exact e2
        · rintro rfl
          subst e1
          exact hj (st.sep i j _ _ _ e ej es h1)
  · have back : ∀ {j : Nat} {zs : List D}, (ρ.set i (some (.own ds)))[j]? = some (some (.own zs)) → ∃ zs', ρ[j]? = some (some (.own zs')) := fun {j zs} q => by
      by_cases hj : i = j
      · subst hj; exact ⟨_, e⟩
      · rw [List.getElem?_set_ne hj] at q; exact ⟨_, q⟩
    obtain ⟨_, q1⟩ := back e1
    obtain ⟨_, q2⟩ := back e2
    exact st.sep j k _ _ a q1 q2 e3 e4
end

/-! ## freezing -/
section
variable {X : Cx} {pins : List (Addr × Obj)} {σ : St} {H : Hp} {s : Shared}
theorem Inv.freeze {a : Addr} {xs : List V} (I : Inv X pins σ H s) (h : H a = some (.lst xs)) : ∃ o, Inv X pins σ (upd H a (.frz o (.lst xs))) s := by
  have ok := I.hok a _ h
  obtain ⟨z, its, n, r, e⟩ := id ok
  refine ⟨{ cls := .type "list", data := .seq its.toArray n }, ?_⟩
  have ntup : ∀ b u, H b = some u → u ≠ .lst xs → b ≠ a := fun b u q d z => by subst z; rw [h] at q; cases q; exact d rfl
  refine I.un (t' := s.toks) (h' := s.heap) ⟨fun b o q _ _ _ => q, fun b o q _ _ _ => ⟨o.slots, q⟩, fun b o q n _ => ?_, fun b o q _ => ⟨o, q⟩, fun b ys q => ?_, fun b o u q => ?_, fun b ps q => ⟨#[], ?_⟩⟩ fun b u q => ?_
  · rw [upd_ne (fun z => by subst z; rw [h] at n; cases n)]; exact n
  · rw [upd_ne (ntup b _ q (by intro z; cases z))]; exact q
  · rw [upd_ne (ntup b _ q (by intro z; cases z))]; exact q
  · rw [upd_ne (ntup b _ q (by intro z; cases z)), q]; simp
  · by_cases hb : b = a
    · subst hb
      rw [upd_same] at q; cases q
      exact ⟨e, z, its, n, r, e⟩
    · rw [upd_ne hb] at q
      exact (I.hok b u q).stay (fun c v _ w => w) (fun c w => by rw [upd_ne (ntup c _ w (by intro z; cases z))]; exact w) fun c ys w => by rw [upd_ne (ntup c _ w (by intro z; cases z))]; exact w
theorem Same.upd_new {a : Addr} {o : HO} {H H1 : Hp} (s : Same H H1) (n : H a = none) : Same H (upd H1 a o) := fun b u h => by
  rw [upd_ne (ne_of_none h n)]; exact s b u h
end
end L2.R2

set_option Elab.async false
set_option linter.all false
set_option maxRecDepth 100000
namespace L2.R2
open PySem PySem.Spec PyProof.Rows L2

/-! ## readings over plain data -/
/-- small enough for a list, a tuple -/
structure Sz (n : Nat) : Prop where
  ok : n ≤ sizeLine
abbrev RE := En → (D → Prop) → Prop
abbrev RT := En → (Bool → Prop) → Prop
abbrev RA := En → (List D → Prop) → Prop
structure DEnds where
  nx : En → Prop
  rt : D → Prop
  bk : En → Prop := fun _ => False
  ct : En → Prop := fun _ => False
abbrev RS := DEnds → En → Prop
abbrev RG := D → En → (En → Prop) → Prop

def liftE (X : Cx) (t : RE) : TE := fun σ H Q => ∃ ρ P, StOk X ρ σ H ∧ t ρ P ∧ ∀ d v H', P d → Same H H' → Rep X.K H' d v → Q v H'
def liftB (X : Cx) (t : RE) : TE := fun σ H Q => ∃ ρ P, StOk X ρ σ H ∧ t ρ P ∧ ∀ d v H', P d → Same H H' → RepB X.K H' d v → Q v H'
/-- a fresh list -/
def liftO (X : Cx) (t : RA) : TE := fun σ H Q => ∃ ρ P, StOk X ρ σ H ∧ t ρ P ∧ ∀ ds p vs H1, P ds → Same H H1 → H1 p = none → Reps X.K H1 ds vs → Q (.ref p) (upd H1 p (.lst vs))
def liftT (X : Cx) (t : RT) : TT := fun σ H Q => ∃ ρ P, StOk X ρ σ H ∧ t ρ P ∧ ∀ b H', P b → Same H H' → Q b H'
def liftA (X : Cx) (t : RA) : TA := fun σ H Q => ∃ ρ P, StOk X ρ σ H ∧ t ρ P ∧ ∀ ds vs H', P ds → Same H H' → Reps X.K H' ds vs → Q vs H'
def liftS (X : Cx) (t : RS) : TS := fun De σ H => ∃ ρ E, StOk X ρ σ H ∧ t E ρ ∧ (∀ ρ' σ' H', E.nx ρ' → Keep H H' → StOk X ρ' σ' H' → De.nx σ' H') ∧ (∀ d v H', E.rt d → Keep H H' → Same X.H₀ H' → Rep X.K H' d v → De.rt v H') ∧
  (∀ ρ' σ' H', E.bk ρ' → Keep H H' → StOk X ρ' σ' H' → De.bk σ' H') ∧ ∀ ρ' σ' H', E.ct ρ' → Keep H H' → StOk X ρ' σ' H' → De.ct σ' H'
def liftG (X : Cx) (g : RG) : TG := fun v σ H Q => ∃ d ρ P, Rep X.K H d v ∧ StOk X ρ σ H ∧ g d ρ P ∧ ∀ ρ' σ' H', P ρ' → Keep H H' → StOk X ρ' σ' H' → Q σ' H'

def DE (X : Cx) (e : Expr) (t : RE) : Prop := PE X e (liftE X t)
def DB (X : Cx) (e : Expr) (t : RE) : Prop := PE X e (liftB X t)
def DO (X : Cx) (e : Expr) (t : RA) : Prop := PE X e (liftO X t)
def DT (X : Cx) (e : Expr) (t : RT) : Prop := PT X e (liftT X t)
def DW (X : Cx) (e : Expr) (t : RT) : Prop := PW X e (liftT X t)
def DA (X : Cx) (es : List Expr) (t : RA) : Prop := PA X es (liftA X t)
def DS (X : Cx) (st : Stmt) (t : RS) : Prop := PS X st (liftS X t)
def DSs (X : Cx) (sts : List Stmt) (t : RS) : Prop := PSs X sts (liftS X t)
def DG (X : Cx) (tg : Expr) (g : RG) : Prop := PG X tg (liftG X g)

theorem PE.mono {X : Cx} {e : Expr} {t t' : TE} (h : PE X e t) (m : ∀ σ H Q, t' σ H Q → t σ H Q) : PE X e t' := fun pins s σ H Q I q => h pins s σ H Q I (m σ H Q q)
theorem PT.mono {X : Cx} {e : Expr} {t t' : TT} (h : PT X e t) (m : ∀ σ H Q, t' σ H Q → t σ H Q) : PT X e t' := fun pins s σ H Q I q => h pins s σ H Q I (m σ H Q q)
theorem PW.mono {X : Cx} {e : Expr} {t t' : TT} (h : PW X e t) (m : ∀ σ H Q, t' σ H Q → t σ H Q) : PW X e t' := fun wh pins s σ H Q I q => h wh pins s σ H Q I (m σ H Q q)
theorem PA.mono {X : Cx} {e : List Expr} {t t' : TA} (h : PA X e t) (m : ∀ σ H Q, t' σ H Q → t σ H Q) : PA X e t' := fun pos pins s σ H Q I q => h pos pins s σ H Q I (m σ H Q q)
theorem PS.mono {X : Cx} {e : Stmt} {t t' : TS} (h : PS X e t) (m : ∀ D σ H, t' D σ H → t D σ H) : PS X e t' := fun pins s σ H D I q => h pins s σ H D I (m D σ H q)
theorem PSs.mono {X : Cx} {e : List Stmt} {t t' : TS} (h : PSs X e t) (m : ∀ D σ H, t' D σ H → t D σ H) : PSs X e t' := fun pins s σ H D I q => h pins s σ H D I (m D σ H q)
theorem PG.mono {X : Cx} {e : Expr} {t t' : TG} (h : PG X e t) (m : ∀ v σ H Q, t' v σ H Q → t v σ H Q) : PG X e t' := fun pins s σ H v u Q I r q => h pins s σ H v u Q I r (m v σ H Q q)

section
variable {X : Cx} {e a b c : Expr} {pos : Pos}

/-! ### from one judgement to another -/
theorem DE.bor {t : RE} (h : DE X e t) : DB X e t := PE.mono h fun σ H Q ⟨ρ, P, st, q, k⟩ => ⟨ρ, P, st, q, fun d v H' p s r => k d v H' p s (.inl r)⟩
/-- a fresh list, frozen at once -/
theorem DO.val {t : RA} (h : DO X e t) : DE X e (fun ρ Q => t ρ fun ds => Q (.lst ds)) := by
  intro pins s σ H Q I ⟨ρ, P, st, q, k⟩
  refine thn (h pins s σ H (fun v H' => ∃ ds p vs H1, v = .ref p ∧ H' = upd H1 p (.lst vs) ∧ P (.lst ds) ∧ Same H H1 ∧ H1 p = none ∧ Reps X.K H1 ds vs) I ⟨ρ, _, st, q, fun ds p vs H1 hp s1 hn r => ⟨ds, p, vs, H1, rfl, rfl, hp, s1, hn, r⟩⟩) fun u s1 ⟨v, H', I', rv, ds, p, vs, H1, ev, eH, hp, sm, hn, r⟩ => ?_
  subst ev eH
  obtain ⟨o, I2⟩ := Inv.freeze I' (a := p) (xs := vs) upd_same
  have sm2 : Same H1 (upd (upd H1 p (.lst vs)) p (.frz o (.lst vs))) := fun b u e => by rw [upd_ne (ne_of_none e hn), upd_ne (ne_of_none e hn)]; exact e
  exact ⟨.ref p, _, I2, rv, k (.lst ds) (.ref p) _ hp (sm.trans sm2) (.lst (.inl ⟨o, upd_same⟩) (r.keep (.of sm2)))⟩
theorem DO.bor {t : RA} (h : DO X e t) : DB X e (fun ρ Q => t ρ fun ds => Q (.lst ds)) := h.val.bor

/-! ### names and constants -/
def rVar (i : Nat) : RE := fun ρ Q => match ρ[i]? with
  | some (some (.d d)) => Q d
  | _ => False
def rVarB (i : Nat) : RE := fun ρ Q => match ρ[i]? with
  | some (some x) => Q x.val
  | _ => False
theorem dv (i : Nat) {x : Str} (hN : X.N[i]? = some x := by rfl) (hv : Vis X.env.scope x := by first | exact Or.inl rfl | exact Or.inr (Or.inl rfl) | exact Or.inr (Or.inr rfl)) (hd : (x == ("__debug__" : Str)) = false := by decide)
    (hcd : (x == ("__classdict__" : Str)) = false := by decide) : DE X (.Name x pos) (rVar i) := by
  refine PE.mono (pv i hN hv hd hcd) fun σ H Q ⟨ρ, P, st, q, k⟩ => ?_
  unfold rVar at q
  split at q
  · rename_i d e
    obtain ⟨v, h1, h2⟩ := st.rel i _ e
    exact ⟨v, h1, k d v H q (Same.refl H) h2⟩
  · exact q.elim
theorem dvb (i : Nat) {x : Str} (hN : X.N[i]? = some x := by rfl) (hv : Vis X.env.scope x := by first | exact Or.inl rfl | exact Or.inr (Or.inl rfl) | exact Or.inr (Or.inr rfl)) (hd : (x == ("__debug__" : Str)) = false := by decide)
    (hcd : (x == ("__classdict__" : Str)) = false := by decide) : DB X (.Name x pos) (rVarB i) := by
  refine PE.mono (pv i hN hv hd hcd) fun σ H Q ⟨ρ, P, st, q, k⟩ => ?_
  unfold rVarB at q
  split at q
  · rename_i d e
    obtain ⟨v, h1, h2⟩ := st.rel i _ e
    refine ⟨v, h1, k _ v H q (Same.refl H) ?_⟩
    cases d with
    | d x => exact .inl h2
    | own xs =>
      obtain ⟨a, vs, e1, e2, _, r⟩ := h2
      exact .inr ⟨xs, a, vs, rfl, e1, e2, r⟩
  · exact q.elim
def rC (d : D) : RE := fun _ Q => Q d
theorem de_int {i : Int} {j : Nat} : DE X (.Constant (.int i) j pos) (rC (.int i)) := PE.mono pe_int fun σ H Q ⟨ρ, P, st, q, k⟩ => k _ _ H q (Same.refl H) (.int i)
theorem de_bl {i : Bool} {j : Nat} : DE X (.Constant (.bool i) j pos) (rC (.bl i)) := PE.mono pe_bl fun σ H Q ⟨ρ, P, st, q, k⟩ => k _ _ H q (Same.refl H) (.bl i)
theorem de_non {j : Nat} : DE X (.Constant .none j pos) (rC .non) := PE.mono pe_non fun σ H Q ⟨ρ, P, st, q, k⟩ => k _ _ H q (Same.refl H) .non
/-! ### operations of two values -/
abbrev R22 := D → D → (D → Prop) → Prop
/-- results frozen, operands borrowed -/
def liftR (X : Cx) (r : R22) : R2 := fun x y H Q => ∃ d e P, RepB X.K H d x ∧ RepB X.K H e y ∧ r d e P ∧ ∀ z v H', P z → Same H H' → Rep X.K H' z v → Q v H'
def OpD (X : Cx) (f : Value → Value → Sem Value) (r : R22) : Prop := OpR X f (liftR X r)
def r2 (r : R22) (ta tb : RE) : RE := fun ρ Q => ta ρ fun x => tb ρ fun y => r x y Q
variable {ta tb tc : RE}
theorem lift2 {r : R22} {σ : St} {H : Hp} {Q : VK} (h : liftE X (r2 r ta tb) σ H Q) : tOp (liftR X r) (liftB X ta) (liftB X tb) σ H Q := by
  obtain ⟨ρ, P, st, ht, hP⟩ := h
  exact ⟨ρ, _, st, ht, fun x v H1 h1 s1 r1 => ⟨ρ, _, st.ext s1, h1, fun y u H2 h2 s2 r2 => ⟨x, y, P, r1.same s2, r2, h2, fun z w H' hz s3 r3 => hP z w H' hz ((s1.trans s2).trans s3) r3⟩⟩⟩
theorem de_op {op : Operator} {r : R22} (ho : OpD X (binaryOp op) r) (ha : DB X a ta) (hb : DB X b tb) : DE X (.BinOp a op b pos) (r2 r ta tb) := PE.mono (pe_op ho ha hb) fun σ H Q h => lift2 h
/-- a bool value as a test -/
def rTest (t : RE) : RT := fun ρ Q => t ρ fun d => match d with
  | .bl k => Q k
  | _ => False
theorem dt_cmp {op : CmpOp} {r : R22} (ho : OpD X (compareOp op) r) (ha : DB X a ta) (hb : DB X b tb) (hm : behindInMarks op b = false := by exact nomark _) : DT X (.Compare a [op] [b] pos) (rTest (r2 r ta tb)) := by
  refine PT.mono (pt_cmpR ho ha hb hm) fun σ H Q ⟨ρ, P, st, q, k⟩ => ?_
  refine lift2 (Q := fun x H' => ∃ k, x = .bl k ∧ Q k H') ⟨ρ, _, st, q, fun d v H' hd s r => ?_⟩
  cases d with
  | bl b => exact ⟨b, r.bl_inv, k b H' hd s⟩
  | _ => exact hd.elim
/-- any expression whose value is a bool -/
theorem dt_val (h : DE X e ta) (he : ∀ whole, isTrue e X.env whole = (do let v ← whole; standAt e.pos; holding [v] (truthy v)) := by intro _; rfl) : DT X e (rTest ta) := by
  refine PT.mono (pt_val h he) fun σ H Q ⟨ρ, P, st, q, k⟩ => ?_
  refine ⟨ρ, _, st, q, fun d v H' hd s r => ?_⟩
  cases d with
  | bl b => exact ⟨b, r.bl_inv, k b H' hd s⟩
  | _ => exact hd.elim
def rAnd (t u : RT) : RT := fun ρ Q => t ρ fun c => if c = true then u ρ Q else Q false
def rOr (t u : RT) : RT := fun ρ Q => t ρ fun c => if c = true then Q true else u ρ Q
def rNot (t : RT) : RT := fun ρ Q => t ρ fun c => Q (!c)
variable {tA tB : RT} {rest : List Expr}
theorem dw_and1 (ha : DT X a tA) : DW X (.BoolOp .And [a] pos) tA := pw_and1 ha
theorem dw_or1 (ha : DT X a tA) : DW X (.BoolOp .Or [a] pos) tA := pw_or1 ha
theorem dw_and (ha : DT X a tA) (hb : DW X (.BoolOp .And (b :: rest) pos) tB) : DW X (.BoolOp .And (a :: b :: rest) pos) (rAnd tA tB) :=
  PW.mono (pw_and ha hb) fun σ H Q ⟨ρ, P, st, q, k⟩ => ⟨ρ, _, st, q, fun c H1 hc s1 => by
    cases c with
    | true => rw [if_pos rfl] at hc ⊢; exact ⟨ρ, P, st.ext s1, hc, fun d H2 hd s2 => k d H2 hd (s1.trans s2)⟩
    | false => rw [if_neg Bool.false_ne_true] at hc ⊢; exact k false H1 hc s1⟩
theorem dw_or (ha : DT X a tA) (hb : DW X (.BoolOp .Or (b :: rest) pos) tB) : DW X (.BoolOp .Or (a :: b :: rest) pos) (rOr tA tB) :=
  PW.mono (pw_or ha hb) fun σ H Q ⟨ρ, P, st, q, k⟩ => ⟨ρ, _, st, q, fun c H1 hc s1 => by
    cases c with
    | false => rw [if_neg Bool.false_ne_true] at hc ⊢; exact ⟨ρ, P, st.ext s1, hc, fun d H2 hd s2 => k d H2 hd (s1.trans s2)⟩
    | true => rw [if_pos rfl] at hc ⊢; exact k true H1 hc s1⟩
theorem DW.tst (h : DW X e tA) : DT X e tA := PW.pt h
theorem dt_not (ha : DT X a tA) : DT X (.UnaryOp .Not a pos) (rNot tA) := PT.mono (pt_not ha) fun σ H Q ⟨ρ, P, st, q, k⟩ => ⟨ρ, _, st, q, fun c H1 hc s1 => k _ H1 hc s1⟩
/-! as values -/
def rAndV (ta tb : RE) : RE := fun ρ Q => ta ρ fun d => match d with
  | .bl k => if k = true then tb ρ Q else Q (.bl false)
  | _ => False
def rOrV (ta tb : RE) : RE := fun ρ Q => ta ρ fun d => match d with
  | .bl k => if k = true then Q (.bl true) else tb ρ Q
  | _ => False
def rNotV (ta : RE) : RE := fun ρ Q => ta ρ fun d => match d with
  | .bl k => Q (.bl (!k))
  | _ => False
theorem de_one {op} (h : DE X a ta) : DE X (.BoolOp op [a] pos) ta := pe_one h
theorem de_and (ha : DE X a ta) (hb : DE X (.BoolOp .And (b :: rest) pos) tb) : DE X (.BoolOp .And (a :: b :: rest) pos) (rAndV ta tb) :=
  PE.mono (pe_and ha hb) fun σ H Q ⟨ρ, P, st, q, k⟩ => ⟨ρ, _, st, q, fun d v H1 hd s1 r => by
    cases d with
    | bl c =>
      refine ⟨c, r.bl_inv, ?_⟩
      cases c with
      | true => exact ⟨ρ, P, st.ext s1, hd, fun d v H2 hd s2 => k d v H2 hd (s1.trans s2)⟩
      | false => exact k (.bl false) (.bl false) H1 hd s1 (.bl false)
    | _ => exact hd.elim⟩
theorem de_not (ha : DE X a ta) : DE X (.UnaryOp .Not a pos) (rNotV ta) :=
  PE.mono (pe_not ha) fun σ H Q ⟨ρ, P, st, q, k⟩ => ⟨ρ, _, st, q, fun d v H1 hd s1 r => by
    cases d with
    | bl c => exact ⟨c, r.bl_inv, k (.bl !c) (.bl !c) H1 hd s1 (.bl _)⟩
    | _ => exact hd.elim⟩
def rIf (t : RT) (ta tb : RE) : RE := fun ρ Q => t ρ fun c => if c = true then ta ρ Q else tb ρ Q
/-! ### one value -/
def liftU (X : Cx) (r : D → (D → Prop) → Prop) : V → Hp → VK → Prop := fun x H Q => ∃ d P, RepB X.K H d x ∧ r d P ∧ ∀ z v H', P z → Same H H' → Rep X.K H' z v → Q v H'
def UnD (X : Cx) (f : Value → Sem Value) (r : D → (D → Prop) → Prop) : Prop := UnR X f (liftU X r)
def r1 (r : D → (D → Prop) → Prop) (ta : RE) : RE := fun ρ Q => ta ρ fun x => r x Q
theorem de_un {op : UnaryOp} {r : D → (D → Prop) → Prop} (ho : UnD X (unaryOp op) r) (ha : DB X a ta) : DE X (.UnaryOp op a pos) (r1 r ta) :=
  PE.mono (pe_un ho ha) fun σ H Q ⟨ρ, P, st, q, k⟩ => ⟨ρ, _, st, q, fun d v H1 hd s1 rr => ⟨d, P, rr, hd, fun z v H2 hz s2 r2 => k z v H2 hz (s1.trans s2) r2⟩⟩

/-! ### argument lists, displays -/
def raNil : RA := fun _ Q => Q []
def raCons (t : RE) (u : RA) : RA := fun ρ Q => t ρ fun x => u ρ fun xs => Q (x :: xs)
variable {es : List Expr} {t : RA}
theorem da_nil : DA X [] raNil := PA.mono pa_nil fun σ H Q ⟨ρ, P, st, q, k⟩ => k [] [] H q (Same.refl H) .nil
theorem da_cons (ha : DE X e ta) (hr : DA X es t) (hs : starEach (e :: es) X.env = (false, eval e X.env) :: starEach es X.env := by rfl) : DA X (e :: es) (raCons ta t) :=
  PA.mono (pa_cons ha hr hs) fun σ H Q ⟨ρ, P, st, q, k⟩ => ⟨ρ, _, st, q, fun d v H1 hd s1 r1 => ⟨ρ, _, st.ext s1, hd, fun ds vs H2 hds s2 r2 => k (d :: ds) (v :: vs) H2 hds (s1.trans s2) (.cons (r1.keep (.of s2)) r2)⟩⟩
def rTup (t : RA) : RE := fun ρ Q => t ρ fun ds => Sz ds.length ∧ Q (.tup ds)
theorem de_tup {x1} (h : DA X es t) : DE X (.Tuple es x1 pos) (rTup t) :=
  PE.mono (pe_tup h) fun σ H Q ⟨ρ, P, st, q, k⟩ => ⟨ρ, _, st, q, fun ds vs H1 hd s1 r => ⟨by rw [← r.length]; exact hd.1.ok, fun p hp => k (.tup ds) (.ref p) _ hd.2 (Same.upd_new s1 (s1.free hp)) (by
    have sm : Same H1 (upd H1 p (.tup vs)) := fun b u e => by rw [upd_ne (ne_of_none e hp)]; exact e
    exact .tup upd_same (r.keep (.of sm)))⟩⟩
def rLst (t : RA) : RA := fun ρ Q => t ρ fun ds => Sz ds.length ∧ Q ds
theorem do_lst (h : DA X es t) : DO X (.List es pos) (rLst t) :=
  PE.mono (pe_lst h) fun σ H Q ⟨ρ, P, st, q, k⟩ => ⟨ρ, _, st, q, fun ds vs H1 hd s1 r => ⟨by rw [← r.length]; exact hd.1.ok, fun p hp => k ds p vs H1 hd.2 s1 hp r⟩⟩
end

/-! ## statements -/
section
variable {X : Cx} {e a b c : Expr} {pos : Pos} {st : Stmt} {rest : List Stmt} {t u : RS} {te : RE} {tA : RT}
def rSeq (t u : RS) : RS := fun E ρ => t { E with nx := u E } ρ
def rNext : RS := fun E ρ => E.nx ρ
theorem dss_nil : DSs X [] rNext := PSs.mono pss_nil fun De σ H ⟨ρ, E, st, q, n, r, b, c⟩ => n ρ σ H q (Keep.refl H) st
theorem dss_one (h : DS X st t) : DSs X [st] t := pss_one h
theorem dss_cons (h1 : DS X st t) (h2 : DSs X rest u) : DSs X (st :: rest) (rSeq t u) :=
  PSs.mono (pss_cons h1 h2) fun De σ H ⟨ρ, E, st, q, n, r, b, c⟩ => ⟨ρ, _, st, q, fun ρ' σ' H' h k s => ⟨ρ', E, s, h, fun ρ2 σ2 H2 x k2 => n ρ2 σ2 H2 x (k.trans k2), fun d v H2 x k2 => r d v H2 x (k.trans k2), fun ρ2 σ2 H2 x k2 => b ρ2 σ2 H2 x (k.trans k2), fun ρ2 σ2 H2 x k2 => c ρ2 σ2 H2 x (k.trans k2)⟩, r, b, c⟩
def rRet (te : RE) : RS := fun E ρ => te ρ E.rt
theorem ds_ret (h : DE X e te) : DS X (.Return (some e) pos) (rRet te) :=
  PS.mono (ps_ret h) fun De σ H ⟨ρ, E, st, q, n, r, b, c⟩ => ⟨ρ, _, st, q, fun d v H1 hd s1 rr => r d v H1 hd (.of s1) (st.same.trans s1) rr⟩
def rDrop (te : RE) : RS := fun E ρ => te ρ fun _ => E.nx ρ
def rIfS (c : RT) (t u : RS) : RS := fun E ρ => c ρ fun k => if k = true then t E ρ else u E ρ
theorem ds_if {sa sb : List Stmt} (hc : DT X c tA) (ha : DSs X sa t) (hb : DSs X sb u) : DS X (.If c sa sb pos) (rIfS tA t u) :=
  PS.mono (ps_if hc ha hb) fun De σ H ⟨ρ, E, st, q, n, r, b, c⟩ => ⟨ρ, _, st, q, fun k H1 hk s1 => by
    cases k with
    | true => rw [if_pos rfl] at hk ⊢; exact ⟨ρ, E, st.ext s1, hk, fun ρ2 σ2 H2 x k2 => n ρ2 σ2 H2 x ((Keep.of s1).trans k2), fun d v H2 x k2 => r d v H2 x ((Keep.of s1).trans k2), fun ρ2 σ2 H2 x k2 => b ρ2 σ2 H2 x ((Keep.of s1).trans k2), fun ρ2 σ2 H2 x k2 => c ρ2 σ2 H2 x ((Keep.of s1).trans k2)⟩
    | false => rw [if_neg Bool.false_ne_true] at hk ⊢; exact ⟨ρ, E, st.ext s1, hk, fun ρ2 σ2 H2 x k2 => n ρ2 σ2 H2 x ((Keep.of s1).trans k2), fun d v H2 x k2 => r d v H2 x ((Keep.of s1).trans k2), fun ρ2 σ2 H2 x k2 => b ρ2 σ2 H2 x ((Keep.of s1).trans k2), fun ρ2 σ2 H2 x k2 => c ρ2 σ2 H2 x ((Keep.of s1).trans k2)⟩⟩

/-! ### targets -/
def rgName (i : Nat) : RG := fun d ρ Q => Q (ρ.set i (some (.d d)))
theorem dg_name {i : Nat} {x : Str} (hN : X.N.Nodup) (hi : X.N[i]? = some x := by rfl) (hx : Loc X.env.scope x := by first | exact Or.inl rfl | exact Or.inr rfl) (hf : X.fn x = true ∨ X.env.scope.names.lookup x = some .local := by first | exact .inl rfl | exact .inr rfl | assumption) : DG X (.Name x pos) (rgName i) :=
  PG.mono (pg_name hN hi hx hf) fun v σ H Q ⟨d, ρ, P, r, st, q, k⟩ => k _ _ H q (Keep.refl H) (st.set_d r)
abbrev RGs := List D → En → (En → Prop) → Prop
def liftGs (X : Cx) (g : RGs) : TGs := fun vs σ H Q => ∃ ds ρ P, Reps X.K H ds vs ∧ StOk X ρ σ H ∧ g ds ρ P ∧ ∀ ρ' σ' H', P ρ' → Keep H H' → StOk X ρ' σ' H' → Q σ' H'
def DGs (X : Cx) (ts : List Expr) (g : RGs) : Prop := PGs X ts (liftGs X g)
theorem PGs.mono {X : Cx} {e : List Expr} {t t' : TGs} (h : PGs X e t) (m : ∀ v σ H Q, t' v σ H Q → t v σ H Q) : PGs X e t' := fun pins s σ H v u Q I r q => h pins s σ H v u Q I r (m v σ H Q q)
def rgNil : RGs := fun ds ρ Q => match ds with
  | [] => Q ρ
  | _ => False
def rgCons (g : RG) (u : RGs) : RGs := fun ds ρ Q => match ds with
  | [] => False
  | d :: r => g d ρ fun ρ' => u r ρ' Q
theorem dgs_nil : DGs X [] rgNil := PGs.mono pgs_nil fun vs σ H Q ⟨ds, ρ, P, r, st, q, k⟩ => by
  cases r with
  | nil => exact ⟨rfl, k ρ σ H q (Keep.refl H) st⟩
  | cons _ _ => exact q.elim
theorem dgs_cons {es : List Expr} {g : RG} {u : RGs} (h1 : DG X e g) (h2 : DGs X es u) (hs : (assignEach (e :: es) X.env).map (·.2) = assign e X.env :: (assignEach es X.env).map (·.2) := by rfl) : DGs X (e :: es) (rgCons g u) :=
  PGs.mono (pgs_cons h1 h2 hs) fun vs σ H Q ⟨ds, ρ, P, r, st, q, k⟩ => by
    cases r with
    | nil => exact q.elim
    | cons r rs =>
      refine ⟨_, _, rfl, _, ρ, _, r, st, q, fun ρ' σ' H' hq k1 st1 => ⟨_, ρ', P, rs.keep k1, st1, hq, fun ρ2 σ2 H2 p k2 s2 => k ρ2 σ2 H2 p (k1.trans k2) s2⟩⟩
def rgTup (n : Nat) (g : RGs) : RG := fun d ρ Q => match d with
  | .tup ds => ds.length = n ∧ g ds ρ Q
  | _ => False
theorem dg_tup {es : List Expr} {k : Nat} {g : RGs} {n : Nat} (hc : X.calm = true) (h : DGs X es g) (hn : (assignEach es X.env).length = n := by rfl) (hst : (assignEach es X.env).findIdx? (·.1) = none := by rfl) : DG X (.Tuple es k pos) (rgTup n g) :=
  PG.mono (pg_tup hc h hn hst) fun v σ H Q ⟨d, ρ, P, r, st, q, kk⟩ => by
    cases d with
    | tup ds =>
      cases r with
      | tup h r => exact ⟨_, _, rfl, SqT.of h, by rw [← r.length]; exact q.1, ds, ρ, P, r, st, q.2, kk⟩
    | _ => exact q.elim
def rAsg (te : RE) (g : RG) : RS := fun E ρ => te ρ fun d => g d ρ E.nx
def rSet (i : Nat) (te : RE) : RS := fun E ρ => te ρ fun d => E.nx (ρ.set i (some (.d d)))
theorem ds_set {i : Nat} {x : Str} {pos' : Pos} (hN : X.N.Nodup) (he : DE X e te) (hi : X.N[i]? = some x := by rfl) (hx : Loc X.env.scope x := by first | exact Or.inl rfl | exact Or.inr rfl) (hs : swapsWith e (some (.Name x pos')) pos.line X.env = pure false := by rfl)
    (hf : X.fn x = true ∨ X.env.scope.names.lookup x = some .local := by first | exact .inl rfl | exact .inr rfl | assumption) : DS X (.Assign [.Name x pos'] e pos) (rSet i te) :=
  PS.mono (ps_set hN hi hx he hs hf) fun De σ H ⟨ρ, E, st, q, n, r, b, c⟩ => ⟨ρ, _, st, q, fun d v H1 hd s1 rr => n _ _ H1 hd (.of s1) ((st.ext s1).set_d rr)⟩
/-- x = a fresh list, kept by x alone -/
def rSetO (i : Nat) (t : RA) : RS := fun E ρ => t ρ fun ds => E.nx (ρ.set i (some (.own ds)))
theorem ds_setO {i : Nat} {x : Str} {pos' : Pos} {t : RA} (hN : X.N.Nodup) (he : DO X e t) (hi : X.N[i]? = some x := by rfl) (hx : Loc X.env.scope x := by first | exact Or.inl rfl | exact Or.inr rfl) (hs : swapsWith e (some (.Name x pos')) pos.line X.env = pure false := by rfl)
    (hf : X.fn x = true ∨ X.env.scope.names.lookup x = some .local := by first | exact .inl rfl | exact .inr rfl | assumption) : DS X (.Assign [.Name x pos'] e pos) (rSetO i t) :=
  PS.mono (ps_set hN hi hx he hs hf) fun De σ H ⟨ρ, E, st, q, n, r, b, c⟩ => ⟨ρ, _, st, q, fun ds p vs H1 hd s1 hp rr => n _ _ _ hd ((Keep.of s1).trans (.of fun b o h => by rw [upd_ne (ne_of_none h hp)]; exact h)) ((st.ext s1).set_own hp rr)⟩
/-- a, b = x, y -/
def rPar (i j : Nat) (t : RA) : RS := fun E ρ => t ρ fun ds => match ds with
  | [x, y] => E.nx ((ρ.set i (some (.d x))).set j (some (.d y)))
  | _ => False
theorem ds_par {i j : Nat} {x y : Str} {t : RA} {px py pt : Pos} {kt k2 pt2} (hc : X.calm = true) (hN : X.N.Nodup) (ha : DA X [a, b] t) (hi : X.N[i]? = some x := by rfl) (hj : X.N[j]? = some y := by rfl) (hij : i ≠ j := by decide)
    (hx : X.env.scope.names.lookup x = some .local := by rfl) (hy : X.env.scope.names.lookup y = some .local := by rfl)
    (hw : swappedStores [.Tuple [.Name x px, .Name y py] kt pt] (.Tuple [a, b] k2 pt2) X.env = pure (some [x, y]) := by rfl)
    (hs : swapsWithSole [.Tuple [.Name x px, .Name y py] kt pt] (.Tuple [a, b] k2 pt2) pos.line X.env = pure false := by rfl) :
    DS X (.Assign [.Tuple [.Name x px, .Name y py] kt pt] (.Tuple [a, b] k2 pt2) pos) (rPar i j t) :=
  PS.mono (ps_par hc hN hi hj hij hx hy ha hw hs) fun De σ H ⟨ρ, E, st, q, n, r, b, c⟩ => ⟨ρ, _, st, q, fun ds vs H1 hd s1 rr => by
    match ds, vs, rr, hd with
    | [x, y], _, .cons r1 (.cons r2 .nil), hd => exact ⟨_, _, rfl, n _ _ H1 hd (.of s1) (((st.ext s1).set_d r1).set_d r2)⟩
    | [], _, _, hd => exact hd.elim
    | [_], _, _, hd => exact hd.elim
    | _ :: _ :: _ :: _, _, _, hd => exact hd.elim⟩

/-! ### ghost freezing ahead of a statement -/
def fzAt (i : Nat) (ρ : En) : En := match ρ[i]? with
  | some (some (.own ds)) => ρ.set i (some (.d (.lst ds)))
  | _ => ρ
theorem ds_fz (i : Nat) (h : DS X st t) : DS X st (fun E ρ => t E (fzAt i ρ)) := by
  intro pins s σ H De I ⟨ρ, E, so, q, n, r, b, c⟩
  have q : t E (fzAt i ρ) := q
  unfold fzAt at q
  split at q
  · rename_i ds e
    obtain ⟨v, h1, p, vs, ev, hp, h0, rr⟩ := so.rel i _ e
    subst ev
    obtain ⟨o, I2⟩ := Inv.freeze I hp
    have kp : Keep H (upd H p (.frz o (.lst vs))) := ⟨fun b ys h => by rw [upd_ne (ne_of h hp (by intro z; cases z))]; exact h, fun b o u h => by rw [upd_ne (ne_of h hp (by intro z; cases z))]; exact h⟩
    have hi : i < ρ.length := (List.getElem?_eq_some_iff.mp e).1
    have so2 : StOk X (ρ.set i (some (.d (.lst ds)))) σ (upd H p (.frz o (.lst vs))) := by
      refine ⟨by simp [so.len], fun b u h => ?_, fun j x ej => ?_, fun j k xs ys a e1 e2 e3 e4 => ?_⟩
      · rw [upd_ne (by rintro rfl; rw [h0] at h; cases h)]; exact so.same b u h
      · by_cases hj : i = j
        · subst hj
          rw [List.getElem?_set_self hi] at ej
          cases ej
          exact ⟨.ref p, h1, .lst (.inl ⟨o, upd_same⟩) (rr.keep kp)⟩
        · rw [List.getElem?_set_ne hj] at ej
          obtain ⟨v, g1, g2⟩ := so.rel j x ej
          refine ⟨v, g1, ?_⟩
          cases x with
          | d x => exact Rep.keep kp g2
          | own zs =>
            obtain ⟨a, vs', e1, e2, e3, r'⟩ := g2
            refine ⟨a, vs', e1, ?_, e3, r'.keep kp⟩
            rw [upd_ne]
            · exact e2
            · rintro rfl
              subst e1
              exact hj (so.sep i j _ _ _ e ej h1 g1)
      · have back : ∀ {j : Nat} {zs : List D}, (ρ.set i (some (.d (.lst ds))))[j]? = some (some (.own zs)) → ρ[j]? = some (some (.own zs)) := fun {j zs} q => by
          by_cases hj : i = j
          · subst hj; rw [List.getElem?_set_self hi] at q; cases q
          · rw [List.getElem?_set_ne hj] at q; exact q
        exact so.sep j k _ _ a (back e1) (back e2) e3 e4
    exact h pins s σ _ De I2 ⟨_, E, so2, q, fun ρ2 σ2 H2 x k2 => n ρ2 σ2 H2 x (kp.trans k2), fun d v H2 x k2 => r d v H2 x (kp.trans k2), fun ρ2 σ2 H2 x k2 => b ρ2 σ2 H2 x (kp.trans k2), fun ρ2 σ2 H2 x k2 => c ρ2 σ2 H2 x (kp.trans k2)⟩
  · exact h pins s σ H De I ⟨ρ, E, so, q, n, r, b, c⟩

/-! ### while -/
def whileD (c : RT) (t : RS) : Nat → RS
  | 0, _, _ => False
  | n + 1, E, ρ => c ρ fun k => if k = true then t { E with nx := whileD c t n E, ct := whileD c t n E, bk := E.nx } ρ else E.nx ρ
def rWhile (c : RT) (t : RS) : RS := fun E ρ => ∃ n, whileD c t n E ρ
theorem ds_while {body : List Stmt} (hp : PassesOwn (model X.prog X.w) X.A X.env X.xe) (hc : DT X c tA) (hb : DSs X body t) : DS X (.While c body [] pos) (rWhile tA t) :=
  PS.mono (ps_while hp hc hb) fun De σ H ⟨ρ, E, st, ⟨m, q⟩, n, r, b, c⟩ => by
    refine ⟨fun m σ' H' => ∃ ρ', StOk X ρ' σ' H' ∧ Keep H H' ∧ whileD tA t m E ρ', ⟨m, ρ, st, Keep.refl H, q⟩, ?_⟩
    rintro m σ' H' ⟨ρ', st', kp, hw⟩
    cases m with
    | zero => exact hw.elim
    | succ m =>
      refine ⟨ρ', _, st', hw, fun k H1 hk s1 => ?_⟩
      have kp1 := kp.trans (.of s1)
      cases k with
      | true =>
        dsimp only at hk ⊢
        rw [if_pos rfl] at hk ⊢
        refine ⟨fun σ2 H2 => ∃ ρ2, StOk X ρ2 σ2 H2 ∧ Keep H H2 ∧ whileD tA t m E ρ2, fun σ2 H2 ⟨ρ2, a1, a2, a3⟩ => ⟨m, Nat.lt_succ_self m, ρ2, a1, a2, a3⟩, ?_⟩
        exact ⟨ρ', _, st'.ext s1, hk, fun ρ2 σ2 H2 x k2 s2 => ⟨ρ2, s2, kp1.trans k2, x⟩, fun d v H2 x k2 => r d v H2 x (kp1.trans k2), fun ρ2 σ2 H2 x k2 => n ρ2 σ2 H2 x (kp1.trans k2), fun ρ2 σ2 H2 x k2 s2 => ⟨ρ2, s2, kp1.trans k2, x⟩⟩
      | false =>
        dsimp only at hk ⊢
        rw [if_neg Bool.false_ne_true] at hk ⊢
        exact n ρ' σ' H1 hk kp1 (st'.ext s1)

/-! ### for -/
/-- an iterator that walks the items xs, whatever else is done -/
def ItOk (X : Cx) (J : It) (xs : List D) (H0 : Hp) : Prop := ∀ i H, Keep H0 H →
  (∀ d, xs[i]? = some d → J.go i H ∧ ∀ x H', J.yld i H x H' → Same H H' ∧ Rep X.K H' d x) ∧ (xs.length ≤ i → J.stop i H)
def liftI (X : Cx) (t : RA) : TI := fun σ H R => ∃ ρ P, StOk X ρ σ H ∧ t ρ P ∧ ∀ xs J H', P xs → Same H H' → ItOk X J xs H' → R J H'
def DI (X : Cx) (tg iter : Expr) (t : RA) : Prop := PI X tg iter (liftI X t)
theorem PI.mono {X : Cx} {tg e : Expr} {t t' : TI} (h : PI X tg e t) (m : ∀ σ H Q, t' σ H Q → t σ H Q) : PI X tg e t' := fun pins s σ H Q I q => h pins s σ H Q I (m σ H Q q)
def forD (g : RG) (t : RS) : List D → RS
  | [], E, ρ => E.nx ρ
  | x :: xs, E, ρ => g x ρ fun ρ1 => t { E with nx := forD g t xs E, ct := forD g t xs E, bk := E.nx } ρ1
def rFor (ti : RA) (g : RG) (t : RS) : RS := fun E ρ => ti ρ fun xs => forD g t xs E ρ
theorem ds_for {tg iter : Expr} {body : List Stmt} {ti : RA} {g : RG} (hp : PassesOwn (model X.prog X.w) X.A X.env X.xe) (hc : X.calm = true) (hi : DI X tg iter ti) (hg : DG X tg g) (hb : DSs X body t)
    (hs : ∀ x, foldedSetIterable iter X.env x = pure x := by intro _; rfl) : DS X (.For tg iter body [] pos) (rFor ti g t) :=
  PS.mono (ps_for hp hc hi hg hb hs) fun De σ H ⟨ρ, E, st, q, n, r, b, c⟩ => by
    refine ⟨ρ, _, st, q, fun xs J H1 hx s1 ok => ?_⟩
    refine ⟨fun i m σ' H' => m = xs.length - i ∧ i ≤ xs.length ∧ ∃ ρ', StOk X ρ' σ' H' ∧ Keep H1 H' ∧ forD g t (xs.drop i) E ρ', ⟨xs.length, by simp, Nat.zero_le _, ρ, st.ext s1, Keep.refl H1, by simpa using hx⟩, ?_⟩
    rintro i m σ' H' ⟨rfl, hi, ρ', st', kp, hf⟩
    obtain ⟨o1, o2⟩ := ok i H' kp
    have kp1 : Keep H H' := (Keep.of s1).trans kp
    by_cases hlt : i < xs.length
    · have e : xs.drop i = xs[i] :: xs.drop (i + 1) := List.drop_eq_getElem_cons hlt
      rw [e] at hf
      obtain ⟨go, yl⟩ := o1 xs[i] (List.getElem?_eq_getElem hlt)
      refine .inr ⟨go, fun σ2 H2 => ∃ ρ2, StOk X ρ2 σ2 H2 ∧ Keep H1 H2 ∧ forD g t (xs.drop (i + 1)) E ρ2, fun σ2 H2 hh => ⟨xs.length - (i + 1), by omega, rfl, hlt, hh⟩, fun x H2 y => ?_⟩
      obtain ⟨s2, rx⟩ := yl x H2 y
      refine ⟨xs[i], ρ', _, rx, st'.ext s2, hf, fun ρ3 σ3 H3 h3 k3 s3 => ?_⟩
      have k13 : Keep H1 H3 := (kp.trans (.of s2)).trans k3
      have k03 : Keep H H3 := (kp1.trans (.of s2)).trans k3
      exact ⟨ρ3, _, s3, h3, fun ρ4 σ4 H4 x4 k4 s4 => ⟨ρ4, s4, k13.trans k4, x4⟩, fun d v H4 x4 k4 => r d v H4 x4 (k03.trans k4), fun ρ4 σ4 H4 x4 k4 => n ρ4 σ4 H4 x4 (k03.trans k4), fun ρ4 σ4 H4 x4 k4 s4 => ⟨ρ4, s4, k13.trans k4, x4⟩⟩
    · have e : i = xs.length := by omega
      subst e
      rw [List.drop_length] at hf
      exact .inl ⟨o2 (Nat.le_refl _), n ρ' σ' H' hf kp1 st'⟩
end

/-! ## what is walked -/
section
variable {X : Cx} {tg e : Expr} {te : RE} {pos p : Pos}
def riL (te : RE) : RA := fun ρ Q => te ρ fun d => match d with
  | .lst ds => Q ds
  | _ => False
theorem di_list (h : DE X e te) : DI X tg e (riL te) := by
  refine PI.mono (pi_list h) fun σ H R ⟨ρ, P, st, q, k⟩ => ⟨ρ, _, st, q, fun d v H1 hd s1 r => ?_⟩
  cases d with
  | lst ds =>
    cases r with
    | @lst a vs _ hz r =>
      refine ⟨a, rfl, ⟨vs, hz.sq⟩, k ds _ H1 hd s1 fun i H2 kp => ⟨fun d e => ?_, fun hl => ⟨vs, (hz.keep kp).sq, by rw [← r.length]; exact hl⟩⟩⟩
      obtain ⟨v, h1, h2⟩ := (r.keep kp).get e
      refine ⟨⟨vs, v, (hz.keep kp).sq, h1⟩, fun x H' y => ?_⟩
      obtain ⟨e1, e2⟩ := y
      subst e1
      have e3 := e2 vs (hz.keep kp).sq
      rw [h1] at e3; cases e3
      exact ⟨Same.refl _, h2⟩
  | _ => exact hd.elim
def riT (te : RE) : RA := fun ρ Q => te ρ fun d => match d with
  | .tup ds => Q ds
  | _ => False
theorem di_tup (h : DE X e te) : DI X tg e (riT te) := by
  refine PI.mono (pi_tup h) fun σ H R ⟨ρ, P, st, q, k⟩ => ⟨ρ, _, st, q, fun d v H1 hd s1 r => ?_⟩
  cases d with
  | tup ds =>
    cases r with
    | @tup a vs _ hz r =>
      refine ⟨a, rfl, ⟨vs, SqT.of hz⟩, k ds _ H1 hd s1 fun i H2 kp => ⟨fun d e => ?_, fun hl => ⟨vs, SqT.of (kp.tups _ _ hz), by rw [← r.length]; exact hl⟩⟩⟩
      obtain ⟨v, h1, h2⟩ := (r.keep kp).get e
      refine ⟨⟨vs, v, SqT.of (kp.tups _ _ hz), h1⟩, fun x H' y => ?_⟩
      obtain ⟨e1, e2⟩ := y
      subst e1
      have e3 := e2 vs (SqT.of (kp.tups _ _ hz))
      rw [h1] at e3; cases e3
      exact ⟨Same.refl _, h2⟩
  | _ => exact hd.elim
/-- lo, lo + 1, .. -/
def rangeD (lo : Int) (n : Nat) : List D := (List.range n).map fun k : Nat => D.int (lo + (k : Int))
theorem itr_ok {H0 : Hp} (lo : Int) (n : Nat) : ItOk X (Itr lo n) (rangeD lo n) H0 := fun i H kp => by
  refine ⟨fun d e => ?_, fun hl => by show n ≤ i; simpa [rangeD] using hl⟩
  unfold rangeD at e
  rw [List.getElem?_map] at e
  by_cases hi : i < n
  · rw [List.getElem?_range hi] at e
    cases e
    exact ⟨hi, fun x H' y => by obtain ⟨rfl, rfl⟩ := y; exact ⟨Same.refl _, .int _⟩⟩
  · rw [List.getElem?_eq_none (by simpa using hi)] at e; cases e
structure RngOk (j : Int) : Prop where
  lo : -(2 ^ 62) ≤ j
  hi : j < 2 ^ 62
def riR1 (t : RA) : RA := fun ρ Q => t ρ fun ds => match ds with
  | [.int j] => RngOk j ∧ Q (rangeD 0 j.toNat)
  | _ => False
def riR2 (t : RA) : RA := fun ρ Q => t ρ fun ds => match ds with
  | [.int i, .int j] => (RngOk i ∧ RngOk j) ∧ Q (rangeD i (j - i).toNat)
  | _ => False
theorem di_range1 {a : Expr} {t : RA} (hm : X.mg "range" = none) (ha : DA X [a] t) (hg : Gl X "range" := by rfl) (hs : starEach [a] X.env = [(false, eval a X.env)] := by rfl) : DI X tg (.Call (.Name "range" p) [a] [] pos) (riR1 t) := by
  refine PI.mono (pi_range1 hg hm ha hs) fun σ H R ⟨ρ, P, st, q, k⟩ => ⟨ρ, _, st, q, fun ds vs H1 hd s1 r => ?_⟩
  match ds, vs, r, hd with
  | [.int j], _, .cons r1 .nil, hd =>
    rw [r1.int_inv]
    exact ⟨j, rfl, hd.1.lo, hd.1.hi, k _ _ H1 hd.2 s1 (itr_ok 0 _)⟩
end

/-! ## calls of the text's own defs -/
/-- what a def is worth, over plain data -/
abbrev FD := List D → (D → Prop) → Prop
def spD (K : PySem.W.Frag) (F : FD) : Sp := fun vs H Q _ => ∃ ds P, Reps K H ds vs ∧ F ds P ∧ ∀ d v H', P d → Same H H' → Rep K H' d v → Q v H'
def rCall (F : FD) (t : RA) : RE := fun ρ Q => t ρ fun ds => F ds Q
section
variable {X : Cx} {k : Nat} {f : Addr} {fd : FuncData} {ps : List Str} {F : FD} {x : Str} {p pos : Pos} {e : Expr} {es : List Expr} {t : RA}
theorem de_call (G : FnOk X.prog X.w X.K X.mg X.base CX0 k f fd ps (spD X.K F)) (hr : Room k X.A) (hm : X.mg x = some (.ref f)) (hk : PySem.W.keepIn X.K (.ref f) = true) (hb : Binds X.K fd ps []) (ha : DA X (e :: es) t) (hg : Gl X x := by rfl)
    (hdb : (x == ("__debug__" : Str)) = false := by decide) (he : starEach (e :: es) X.env = (false, eval e X.env) :: starEach es X.env := by rfl) (hpl : (backTo pos (starEach es X.env)).any (·.1) = false := by rfl) :
    DE X (.Call (.Name x p) (e :: es) [] pos) (rCall F t) :=
  PE.mono (pe_call (E := E0) G hr hg hm hk hb .nil pass0 ha hdb he hpl) fun σ H Q ⟨ρ, P, st, q, kk⟩ => ⟨ρ, _, st, q, fun ds vs H1 hd s1 r => by
    show spD X.K F (vs ++ []) H1 Q E0
    rw [List.append_nil]
    exact ⟨ds, P, r, hd, fun d v H2 hp s2 r2 => kk d v H2 hp (s1.trans s2) r2⟩⟩
end
/-- the names at the entry -/
def startD (N : List Str) (ds : List D) : En := ds.map (fun d => some (.d d)) ++ List.replicate (N.length - ds.length) none
section
variable {P : Program} {w : World} {K : PySem.W.Frag} {mg : Str → Option Value} {base : Heap}
theorem start_ok {X : Cx} {N : List Str} {ds : List D} {vs : List V} (r : Reps X.K X.H₀ ds vs) : StOk X (startD N ds) (start N vs) X.H₀ := by
  have hl := r.length
  have own : ∀ (i : Nat) (xs : List D), (startD N ds)[i]? ≠ some (some (S.own xs)) := fun i xs e => by
    unfold startD at e
    by_cases hi : i < ds.length
    · rw [List.getElem?_append_left (by simpa using hi), List.getElem?_map, List.getElem?_eq_getElem hi] at e
      cases e
    · rw [List.getElem?_append_right (by simpa using hi), List.getElem?_replicate] at e
      split at e <;> cases e
  refine ⟨by simp [startD, start, hl], Same.refl _, fun i x e => ?_, fun i j xs ys a e1 _ _ _ => absurd e1 (own i xs)⟩
  unfold startD at e
  by_cases hi : i < ds.length
  · rw [List.getElem?_append_left (by simpa using hi), List.getElem?_map, List.getElem?_eq_getElem hi] at e
    cases e
    obtain ⟨v, h1, h2⟩ := r.get (List.getElem?_eq_getElem hi)
    refine ⟨v, ?_, h2⟩
    unfold start
    rw [List.getElem?_append_left (by simpa [← hl] using hi), List.getElem?_map, h1]; rfl
  · rw [List.getElem?_append_right (by simpa using hi), List.getElem?_replicate] at e
    split at e <;> cases e
/-- THE RULE for a def: its body's reading, and the pure fact that F is met by it -/
theorem fn_ok {x qual : Str} {st : Stmt} {f : Addr} {fd : FuncData} {N ps : List Str} {k : Nat} {F : FD} {t : RS} (Fu : Fun K x qual st f fd) (Sc : FnScope N ps (defScope st))
    (hbody : ∀ (cdv : Value) (A : Around) (outer : List Env) (s : Shared) (H : Hp) (E : XK), Room k (A.deeper (envOfC qual (defScope st) s.heap.objs.size f cdv)) →
      DSs (cxOf CX0 P w K mg base N qual (defScope st) f cdv A outer s H E).nox (defBody st) t)
    (len : ∀ ds Q, F ds Q → ds.length = ps.length) (pure : ∀ ds Q, F ds Q → t { nx := fun _ => Q .non, rt := Q } (startD N ds)) : FnOk P w K mg base CX0 (k + 1) f fd ps (spD K F) := by
  refine Fu.ok Sc (fun vs H Q E ⟨ds, P, r, h, _⟩ => by rw [← r.length]; exact len ds P h) fun cdv A outer s H vs Q E hr ⟨ds, P', r, h, kk⟩ => ⟨_, hbody cdv A outer s H E hr, ?_⟩
  exact ⟨startD N ds, _, start_ok (X := (cxOf CX0 P w K mg base N qual (defScope st) f cdv A outer s H E).nox) r, pure ds P' h, fun ρ' σ' H' hq k s' => kk .non .non H' hq s'.same .non, fun d v H' hq k sm rv => kk d v H' hq sm rv, fun _ _ _ z => z.elim, fun _ _ _ z => z.elim⟩
end
end L2.R2

set_option Elab.async false
set_option linter.all false
set_option maxRecDepth 100000
namespace L2.R2
open PySem PySem.Spec PyProof.Rows L2

/-! ## sizes of ints -/
def BL (n : Nat) (i : Int) : Prop := i.natAbs < 2 ^ n
theorem BL.bits {n : Nat} {i : Int} (h : BL n i) : Builtin.Int.intBits i ≤ n := intBits_le_iff.mpr h
theorem BL.of {n : Nat} {i : Int} (h : Builtin.Int.intBits i ≤ n) : BL n i := intBits_le_iff.mp h
theorem BL.mono {m n : Nat} {i : Int} (h : BL m i) (l : m ≤ n) : BL n i := BL.of (Nat.le_trans h.bits l)
theorem BL.add {m n : Nat} {i j : Int} (a : BL m i) (b : BL n j) : BL (max m n + 1) (i + j) := BL.of (intBits_add_le a.bits b.bits)
theorem BL.sub {m n : Nat} {i j : Int} (a : BL m i) (b : BL n j) : BL (max m n + 1) (i - j) := BL.of (intBits_sub_le a.bits b.bits)
theorem BL.mul {m n : Nat} {i j : Int} (a : BL m i) (b : BL n j) : BL (m + n) (i * j) := BL.of (intBits_mul_le a.bits b.bits)
theorem BL.neg {m : Nat} {i : Int} (a : BL m i) : BL m (-i) := BL.of (intBits_neg_le a.bits)
theorem BL.fdiv {m : Nat} {i j : Int} (a : BL m i) : BL m (i.fdiv j) := BL.of (intBits_fdiv_le a.bits)
theorem BL.le {m : Nat} {i j : Int} (a : BL m j) (h : i.natAbs ≤ j.natAbs) : BL m i := Nat.lt_of_le_of_lt h a
theorem BL.of_lt {m : Nat} {i : Int} (h1 : -(2 ^ m : Nat) < i) (h2 : i < (2 ^ m : Nat)) : BL m i := by unfold BL; omega
theorem BL.intMulOk {m n : Nat} {i j : Int} (a : BL m i) (b : BL n j) (h : m + n ≤ 134217728) : IntMulOk i j := IntMulOk.of_le a.bits b.bits h
theorem BL.noPy {i j : Int} (h : BL 9000 j) : Builtin.divisionGoesByPylong i j = false := by
  refine PyProof.noPylong_of_log2 ?_
  by_cases h0 : j.natAbs = 0
  · rw [h0]; decide +kernel
  · exact (Nat.log2_lt h0).mpr h

section
variable {X : Cx} {e a b c : Expr} {pos : Pos}
theorem RepB.int_inv {K : PySem.W.Frag} {H : Hp} {i : Int} {v : V} (h : RepB K H (.int i) v) : v = .int i := by
  rcases h with h | ⟨ds, a, vs, e1, _⟩
  · exact h.int_inv
  · cases e1
theorem RepB.bl_inv {K : PySem.W.Frag} {H : Hp} {i : Bool} {v : V} (h : RepB K H (.bl i) v) : v = .bl i := by
  rcases h with h | ⟨ds, a, vs, e1, _⟩
  · exact h.bl_inv
  · cases e1
/-! ## ints -/
structure MulOk (i j : Int) : Prop where
  ok : IntMulOk i j
structure DivOk (i j : Int) : Prop where
  nz : j ≠ 0
  np : Builtin.divisionGoesByPylong i j = false
structure ModOk (j : Int) : Prop where
  nz : j ≠ 0
structure PowOk (i j : Int) : Prop where
  ok : 0 ≤ j ∧ j ≤ 1000000 ∧ i.natAbs < 2 ^ 64
theorem BL.mulOk {m n : Nat} {i j : Int} (a : BL m i) (b : BL n j) (h : m + n ≤ 134217728 := by decide) : MulOk i j := ⟨a.intMulOk b h⟩
theorem BL.divOk {i j : Int} (h : BL 9000 j) (nz : j ≠ 0) : DivOk i j := ⟨nz, h.noPy⟩
def dAdd : R22 := fun x y Q => match x, y with
  | .int i, .int j => Q (.int (i + j))
  | _, _ => False
def dSub : R22 := fun x y Q => match x, y with
  | .int i, .int j => Q (.int (i - j))
  | _, _ => False
def dMul : R22 := fun x y Q => match x, y with
  | .int i, .int j => MulOk i j ∧ Q (.int (i * j))
  | _, _ => False
def dFdiv : R22 := fun x y Q => match x, y with
  | .int i, .int j => DivOk i j ∧ Q (.int (i.fdiv j))
  | _, _ => False
def dMod : R22 := fun x y Q => match x, y with
  | .int i, .int j => ModOk j ∧ Q (.int (i.fmod j))
  | _, _ => False
def dPow : R22 := fun x y Q => match x, y with
  | .int i, .int j => PowOk i j ∧ Q (.int (i ^ j.toNat))
  | _, _ => False
theorem opIn {f : Value → Value → Sem Value} {C : Int → Int → Prop} {g : Int → Int → Int} {r : R22} (h : OpR X f (rI C fun i j => .int (g i j)))
    (hr : ∀ x y Q, r x y Q → ∃ i j, x = .int i ∧ y = .int j ∧ C i j ∧ Q (.int (g i j))) : OpD X f r := by
  intro pins s σ H x y v u Q I rx ry ⟨d, e, P, r1, r2, q, k⟩
  obtain ⟨i, j, rfl, rfl, hc, q⟩ := hr _ _ _ q
  exact h pins s σ H x y v u Q I rx ry ⟨i, j, r1.int_inv, r2.int_inv, hc, k _ _ H q (Same.refl H) (.int _)⟩
theorem od_add : OpD X (binaryOp .Add) dAdd := opIn (C := fun _ _ => True) (g := fun i j => i + j) (opI fun _ _ _ _ _ _ _ _ q => add_int q) fun x y Q q => by
  unfold dAdd at q; split at q
  · exact ⟨_, _, rfl, rfl, trivial, q⟩
  · exact q.elim
theorem od_sub : OpD X (binaryOp .Sub) dSub := opIn (C := fun _ _ => True) (g := fun i j => i - j) (opI fun _ _ _ _ _ _ _ _ q => sub_int q) fun x y Q q => by
  unfold dSub at q; split at q
  · exact ⟨_, _, rfl, rfl, trivial, q⟩
  · exact q.elim
theorem od_mul : OpD X (binaryOp .Mult) dMul := opIn (C := fun i j => IntMulOk i j) (g := fun i j => i * j) (opI fun _ _ _ _ _ _ _ hc q => mul_int q hc) fun x y Q q => by
  unfold dMul at q; split at q
  · exact ⟨_, _, rfl, rfl, q.1.ok, q.2⟩
  · exact q.elim
theorem od_fdiv : OpD X (binaryOp .FloorDiv) dFdiv := opIn (C := fun i j => j ≠ 0 ∧ Builtin.divisionGoesByPylong i j = false) (g := fun i j => i.fdiv j) (opI fun _ _ _ _ _ _ _ hc q => floordiv_int hc.1 q (.inl hc.2)) fun x y Q q => by
  unfold dFdiv at q; split at q
  · exact ⟨_, _, rfl, rfl, ⟨q.1.nz, q.1.np⟩, q.2⟩
  · exact q.elim
theorem od_mod : OpD X (binaryOp .Mod) dMod := opIn (C := fun _ j => j ≠ 0) (g := fun i j => i.fmod j) (opI fun _ _ _ _ _ _ _ hc q => mod_int' hc q) fun x y Q q => by
  unfold dMod at q; split at q
  · exact ⟨_, _, rfl, rfl, q.1.nz, q.2⟩
  · exact q.elim
theorem od_pow : OpD X (binaryOp .Pow) dPow := opIn (C := fun i j => 0 ≤ j ∧ j ≤ 1000000 ∧ i.natAbs < 2 ^ 64) (g := fun i j => i ^ j.toNat) (opI fun _ _ _ _ _ _ _ hc q => pow_int_small hc.1 hc.2.1 hc.2.2 q) fun x y Q q => by
  unfold dPow at q; split at q
  · exact ⟨_, _, rfl, rfl, q.1.ok, q.2⟩
  · exact q.elim
def dNeg : D → (D → Prop) → Prop := fun x Q => match x with
  | .int i => Q (.int (-i))
  | _ => False
theorem ud_neg : UnD X (unaryOp .USub) dNeg := by
  intro pins s σ H x v Q I rx ⟨d, P, r, q, k⟩
  unfold dNeg at q; split at q
  · rename_i i
    exact un_neg pins s σ H x v Q I rx ⟨i, r.int_inv, k _ _ H q (Same.refl H) (.int _)⟩
  · exact q.elim

/-! ## comparisons -/
def dCmp (p : Int → Int → Bool) : R22 := fun x y Q => match x, y with
  | .int i, .int j => Q (.bl (p i j))
  | _, _ => False
theorem opCm {f : Value → Value → Sem Value} {p : Int → Int → Bool} (h : OpR X f (rI0 fun i j => .bl (p i j))) : OpD X f (dCmp p) := by
  intro pins s σ H x y v u Q I rx ry ⟨d, e, P, r1, r2, q, k⟩
  unfold dCmp at q; split at q
  · rename_i i j
    exact h pins s σ H x y v u Q I rx ry ⟨i, j, r1.int_inv, r2.int_inv, k _ _ H q (Same.refl H) (.bl _)⟩
  · exact q.elim
theorem od_lt : OpD X (compareOp .Lt) (dCmp fun i j => decide (i < j)) := opCm op_lt
theorem od_le : OpD X (compareOp .LtE) (dCmp fun i j => decide (i ≤ j)) := opCm op_le
theorem od_gt : OpD X (compareOp .Gt) (dCmp fun i j => decide (j < i)) := opCm op_gt
/-- == and != of ints, of bools -/
def dEqS (neg : Bool) : R22 := fun x y Q => match x, y with
  | .int i, .int j => Q (.bl (if neg then !decide (i = j) else decide (i = j)))
  | .bl i, .bl j => Q (.bl (if neg then !decide (i = j) else decide (i = j)))
  | _, _ => False
theorem od_eqS : OpD X (compareOp .Eq) (dEqS false) := by
  intro pins s σ H x y v u Q I rx ry ⟨d, e, P, r1, r2, q, k⟩
  unfold dEqS at q; split at q
  · rename_i i j
    rw [r1.int_inv] at rx; rw [r2.int_inv] at ry
    exact op_eq pins s σ H _ _ v u Q I rx ry ⟨rfl, by
      have e : decide (V.int i = V.int j) = decide (i = j) := by simp
      rw [e]; exact k _ _ H q (Same.refl H) (.bl _)⟩
  · rename_i i j
    rw [r1.bl_inv] at rx; rw [r2.bl_inv] at ry
    exact op_eq pins s σ H _ _ v u Q I rx ry ⟨rfl, by
      have e : decide (V.bl i = V.bl j) = decide (i = j) := by simp
      rw [e]; exact k _ _ H q (Same.refl H) (.bl _)⟩
  · exact q.elim
theorem od_neS : OpD X (compareOp .NotEq) (dEqS true) := by
  intro pins s σ H x y v u Q I rx ry ⟨d, e, P, r1, r2, q, k⟩
  unfold dEqS at q; split at q
  · rename_i i j
    rw [r1.int_inv] at rx; rw [r2.int_inv] at ry
    exact op_ne pins s σ H _ _ v u Q I rx ry ⟨rfl, by
      have e : decide (V.int i = V.int j) = decide (i = j) := by simp
      rw [e]; exact k _ _ H q (Same.refl H) (.bl _)⟩
  · rename_i i j
    rw [r1.bl_inv] at rx; rw [r2.bl_inv] at ry
    exact op_ne pins s σ H _ _ v u Q I rx ry ⟨rfl, by
      have e : decide (V.bl i = V.bl j) = decide (i = j) := by simp
      rw [e]; exact k _ _ H q (Same.refl H) (.bl _)⟩
  · exact q.elim
/-- x is None, x is not None -/
def isNon : D → Bool
  | .non => true
  | _ => false
def dIsN (neg : Bool) : R22 := fun x y Q => match y with
  | .non => Q (.bl (if neg then !isNon x else isNon x))
  | _ => False
/-! ## places and slices -/
def dIx : R22 := fun x y Q => match x, y with
  | .lst ds, .int i => match atI ds i with
    | some d => Q d
    | none => False
  | .tup ds, .int i => match atI ds i with
    | some d => Q d
    | none => False
  | _, _ => False
theorem atI_reps {K : PySem.W.Frag} {H : Hp} {ds : List D} {vs : List V} {i : Int} {d : D} (r : Reps K H ds vs) (h : atI ds i = some d) : ∃ v, atI vs i = some v ∧ Rep K H d v := by
  unfold atI at h ⊢
  rw [← r.length]
  cases e : ixN ds.length i with
  | none => rw [e] at h; cases h
  | some j =>
    rw [e] at h
    exact r.get h
theorem de_ix {ta tb : RE} (ha : DB X a ta) (hb : DB X b tb) (hs : PlainIx b := by intro _ _; rfl) : DE X (.Subscript a b pos) (r2 dIx ta tb) := by
  refine PE.mono (pe_ix (ix_list.or ix_tup) ha hb hs) fun σ H Q h => ?_
  obtain ⟨ρ, P, st, ht, hP⟩ := h
  refine ⟨ρ, _, st, ht, fun x v H1 h1 s1 r1 => ⟨ρ, _, st.ext s1, h1, fun y u H2 h2 s2 r2 => ?_⟩⟩
  have r1' := r1.same s2
  unfold dIx at h2; split at h2
  · rename_i ds i
    split at h2
    · rename_i d e
      obtain ⟨p, vs, rfl, hq, rr⟩ := r1'.lst
      obtain ⟨w', e', rw'⟩ := atI_reps rr e
      exact .inl ⟨p, vs, i, w', rfl, r2.int_inv, hq, e', hP d w' H2 h2 (s1.trans s2) rw'⟩
    · exact h2.elim
  · rename_i ds i
    split at h2
    · rename_i d e
      obtain ⟨p, vs, rfl, hq, rr⟩ := r1'.tup
      obtain ⟨w', e', rw'⟩ := atI_reps rr e
      exact .inr ⟨p, vs, i, w', rfl, r2.int_inv, SqT.of hq, e', hP d w' H2 h2 (s1.trans s2) rw'⟩
    · exact h2.elim
  · exact h2.elim
/-- the part of a slice: left out, or an int -/
abbrev RO := En → (Option Int → Prop) → Prop
def liftP (X : Cx) (t : RO) : TO := fun σ H Q => ∃ ρ P, StOk X ρ σ H ∧ t ρ P ∧ ∀ o H', P o → Same H H' → Q o H'
def DP (X : Cx) (e : Option Expr) (t : RO) : Prop := PO X e (liftP X t)
def rNoPart : RO := fun _ Q => Q none
def rPart (t : RE) : RO := fun ρ Q => t ρ fun d => match d with
  | .int i => Q (some i)
  | _ => False
theorem dp_none : DP X none rNoPart := fun pins s σ H Q I ⟨ρ, P, st, q, k⟩ => po_none pins s σ H Q I (k none H q (Same.refl H))
theorem dp_some {t : RE} (h : DE X e t) : DP X (some e) (rPart t) := fun pins s σ H Q I ⟨ρ, P, st, q, k⟩ => po_some h pins s σ H Q I ⟨ρ, _, st, q, fun d v H1 hd s1 r => by
  cases d with
  | int i => exact ⟨i, r.int_inv, k (some i) H1 hd s1⟩
  | _ => exact hd.elim⟩
def cutD (xs : List D) (lo hi : Option Int) : List D := (xs.drop (HT.sIx xs.length 0 lo)).take (HT.sIx xs.length xs.length hi - HT.sIx xs.length 0 lo)
def rSlL' (te : RE) (tl th : RO) : RA := fun ρ Q => te ρ fun x => tl ρ fun l => th ρ fun u => match x with
  | .lst ds => Q (cutD ds l u)
  | _ => False
/-! ## built-in calls -/
def liftCB (X : Cx) (r : List D → (D → Prop) → Prop) : List V → Hp → VK → Prop := fun xs H Q => ∃ ds P, Reps X.K H ds xs ∧ r ds P ∧ ∀ z v H', P z → Same H H' → Rep X.K H' z v → Q v H'
def CallD (X : Cx) (f : Value) (r : List D → (D → Prop) → Prop) : Prop := CallR X f (liftCB X r)
def rCB (r : List D → (D → Prop) → Prop) (t : RA) : RE := fun ρ Q => t ρ fun ds => r ds Q
variable {x : Str} {p : Pos} {es : List Expr} {t : RA} {id T : String} {r : List D → (D → Prop) → Prop}
theorem de_callB (hc : CallD X (.builtin id) r) (hm : X.mg x = none) (hv : bootBuiltins x = some (.builtin id)) (ha : DA X (e :: es) t) (hg : Gl X x := by rfl) (hn : x ≠ "__name__" := by decide) (hdb : (x == ("__debug__" : Str)) = false := by decide)
    (he : starEach (e :: es) X.env = (false, eval e X.env) :: starEach es X.env := by rfl) (hpl : (backTo pos (starEach es X.env)).any (·.1) = false := by rfl) : DE X (.Call (.Name x p) (e :: es) [] pos) (rCB r t) :=
  PE.mono (pe_callB hc hg hm hv ha hn hdb he hpl) fun σ H Q ⟨ρ, P, st, q, k⟩ => ⟨ρ, _, st, q, fun ds vs H1 hd s1 rr => ⟨ds, P, rr, hd, fun z v H2 hz s2 r2 => k z v H2 hz (s1.trans s2) r2⟩⟩
def dAbs : List D → (D → Prop) → Prop := fun ds Q => match ds with
  | [.int i] => Q (.int (if i < 0 then -i else i))
  | _ => False
theorem cd_abs : CallD X (.builtin "abs") dAbs := by
  intro pins s σ H xs us Q I rv ⟨ds, P, r, q, k⟩
  unfold dAbs at q; split at q
  · rename_i i
    cases r with
    | cons r1 r2 =>
      cases r2
      rw [r1.int_inv] at rv
      exact call_abs pins s σ H _ us Q I rv ⟨i, rfl, k _ _ H q (Same.refl H) (.int _)⟩
  · exact q.elim
def dInt : List D → (D → Prop) → Prop := fun ds Q => match ds with
  | [.bl b] => Q (.int (if b then 1 else 0))
  | [.int i] => Q (.int i)
  | _ => False
def dMax2 : List D → (D → Prop) → Prop := fun ds Q => match ds with
  | [.int i, .int j] => Q (.int (if j > i then j else i))
  | _ => False
def dMin2 : List D → (D → Prop) → Prop := fun ds Q => match ds with
  | [.int i, .int j] => Q (.int (if j < i then j else i))
  | _ => False
theorem cd_max2 (hc : X.calm = true := by rfl) : CallD X (.builtin "max") dMax2 := by
  intro pins s σ H xs us Q I rv ⟨ds, P, r, q, k⟩
  unfold dMax2 at q; split at q
  · rename_i i j
    match xs, r with
    | _, .cons r1 (.cons r2 .nil) =>
      rw [r1.int_inv, r2.int_inv] at rv
      exact call_max2 hc pins s σ H _ us Q I rv ⟨i, j, rfl, k _ _ H q (Same.refl H) (.int _)⟩
  · exact q.elim
theorem cd_min2 (hc : X.calm = true := by rfl) : CallD X (.builtin "min") dMin2 := by
  intro pins s σ H xs us Q I rv ⟨ds, P, r, q, k⟩
  unfold dMin2 at q; split at q
  · rename_i i j
    match xs, r with
    | _, .cons r1 (.cons r2 .nil) =>
      rw [r1.int_inv, r2.int_inv] at rv
      exact call_min2 hc pins s σ H _ us Q I rv ⟨i, j, rfl, k _ _ H q (Same.refl H) (.int _)⟩
  · exact q.elim
/-- len(x), x borrowed -/
def dLen : D → (D → Prop) → Prop := fun d Q => match d with
  | .lst ds => Q (.int ds.length)
  | .tup ds => Q (.int ds.length)
  | _ => False
theorem pa_one {t : TE} (h : PE X e t) (hs : starEach [e] X.env = [(false, eval e X.env)] := by rfl) (hn : starEach [] X.env = [] := by rfl) : PA X [e] (fun σ H Q => t σ H fun v H' => Q [v] H') :=
  PA.mono (pa_cons h pa_nil (by rw [hs, hn])) fun σ H Q q => q
theorem de_len {te : RE} (hm : X.mg "len" = none) (h : DB X e te) (hg : Gl X "len" := by rfl) (hs : starEach [e] X.env = [(false, eval e X.env)] := by rfl) (hn : starEach [] X.env = [] := by rfl) : DE X (.Call (.Name "len" p) [e] [] pos) (r1 dLen te) := by
  refine PE.mono (pe_callB call_len_seq hg hm PySem.boot_len (pa_one h hs hn) (by decide) (by decide) (by rw [hs, hn]) (by rw [hn]; rfl)) fun σ H Q ⟨ρ, P, st, q, k⟩ => ⟨ρ, _, st, q, fun d v H1 hd s1 r => ?_⟩
  unfold dLen at hd; split at hd
  · obtain ⟨p, vs, rfl, hq, rr⟩ := r.lst
    exact ⟨p, vs, rfl, .inl hq, by rw [← rr.length]; exact k _ _ H1 hd s1 (.int _)⟩
  · obtain ⟨p, vs, rfl, hq, rr⟩ := r.tup
    exact ⟨p, vs, rfl, .inr (SqT.of hq), by rw [← rr.length]; exact k _ _ H1 hd s1 (.int _)⟩
  · exact hd.elim
end
end L2.R2

set_option Elab.async false
set_option linter.all false
set_option maxRecDepth 100000
namespace L2.R2
open PySem PySem.Spec PyProof.Rows L2

/-! ## walks that hand out pairs -/
section
variable {X : Cx} {pins : List (Addr × Obj)} {σ : St} {H : Hp} {s : Shared} {h' : Heap}
end
def enumD (ds : List D) : List D := ds.zipIdx.map fun p => D.tup [.int (p.2 : Int), p.1]
section
variable {X : Cx} {e : Expr} {te : RE} {pos p : Pos} {elts : List Expr} {k : Nat} {tp : Pos}
def riEn (te : RE) : RA := fun ρ Q => te ρ fun d => match d with
  | .lst ds => Q (enumD ds)
  | _ => False
end

/-! ## isinstance -/
def isiD (T : String) : D → Option Bool
  | .non => some (T == "NoneType")
  | .bl _ => some (T == "bool" || T == "int")
  | .int _ => some (T == "int")
  | .str _ => some (T == "str")
  | .tup _ => some (T == "tuple")
  | .lst _ => none
def dIsi (T : String) : D → (D → Prop) → Prop := fun d Q => match isiD T d with
  | some b => Q (.bl b)
  | none => False
/-- what the table says of the built-in types -/
structure TyTab (K : PySem.W.Frag) (T : String) : Prop where
  non : PySem.W.kitOne K (.type "NoneType") (.type T) = some (T == "NoneType")
  bl : PySem.W.kitOne K (.type "bool") (.type T) = some (T == "bool" || T == "int")
  int : PySem.W.kitOne K (.type "int") (.type T) = some (T == "int")
  str : PySem.W.kitOne K (.type "str") (.type T) = some (T == "str")
  tup : PySem.W.kitOne K (.type "tuple") (.type T) = some (T == "tuple")
section
variable {X : Cx} {e : Expr} {te : RE} {pos p p2 : Pos} {T : String} {x : Str}
theorem de_isi (tab : TyTab X.K T) (hm : X.mg "isinstance" = none) (hT : X.mg x = none) (hb : bootBuiltins x = some (.type T)) (h : DE X e te) (hg : Gl X "isinstance" := by rfl) (hgT : Gl X x := by rfl) (hn : x ≠ "__name__" := by decide) (hd : (x == ("__debug__" : Str)) = false := by decide)
    (hs : starEach [e, .Name x p2] X.env = (false, eval e X.env) :: starEach [.Name x p2] X.env := by rfl) (hs2 : starEach [.Name x p2] X.env = (false, eval (.Name x p2) X.env) :: starEach [] X.env := by rfl) (hpl : (backTo pos (starEach [.Name x p2] X.env)).any (·.1) = false := by rfl) :
    DE X (.Call (.Name "isinstance" p) [e, .Name x p2] [] pos) (r1 (dIsi T) te) := by
  have hc : CallR X (.builtin "isinstance") (fun xs H Q => ∃ d v P, xs = [v, .ty T] ∧ Rep X.K H d v ∧ dIsi T d P ∧ ∀ b, P (.bl b) → Q (.bl b) H) := by
    intro pins s σ H xs us Q I r ⟨d, v, P, ex, rd, q, k⟩
    subst ex
    obtain ⟨u, w', rfl, r1, r2⟩ := vals2 r
    cases r2
    unfold dIsi at q
    split at q
    · rename_i b eb
      have fin : ∀ {t : Value}, TyOf X.K H v t → PySem.W.kitOne X.K t (.type T) = some b → wpAny (model X.prog X.w) X.A (call (.builtin "isinstance") [u, .type T]) (EP X pins σ Q) X.xe s := fun ty e => isinst_ok I r1 ty e fun tk => ⟨.bl b, H, I.tok tk, rfl, k b q⟩
      cases rd with
      | non => cases eb; exact fin .non tab.non
      | bl _ => cases eb; exact fin (.bl _) tab.bl
      | int _ => cases eb; exact fin (.int _) tab.int
      | str _ => cases eb; exact fin (.str _) tab.str
      | tup h _ => cases eb; exact fin (.tup h) tab.tup
      | lst _ _ => cases eb
    · exact q.elim
  refine PE.mono (pe_callB hc hg hm PyProof.Rows.boot_isinstance (pa_cons h (pa_cons (pe_bltn (v := .ty T) hgT hT hb rfl hn hd) pa_nil hs2) hs) (by decide) (by decide) hs hpl) fun σ H Q ⟨ρ, P, st, q, k⟩ => ?_
  refine ⟨ρ, _, st, q, fun d v H1 hd s1 r => ⟨d, v, P, rfl, r, hd, fun b hb => k _ _ H1 hb s1 (.bl b)⟩⟩
end
end L2.R2

set_option Elab.async false
set_option linter.all false
set_option maxRecDepth 100000
namespace L2.R2
open PySem PySem.Spec PyProof.Rows L2

theorem boot_abs' : bootBuiltins "abs" = some (.builtin "abs") := by decide +kernel
theorem boot_max' : bootBuiltins "max" = some (.builtin "max") := by decide +kernel
theorem boot_min' : bootBuiltins "min" = some (.builtin "min") := by decide +kernel
theorem boot_int' : bootBuiltins "int" = some (.type "int") := by decide +kernel
theorem boot_bool' : bootBuiltins "bool" = some (.type "bool") := by decide +kernel
theorem boot_tuple' : bootBuiltins "tuple" = some (.type "tuple") := by decide +kernel
theorem tab_int (K : PySem.W.Frag) : TyTab K "int" := ⟨by rfl, by rfl, by rfl, by rfl, by rfl⟩
theorem tab_bool (K : PySem.W.Frag) : TyTab K "bool" := ⟨by rfl, by rfl, by rfl, by rfl, by rfl⟩
theorem tab_tuple (K : PySem.W.Frag) : TyTab K "tuple" := ⟨by rfl, by rfl, by rfl, by rfl, by rfl⟩

/-- a def that stands there and is worth F -/
structure FnAt (P : Program) (w : World) (K : PySem.W.Frag) (mg : Str → Option Value) (base : Heap) (x : Str) (ps : List Str) (k : Nat) (F : FD) : Prop where
  ex : ∃ f fd, FnOk P w K mg base CX0 k f fd ps (spD K F) ∧ Binds K fd ps [] ∧ PySem.W.keepIn K (.ref f) = true ∧ mg x = some (.ref f)
/-- a def that stands there -/
structure DefAt (K : PySem.W.Frag) (mg : Str → Option Value) (x : Str) (st : Stmt) (ps : List Str) : Prop where
  ex : ∃ f fd, Fun K x x st f fd ∧ mg x = some (.ref f) ∧ ∀ us : List Value, us.length = ps.length → bindArgs fd ⟨us, []⟩ = pure (ps.zip us)
section
variable {P : Program} {w : World} {K : PySem.W.Frag} {mg : Str → Option Value} {base : Heap}
theorem DefAt.ok {x : Str} {st : Stmt} {N ps : List Str} {k : Nat} {F : FD} {t : RS} (Z : DefAt K mg x st ps) (Sc : FnScope N ps (defScope st))
    (hbody : ∀ {f : Addr} (cdv : Value) (A : Around) (outer : List Env) (s : Shared) (H : Hp) (E : XK), Room k (A.deeper (envOfC x (defScope st) s.heap.objs.size f cdv)) →
      DSs (cxOf CX0 P w K mg base N x (defScope st) f cdv A outer s H E).nox (defBody st) t)
    (len : ∀ ds Q, F ds Q → ds.length = ps.length) (pure : ∀ ds Q, F ds Q → t { nx := fun _ => Q .non, rt := Q } (startD N ds)) : FnAt P w K mg base x ps (k + 1) F := by
  obtain ⟨f, fd, a, b, c⟩ := Z.ex
  exact ⟨f, fd, fn_ok a Sc (fun cdv A outer s H E hr => hbody cdv A outer s H E hr) len pure, .all c, a.kp, b⟩
theorem DefAt.okL {x : Str} {st : Stmt} {ps : List Str} {k : Nat} {F : FD} (Z : DefAt K mg x st ps) (h : ∀ (base : Heap) (f : Addr) (fd : FuncData), Fun K x x st f fd → FnOk P w K mg base CX0 k f fd ps (spD K F)) :
    ∃ f fd, mg x = some (.ref f) ∧ (∀ us : List Value, us.length = ps.length → bindArgs fd ⟨us, []⟩ = pure (ps.zip us)) ∧ ∀ base, FnOk P w K mg base CX0 k f fd ps (spD K F) := by
  obtain ⟨f, fd, a, b, c⟩ := Z.ex
  exact ⟨f, fd, b, c, fun base => h base f fd a⟩
end
section
variable {X : Cx} {k : Nat} {ps : List Str} {F : FD} {x : Str} {p pos : Pos} {e : Expr} {es : List Expr} {t : RA}
theorem de_callF (C : FnAt X.prog X.w X.K X.mg X.base x ps k F) (hr : Room k X.A) (ha : DA X (e :: es) t) (hg : Gl X x := by rfl)
    (hdb : (x == ("__debug__" : Str)) = false := by decide) (he : starEach (e :: es) X.env = (false, eval e X.env) :: starEach es X.env := by rfl) (hpl : (backTo pos (starEach es X.env)).any (·.1) = false := by rfl) :
    DE X (.Call (.Name x p) (e :: es) [] pos) (rCall F t) := by
  obtain ⟨f, fd, G, hb, hk, hm⟩ := C.ex
  exact de_call G hr hm hk hb ha hg hdb he hpl
end

/-! ## the law -/
/-- law(script): for a list of at most n ints it is True -/
def FLaw (n : Nat) : FD := fun ds Q => ∃ ns : List Int, ds = [.lst (ns.map .int)] ∧ ns.length ≤ n ∧ Q (.bl true)
theorem sqL_fz {K : PySem.W.Frag} {H : Hp} {a : Addr} {vs : List V} (hO : Only H) (h : SqL K H a vs) : FzL K H a vs := by
  rcases h with (h | ⟨o, h⟩) | h
  · rcases hO a with z | ⟨o, xs, z⟩
    · rw [z] at h; cases h
    · rw [z] at h; cases h
  · exact .inl ⟨o, h⟩
  · exact .inr h
theorem walk_law {l : PySem.W.OpenLaw} {q : Program} {loose : List Str} {XP : (Str → Option Value) → Heap → Prop} {YP : World → Heap → Prop} {d : DefRec} {K : Params → PySem.W.Frag} {x : Str} {k : Nat}
    (hn : l.most = some 63) (hdf : d.params.defaults = []) (hr : Room k callerA)
    (hY : ∀ (w : World) (h : Heap), YP w h → (K w.params).In h) (hd : d.name = "law")
    (F : ∀ (w : World) (mg : Str → Option Value) (h : Heap), (K w.params).In h → h.Ns mainGlobals mg →
      ∃ f fd, mg "law" = some (.ref f) ∧ (∀ us : List Value, us.length = [x].length → bindArgs fd ⟨us, []⟩ = pure ([x].zip us)) ∧ ∀ base, FnOk l.prog w (K w.params) mg base CX0 k f fd [x] (spD (K w.params) (FLaw 63))) :
    PySem.W.WalkO q loose XP YP l.row.toRowW d [] (fun f vs => PySem.call f vs) := by
  refine L2.walk_of (n := 63) (k := k) (x := x) (CX := fun _ => CX0) (sp := fun w => spD (K w.params) (FLaw 63)) hn (by decide) hdf hr hY ?_ ?_ fun _ _ _ _ _ z => z
  · intro w mg fa h KX G hmg
    rw [hd] at hmg
    obtain ⟨f, fd, hm, hb, hF⟩ := F w mg h KX G
    rw [hmg] at hm; cases hm
    exact ⟨fd, fun s u => .of_eq (hb [u] rfl), fun base _ _ => hF base⟩
  · intro w H a ns hl hO hS
    exact ⟨[.lst (ns.map .int)], fun d => d = .bl true, .cons (.lst (sqL_fz hO hS) .ints) .nil, ⟨ns, rfl, hl, rfl⟩, fun d v H' e _ r => by subst e; exact r.bl_inv⟩
end L2.R2

set_option Elab.async false
set_option linter.all false
set_option maxRecDepth 100000
namespace L2.R2
open PySem PySem.Spec PyProof.Rows L2

/-! ## == of nested tuples -/
def eqL (f : D → D → Option Bool) : List D → List D → Option Bool
  | [], [] => some true
  | [], _ :: _ => some false
  | _ :: _, [] => some false
  | x :: xs, y :: ys => match f x y, eqL f xs ys with
    | some a, some b => some (a && b)
    | _, _ => none
def eqF : Nat → D → D → Option Bool
  | 0, _, _ => none
  | n + 1, d, e => match d, e with
    | .int a, .int b => some (decide (a = b))
    | .bl a, .bl b => some (decide (a = b))
    | .non, .non => some true
    | .non, .tup _ => some false
    | .tup _, .non => some false
    | .tup xs, .tup ys => eqL (eqF n) xs ys
    | .lst xs, .lst ys => eqL (eqF n) xs ys
    | _, _ => none
theorem eqL_get {f : D → D → Option Bool} : ∀ {xs ys : List D} {b : Bool}, eqL f xs ys = some b → ∀ (j : Nat) (x y : D), xs[j]? = some x → ys[j]? = some y → ∃ c, f x y = some c
  | [], _, _, _, j, x, y, e, _ => by simp at e
  | _ :: _, [], _, _, j, x, y, _, e => by simp at e
  | a :: xs, c :: ys, b, h, j, x, y, e1, e2 => by
    unfold eqL at h
    split at h
    · rename_i p q hp hq
      cases j with
      | zero => simp at e1 e2; subst e1 e2; exact ⟨p, hp⟩
      | succ j => exact eqL_get hq j x y (by simpa using e1) (by simpa using e2)
    · cases h
theorem eqL_all {f : D → D → Option Bool} : ∀ {xs ys : List D} {b : Bool}, eqL f xs ys = some b →
    ((List.range (min xs.length ys.length)).all (fun j => match xs[j]?, ys[j]? with | some x, some y => (f x y).getD false | _, _ => false) && xs.length == ys.length) = b
  | [], [], b, h => by cases h; rfl
  | [], _ :: _, b, h => by cases h; rfl
  | _ :: _, [], b, h => by cases h; rfl
  | x :: xs, y :: ys, b, h => by
    unfold eqL at h
    split at h
    · rename_i p q hp hq
      cases h
      have ih := eqL_all hq
      rw [← ih]
      simp only [List.length_cons, Nat.succ_min_succ, List.range_succ_eq_map, List.all_cons, List.getElem?_cons_zero, hp, Option.getD_some, List.all_map]
      rw [Bool.and_assoc]
      congr 1
      congr 1
      rw [Bool.eq_iff_iff]; simp
    · cases h
section
variable {X : Cx} {pins : List (Addr × Obj)} {σ : St} {H : Hp} {s : Shared}
theorem eqL_same {f : D → D → Option Bool} (hf : ∀ {d e : D} {v : V} {b : Bool}, f d e = some b → Rep X.K H d v → Rep X.K H e v → b = true) : ∀ {xs ys : List D} {vs : List V} {b : Bool}, eqL f xs ys = some b → Reps X.K H xs vs → Reps X.K H ys vs → b = true := by
  intro xs
  induction xs with
  | nil => intro ys vs b h q1 q2; cases q1; cases q2; cases h; rfl
  | cons x xs ih =>
    intro ys vs b h q1 q2
    cases q1 with
    | cons r t =>
      cases q2 with
      | cons r' t' =>
        unfold eqL at h
        split at h
        · rename_i p q hp hq
          cases h
          rw [hf hp r r', ih hq t t']; rfl
        · cases h
theorem eqF_same (I : Inv X pins σ H s) : ∀ (n : Nat) {d e : D} {v : V} {b : Bool}, eqF n d e = some b → Rep X.K H d v → Rep X.K H e v → b = true
  | 0, _, _, _, _, h, _, _ => by cases h
  | n + 1, d, e, v, b, h, r1, r2 => by
    unfold eqF at h
    split at h
    · rw [r1.int_inv] at r2; cases r2; cases h; simp
    · rw [r1.bl_inv] at r2; cases r2; cases h; simp
    · cases h; rfl
    · cases r1; cases r2
    · cases r2; cases r1
    · rename_i xs ys
      cases r1 with
      | @tup a vs _ h1 q1 =>
        cases r2 with
        | @tup _ ws _ h2 q2 =>
          rw [h1] at h2; cases h2
          exact eqL_same (fun {d e v b} => eqF_same I n) h q1 q2
    · rename_i xs ys
      cases r1 with
      | @lst a vs _ h1 q1 =>
        cases r2 with
        | @lst _ ws _ h2 q2 =>
          rw [I.list_inj h2.sq h1.sq] at q2
          exact eqL_same (fun {d e v b} => eqF_same I n) h q1 q2
    · cases h
/-- two lists, item by item -/
theorem eq_lists (I : Inv X pins σ H s) {n : Nat} {xs ys : List D} {a c : Addr} {vs ws : List V} {b : Bool} {A : Around} (h : eqL (eqF n) xs ys = some b) (h1 : SqL X.K H a vs) (q1 : Reps X.K H xs vs) (h2 : SqL X.K H c ws) (q2 : Reps X.K H ys ws) (hu : A.units < cLine)
    (at' : ∀ {d e : D} {v u : V} {x y : Value} {b : Bool}, eqF n d e = some b → Rep X.K H d v → Rep X.K H e u → RelV v x → RelV u y → SeqAt.EqAt A.in1 s x y b) : SeqAt.RcAt A s (.ref a) (.ref c) b ∧ SeqAt.EqAt A s (.ref a) (.ref c) b := by
  obtain ⟨its, rv, ht, _⟩ := I.list h1
  obtain ⟨its2, rv2, ht2, _⟩ := I.list h2
  have l1 : xs.length = its.length := q1.length.trans rv.length
  have l2 : ys.length = its2.length := q2.length.trans rv2.length
  have rc : SeqAt.RcAt A s (.ref a) (.ref c) b := by
    by_cases hl : xs.length = ys.length
    · have := SeqAt.RcAt.lists (A := A) (s := s) (e := fun j => match xs[j]?, ys[j]? with | some x, some y => (eqF n x y).getD false | _, _ => false) ht.isList ht2.isList (by simp; omega) hu (fun j g1 g2 => ?_)
      · have al := eqL_all h
        simp only [List.size_toArray, ← l1] at this
        rw [← hl, Nat.min_self, beq_self_eq_true, Bool.and_true] at al
        rw [al] at this
        exact this
      · simp only [List.size_toArray] at g1 g2
        have e1 : xs[j]? = some (xs[j]'(by omega)) := List.getElem?_eq_getElem _
        have e2 : ys[j]? = some (ys[j]'(by omega)) := List.getElem?_eq_getElem _
        obtain ⟨k, hk⟩ := eqL_get h j _ _ e1 e2
        rw [e1, e2]
        simp only [hk, Option.getD_some]
        obtain ⟨v1, f1, f2⟩ := q1.get e1
        obtain ⟨v2, f3, f4⟩ := q2.get e2
        obtain ⟨u1, g3, g4⟩ := rv.get f1
        obtain ⟨u2, g5, g6⟩ := rv2.get f3
        have a1 : its.toArray[j] = u1 := by
          have := List.getElem?_eq_getElem g1
          rw [this] at g3
          simpa using Option.some.inj g3
        have a2 : its2.toArray[j] = u2 := by
          have := List.getElem?_eq_getElem g2
          rw [this] at g5
          simpa using Option.some.inj g5
        rw [a1, a2]
        exact at' hk f2 f4 g4 g6
    · have al := eqL_all h
      have : (xs.length == ys.length) = false := by simpa using hl
      rw [this, Bool.and_false] at al
      rw [← al]
      exact SeqAt.RcAt.lists_lengths ht.isList ht2.isList (by simp; omega) hu
  refine ⟨rc, ?_⟩
  by_cases hac : a = c
  · subst hac
    rw [I.list_inj h2 h1] at q2
    rw [eqL_same (fun {d e v b} => eqF_same I n) h q1 q2]
    exact SeqAt.EqAt.same _
  · exact SeqAt.EqAt.of_refs hac rc
theorem eqF_at (I : Inv X pins σ H s) : ∀ (n : Nat) {d e : D} {v u : V} {x y : Value} {b : Bool} {A : Around}, eqF n d e = some b → Rep X.K H d v → Rep X.K H e u → RelV v x → RelV u y → A.units + n < cLine →
    SeqAt.RcAt A s x y b ∧ SeqAt.EqAt A s x y b
  | 0, _, _, _, _, _, _, _, _, h, _, _, _, _, _ => by cases h
  | n + 1, d, e, v, u, x, y, b, A, h, r1, r2, rx, ry, hu => by
    have same := fun (hvu : v = u) => eqF_same I (n + 1) h r1 (hvu ▸ r2)
    unfold eqF at h
    split at h
    · rename_i i j
      rw [r1.int_inv] at rx; rw [r2.int_inv] at ry
      obtain ⟨t, rfl⟩ := rx
      obtain ⟨t', rfl⟩ := ry
      cases h
      have e : decide (i = j) = (i == j) := by rw [Bool.beq_eq_decide_eq]
      rw [e]
      exact ⟨SeqAt.RcAt.int_int _ _ _ _, SeqAt.EqAt.int_int _ _ _ _⟩
    · rename_i i j
      rw [r1.bl_inv] at rx; rw [r2.bl_inv] at ry
      cases rx; cases ry
      cases h
      have e : decide (i = j) = (i == j) := by rw [Bool.beq_eq_decide_eq]
      rw [e]
      exact ⟨SeqAt.RcAt.bool_bool _ _, SeqAt.EqAt.bool_bool _ _⟩
    · cases r1; cases r2; cases rx; cases ry; cases h
      exact ⟨SeqAt.RcAt.none_none, SeqAt.EqAt.same _⟩
    · cases r1
      cases r2 with
      | tup h2 q2 =>
        cases rx; cases ry; cases h
        obtain ⟨its, rv, ht, _⟩ := I.tuple (SqT.of h2)
        exact ⟨SeqAt.RcAt.none_tuple ht (by omega), SeqAt.EqAt.none_tuple ht (by omega)⟩
    · cases r2
      cases r1 with
      | tup h2 q2 =>
        cases rx; cases ry; cases h
        obtain ⟨its, rv, ht, _⟩ := I.tuple (SqT.of h2)
        exact ⟨SeqAt.RcAt.tuple_none ht (by omega), SeqAt.EqAt.tuple_none ht (by omega)⟩
    · rename_i xs ys
      cases r1 with
      | @tup a vs _ h1 q1 =>
        cases r2 with
        | @tup c ws _ h2 q2 =>
          cases rx; cases ry
          obtain ⟨its, rv, ht, _⟩ := I.tuple (SqT.of h1)
          obtain ⟨its2, rv2, ht2, _⟩ := I.tuple (SqT.of h2)
          have l1 : xs.length = its.length := q1.length.trans rv.length
          have l2 : ys.length = its2.length := q2.length.trans rv2.length
          have rc : SeqAt.RcAt A s (.ref a) (.ref c) b := by
            have := SeqAt.RcAt.tuples (A := A) (s := s) (e := fun j => match xs[j]?, ys[j]? with | some x, some y => (eqF n x y).getD false | _, _ => false) ht ht2 (by omega) (fun j g1 g2 => ?_)
            · simp only [List.size_toArray, ← l1, ← l2] at this
              rw [eqL_all h] at this
              exact this
            · simp only [List.size_toArray] at g1 g2
              have e1 : xs[j]? = some (xs[j]'(by omega)) := List.getElem?_eq_getElem _
              have e2 : ys[j]? = some (ys[j]'(by omega)) := List.getElem?_eq_getElem _
              obtain ⟨k, hk⟩ := eqL_get h j _ _ e1 e2
              rw [e1, e2]
              simp only [hk, Option.getD_some]
              obtain ⟨v1, f1, f2⟩ := q1.get e1
              obtain ⟨v2, f3, f4⟩ := q2.get e2
              obtain ⟨u1, g3, g4⟩ := rv.get f1
              obtain ⟨u2, g5, g6⟩ := rv2.get f3
              have a1 : its.toArray[j] = u1 := by
                have := List.getElem?_eq_getElem g1
                rw [this] at g3
                simpa using Option.some.inj g3
              have a2 : its2.toArray[j] = u2 := by
                have := List.getElem?_eq_getElem g2
                rw [this] at g5
                simpa using Option.some.inj g5
              rw [a1, a2]
              exact (eqF_at I n hk f2 f4 g4 g6 (by show A.units + 1 + n < cLine; omega)).2
          refine ⟨rc, ?_⟩
          by_cases hac : a = c
          · subst hac
            rw [same rfl]
            exact SeqAt.EqAt.same _
          · exact SeqAt.EqAt.of_refs hac rc
    · rename_i xs ys
      cases r1 with
      | @lst a vs _ h1 q1 =>
        cases r2 with
        | @lst c ws _ h2 q2 =>
          cases rx; cases ry
          exact eq_lists I h h1.sq q1 h2.sq q2 (by omega) fun {d e v u x y b} hk f2 f4 g4 g6 => (eqF_at I n hk f2 f4 g4 g6 (by show A.units + 1 + n < cLine; omega)).2
    · cases h
end
/-- == -/
def dEq : R22 := fun x y Q => match eqF 6 x y with
  | some b => Q (.bl b)
  | none => False
section
variable {X : Cx}
end
end L2.R2

set_option Elab.async false
set_option linter.all false
set_option maxRecDepth 100000
namespace L2.R2
open PySem PySem.Spec PyProof.Rows L2

theorem closure_aux (env : Env) : ∀ (names : List (Str × NameKind)) (acc : List (Str × Addr)), (∀ y ∈ names, y.2 = .free → ∃ c, env.cells.lookup y.1 = some c) →
    ∃ cl : List (Str × Addr), (do
      let mut cs := acc
      for (name, kind) in names do
        if kind == .free then cs := (name, ← cellOf env name) :: cs
      return cs : Sem (List (Str × Addr))) = pure cl ∧ (∀ p ∈ cl, p ∈ acc ∨ env.cells.lookup p.1 = some p.2) ∧ (∀ p ∈ acc, p ∈ cl) ∧ ∀ y ∈ names, y.2 = .free → ∃ c, (y.1, c) ∈ cl
  | [], acc, _ => ⟨acc, by simp, fun p h => .inl h, fun p h => h, fun y h => by simp at h⟩
  | (n, k) :: r, acc, h => by
    by_cases hk : k = .free
    · subst hk
      obtain ⟨c, hc⟩ := h _ List.mem_cons_self rfl
      obtain ⟨cl, e, h1, h2, h3⟩ := closure_aux env r ((n, c) :: acc) fun y hy => h y (List.mem_cons_of_mem _ hy)
      refine ⟨cl, ?_, fun p hp => ?_, fun p hp => h2 p (List.mem_cons_of_mem _ hp), fun y hy hf => ?_⟩
      · rw [← e]
        have hcell : cellOf env n = pure c := by unfold cellOf; rw [hc]
        simp only [List.forIn_cons, hcell, beq_self_eq_true, if_true, pure_bind]
      · rcases h1 p hp with q | q
        · rcases List.mem_cons.mp q with rfl | q
          · exact .inr hc
          · exact .inl q
        · exact .inr q
      · rcases List.mem_cons.mp hy with rfl | hy
        · exact ⟨c, h2 _ List.mem_cons_self⟩
        · exact h3 y hy hf
    · obtain ⟨cl, e, h1, h2, h3⟩ := closure_aux env r acc fun y hy => h y (List.mem_cons_of_mem _ hy)
      refine ⟨cl, ?_, h1, h2, fun y hy hf => ?_⟩
      · rw [← e]
        have hb : (k == NameKind.free) = false := by simpa using hk
        simp only [List.forIn_cons, hb, Bool.false_eq_true, if_false, pure_bind]
      · rcases List.mem_cons.mp hy with rfl | hy
        · exact absurd hf hk
        · exact h3 y hy hf
theorem lookup_of_mem {α : Type} : ∀ {l : List (Str × α)} {x : Str} {c : α}, (x, c) ∈ l → ∃ c', l.lookup x = some c'
  | [], _, _, h => by simp at h
  | (y, d) :: r, x, c, h => by
    rw [List.lookup_cons]
    cases e : x == y with
    | true => exact ⟨d, rfl⟩
    | false =>
      rcases List.mem_cons.mp h with q | q
      · cases q; rw [beq_self_eq_true] at e; cases e
      · exact lookup_of_mem q
theorem closure_ok {scope : Scope} {env : Env} (h : ∀ y ∈ scope.names, y.2 = .free → ∃ c, env.cells.lookup y.1 = some c) :
    ∃ cl, closureFor scope env = pure cl ∧ (∀ x c, cl.lookup x = some c → env.cells.lookup x = some c) ∧ ∀ y ∈ scope.names, y.2 = .free → ∃ c, cl.lookup y.1 = some c := by
  obtain ⟨cl, e, h1, _, h3⟩ := closure_aux env scope.names [] h
  refine ⟨cl, e, fun x c hx => ?_, fun y hy hf => ?_⟩
  · rcases h1 _ (PySem.mem_of_lookup hx) with q | q
    · simp at q
    · exact q
  · obtain ⟨c, hc⟩ := h3 y hy hf
    exact lookup_of_mem hc

/-! ## a comprehension's block -/
/-- its context: the callers' frames are all that run; its own names first, then those that it takes from around -/
def cxComp (X : Cx) (scope : Scope) (N : List Str) (cl : List (Str × Addr)) (C : Addr) (s : Shared) (H : Hp) (fp : List Addr) : Cx where
  prog := X.prog
  w := X.w
  K := X.K
  mg := X.mg
  base := X.base
  A := X.A
  N := N
  s₀ := s
  H₀ := H
  env := compEnvC scope cl C X.env
  outer := X.stack
  stack := X.stack
  ex := fp
  fn := fun _ => false
  calm := X.calm
  pn := []
  xe := fun _ _ => False
/-- what a comprehension's names are like: own ones local, the rest taken from cells around -/
structure CScope (X : Cx) (scope : Scope) : Prop where
  kind : scope.kind = .function
  nocell : ∀ y ∈ scope.names, y.2 ≠ .cell
  locs : ∀ y ∈ scope.names, y.2 = .local → scope.names.lookup y.1 = some .local
  frees : ∀ y ∈ scope.names, y.2 = .free → X.env.kindOf y.1 = some .cell ∨ X.env.kindOf y.1 = some .free
theorem lookup_relabel {env : Env} : ∀ {names : List (Str × NameKind)} {x : Str} {k : NameKind}, (names.map fun (n, k) => if (k == NameKind.free && env.scope.kind == .function && env.kindOf n == some .cell) then (n, NameKind.cell) else (n, k)).lookup x = some k →
    (k = .cell ∨ k = .free) → (∀ y ∈ names, y.2 ≠ .cell) → (x, .free) ∈ names
  | [], _, _, h, _, _ => by simp at h
  | (n, j) :: r, x, k, h, hk, hn => by
    have h : List.lookup x ((if (j == NameKind.free && env.scope.kind == .function && env.kindOf n == some .cell) = true then (n, NameKind.cell) else (n, j)) :: r.map fun (n, k) => if (k == NameKind.free && env.scope.kind == .function && env.kindOf n == some .cell) then (n, NameKind.cell) else (n, k)) = some k := h
    have hn' : ∀ y ∈ r, y.2 ≠ .cell := fun y hy => hn y (List.mem_cons_of_mem _ hy)
    cases hx : x == n with
    | true =>
      have e : x = n := eq_of_beq hx
      subst e
      by_cases hc : (j == NameKind.free && env.scope.kind == .function && env.kindOf x == some .cell) = true
      · have hj : j = .free := by
          rw [Bool.and_eq_true, Bool.and_eq_true] at hc
          exact eq_of_beq hc.1.1
        subst hj
        exact List.mem_cons_self
      · rw [if_neg hc, List.lookup_cons, beq_self_eq_true] at h
        cases h
        rcases hk with rfl | rfl
        · exact absurd rfl (hn _ List.mem_cons_self)
        · exact List.mem_cons_self
    | false =>
      by_cases hc : (j == NameKind.free && env.scope.kind == .function && env.kindOf n == some .cell) = true
      · rw [if_pos hc, List.lookup_cons, hx] at h
        exact List.mem_cons_of_mem _ (lookup_relabel h hk hn')
      · rw [if_neg hc, List.lookup_cons, hx] at h
        exact List.mem_cons_of_mem _ (lookup_relabel h hk hn')
section
variable {X : Cx} {pins : List (Addr × Obj)} {σ : St} {H : Hp} {s : Shared} {scope : Scope} {N : List Str} {cl : List (Str × Addr)} {C : Addr} {fp : List Addr}
theorem comp_ok (I : Inv X pins σ H s) (Sc : CScope X scope) (hcl : ∀ x c, cl.lookup x = some c → X.env.cells.lookup x = some c) (hall : ∀ y ∈ scope.names, y.2 = .free → ∃ c, cl.lookup y.1 = some c)
    (hC : s.heap.objs.size ≤ C) (hf : ∀ b ∈ fp, FpOk X pins H b) (hlt : ∀ b ∈ fp, b < s.heap.objs.size) : (cxComp X scope N cl C s H fp).Ok := by
  refine ⟨I.ok.mod, Sc.kind, I.ok.glob, I.ok.blt, hC, fun x y c h1 h2 => I.ok.inj x y c (hcl x c h1) (hcl y c h2), fun x hx => ?_, fun x c hx => absurd (show false = true from hx) Bool.false_ne_true, I.ok.hd, I.ok.frames, .inl rfl, fun b hb => ?_, I.bs, Nat.le_trans I.ok.bsz I.sz, fun b o e hb => ?_, fun b hb hfs => ?_, I.stack, I.stkFree⟩
  · have hx : (scope.names.map fun (n, k) => if (k == NameKind.free && X.env.scope.kind == .function && X.env.kindOf n == some .cell) then (n, NameKind.cell) else (n, k)).lookup x = some .cell ∨ (scope.names.map fun (n, k) => if (k == NameKind.free && X.env.scope.kind == .function && X.env.kindOf n == some .cell) then (n, NameKind.cell) else (n, k)).lookup x = some .free := hx
    have : (x, NameKind.free) ∈ scope.names := by
      rcases hx with hx | hx
      · exact lookup_relabel hx (.inl rfl) Sc.nocell
      · exact lookup_relabel hx (.inr rfl) Sc.nocell
    exact hall _ this rfl
  · obtain ⟨f0, f1, f2, f3, f4, f5⟩ := hf b hb
    exact ⟨Nat.ne_of_lt (Nat.lt_of_lt_of_le (hlt b hb) hC), fun x c e => f4 x c (hcl x c e)⟩
  · obtain ⟨f0, f1, f2, f3, f4, f5⟩ := hf b hb
    rcases f3 with z | z
    · exact I.ok.noex b o e z
    · have h1 := (Heap.lt_size e)
      have h2 := I.ok.bsz
      exact absurd (Nat.lt_of_lt_of_le h1 (Nat.le_trans h2 z)) (Nat.lt_irrefl _)
  · obtain ⟨f0, f1, f2, f3, f4, f5⟩ := hf b hb
    rcases List.mem_cons.mp (I.stkSub b hfs) with e | e
    · exact f1 e
    · exact f2 e
/-- the names' values at the block's entry: its own have none, the others are those around -/
def capS (σ : St) (k : Nat) (ix : List Nat) : St := List.replicate k none ++ ix.map fun i => (σ[i]?).join
theorem comp_inv (I : Inv X pins σ H s) (Sc : CScope X scope) (hcl : ∀ x c, cl.lookup x = some c → X.env.cells.lookup x = some c) (hall : ∀ y ∈ scope.names, y.2 = .free → ∃ c, cl.lookup y.1 = some c)
    {s4 : Shared} {m : Str → Option Value} {k : Nat} {ix : List Nat} {ys : List Str} (hC : s.heap.objs.size ≤ C) (hf : ∀ b ∈ fp, FpOk X pins H b) (hlt : ∀ b ∈ fp, b < s.heap.objs.size)
    (hk4 : ∀ b o, s.heap.get? b = some o → s4.heap.get? b = some o) (hos : s4.os = s.os) (hb : AllBare s4.gens) (hns : s4.heap.Ns C m)
    (hN : N.length = k + ys.length) (hdrop : N.drop k = ys) (hix : ix.length = ys.length) (hiy : ∀ (j : Nat) (y : Str) (i : Nat), ys[j]? = some y → ix[j]? = some i → X.N[i]? = some y ∧ (y, NameKind.free) ∈ scope.names)
    (hkind : ∀ y ∈ ys, (relabel scope X.env).names.lookup y = some .cell ∨ (relabel scope X.env).names.lookup y = some .free) :
    Inv (cxComp X scope N cl C s H fp) [] (capS σ k ix) H s4 := by
  have hfr : H C = none := I.hok.fresh hC
  refine ⟨comp_ok I Sc hcl hall hC hf hlt, hos, hb, Un.kept hk4, ⟨m, hns, fun i x v e1 e2 e3 => ?_⟩, fun x c e => ?_, hfr, fun x c e => I.freeC x c (hcl x c e), fun p hp => absurd (show p ∈ ([] : List (Addr × Obj)) from hp) (by simp), I.hok.kept hk4, ?_⟩
  · unfold capS at e2
    by_cases hik : i < k
    · rw [List.getElem?_append_left (by simpa using hik), List.getElem?_replicate, if_pos hik] at e2
      cases e2
    · rw [List.getElem?_append_right (by simpa using hik), List.length_replicate, List.getElem?_map] at e2
      cases eo : ix[i - k]? with
      | none => rw [eo] at e2; cases e2
      | some o =>
        rw [eo] at e2
        have e2 : some ((σ[o]?).join) = some (some v) := e2
        have e2' : σ[o]? = some (some v) := by
          cases q : σ[o]? with
          | none => rw [q] at e2; cases e2
          | some z => rw [q] at e2; cases e2; rfl
        have ey : ys[i - k]? = some x := by
          rw [← hdrop, List.getElem?_drop]
          rw [show k + (i - k) = i by omega]
          exact e1
        obtain ⟨h1, h2⟩ := hiy _ _ _ ey eo
        have hv : Vis X.env.scope x := by
          rcases Sc.frees _ h2 rfl with q | q
          · exact .inr (.inl q)
          · exact .inr (.inr q)
        obtain ⟨m0, hn0, hl0⟩ := I.loc
        obtain ⟨u, ru, lu⟩ := hl0 o x v h1 e2' hv
        refine ⟨u, ru, .inr ⟨hkind x (List.mem_of_getElem? ey), ?_⟩⟩
        obtain ⟨c, hc⟩ := hall _ h2 rfl
        refine ⟨c, hc, ?_⟩
        rcases lu with ⟨q, _⟩ | ⟨_, c', hc', hcell⟩
        · rcases Sc.frees _ h2 rfl with z | z
          · rw [z] at q; cases q
          · rw [z] at q; cases q
        · have := hcl x c hc
          rw [this] at hc'; cases hc'
          obtain ⟨oc, ho, hd⟩ := hcell
          exact ⟨oc, hk4 _ _ ho, hd⟩
  · obtain ⟨v, oc, ho, hd⟩ := I.cell x c (hcl x c e)
    exact ⟨v, oc, hk4 _ _ ho, hd⟩
  · unfold capS
    show _ = N.length
    rw [List.length_append, List.length_replicate, List.length_map, hix, hN]
end
end L2.R2

set_option Elab.async false
set_option linter.all false
set_option maxRecDepth 100000
namespace L2.R2
open PySem PySem.Spec PyProof.Rows L2

theorem comp_loop {prog : Program} {w : World} {A : Around} {R : Result → Shared → Prop} {s : Shared} {elt target iter : Expr} {scope : Scope} {pos : Pos} {it acc : Value} {env : Env} (I : Nat → Shared → Prop)
    (turn : ∀ n s, I n s → ∀ E : Value → Shared → Prop, wpAny (model prog w) A (pyNext it) (fun r s₁ => match r with
      | none => R (.ok .next) s₁
      | some v => wpAny (model prog w) A (letOwnedTupleGo target it v) (fun _ s₁ => wpAny (model prog w) A (assign target env v) (fun _ s₂ => wpAny (model prog w) A (eval elt env) (fun x s₃ =>
          wpAny (model prog w) A (call (.builtin "list.append") [acc, x]) (fun _ s₄ => ∃ m, m < n ∧ I m s₄) E s₃) E s₂) E s₁) E s₁) E s)
    (n : Nat) (h : I n s) : codeAny (model prog w) A (.compLoop (.ListComp elt [⟨target, iter, [], 0⟩] scope pos) 0 it acc env) R s := by
  refine codeAny_loop rfl I (fun n s hI => ?_) n h
  show wpAny _ _ ((compTurn (.ListComp elt [⟨target, iter, [], 0⟩] scope pos) 0 it acc env).onRaise (fun x => do noteFrame x env; theTreesLotGoes x)) _ _ s
  refine wpAny_noted ?_
  rw [compTurn_list1]
  refine wpAny_bind (wpAny_standAt (wpAny_bind (wpAny_mono (turn n s hI _) (fun r s₁ h₁ => ?_) fun _ _ h' => h')))
  cases r with
  | none => exact wpAny_pure h₁
  | some v =>
    refine wpAny_bind (wpAny_mono h₁ (fun _ s₁' h₁' => ?_) fun _ _ h' => h')
    exact wpAny_bind (wpAny_mono h₁' (fun _ s₂ h₂ => wpAny_bind (wpAny_bind (wpAny_mono h₂ (fun x s₃ h₃ => wpAny_bind (wpAny_mono h₃
      (fun _ s₄ h₄ => wpAny_pure (wpAny_pure ⟨rfl, h₄⟩)) fun _ _ h' => h')) fun _ _ h' => h'))) fun _ _ h' => h')

/-- the items of a comprehension, one after another -/
def compD (g : RG) (te : RE) : List D → En → List D → (List D → Prop) → Prop
  | [], _, acc, Q => Q acc
  | x :: xs, ρ, acc, Q => g x ρ fun ρ' => te ρ' fun d => compD g te xs ρ' (acc ++ [d]) Q
def capO (ρ : En) (i : Nat) : Option S := match ρ[i]? with
  | some (some (.d d)) => some (.d d)
  | _ => none
def capE (ρ : En) (k : Nat) (ix : List Nat) : En := List.replicate k none ++ ix.map (capO ρ)
theorem cap_ok {X X' : Cx} {ρ : En} {σ : St} {H : Hp} {k : Nat} {ix : List Nat} (so : StOk X ρ σ H) (hK : X'.K = X.K) (hH : X'.H₀ = H) : StOk X' (capE ρ k ix) (capS σ k ix) H := by
  have own : ∀ (i : Nat) (xs : List D), (capE ρ k ix)[i]? ≠ some (some (S.own xs)) := fun i xs e => by
    unfold capE at e
    by_cases hik : i < k
    · rw [List.getElem?_append_left (by simpa using hik), List.getElem?_replicate, if_pos hik] at e; cases e
    · rw [List.getElem?_append_right (by simpa using hik), List.getElem?_map] at e
      cases eo : ix[i - (List.replicate k (none : Option S)).length]? with
      | none => rw [eo] at e; cases e
      | some o =>
        rw [eo] at e
        have e : some (capO ρ o) = some (some (S.own xs)) := e
        have e := Option.some.inj e
        unfold capO at e
        split at e <;> cases e
  refine ⟨by simp [capE, capS], by rw [hH]; exact Same.refl H, fun i x e => ?_, fun i j xs ys a e1 _ _ _ => absurd e1 (own i xs)⟩
  unfold capE at e
  by_cases hik : i < k
  · rw [List.getElem?_append_left (by simpa using hik), List.getElem?_replicate, if_pos hik] at e; cases e
  · rw [List.getElem?_append_right (by simpa using hik), List.getElem?_map, List.length_replicate] at e
    cases eo : ix[i - k]? with
    | none => rw [eo] at e; cases e
    | some o =>
      rw [eo] at e
      have e : some (capO ρ o) = some (some x) := e
      have e := Option.some.inj e
      unfold capO at e
      split at e
      · rename_i d ed
        cases e
        obtain ⟨v, h1, h2⟩ := so.rel o _ ed
        refine ⟨v, ?_, by rw [hK]; exact h2⟩
        unfold capS
        rw [List.getElem?_append_right (by simpa using hik), List.getElem?_map, List.length_replicate, eo, Option.map_some, h1]; rfl
      · cases e

section
variable {X : Cx} {pins : List (Addr × Obj)} {σ : St} {H : Hp} {s2 : Shared} {scope : Scope} {N : List Str} {cl : List (Str × Addr)} {fp : List Addr} {it : Addr} {tn : Nat → Heap → Prop} {J : It} {xs : List D} {ρ : En}
  {elt target iter : Expr} {pos : Pos} {g : RG} {te : RE} {k : Nat} {ix : List Nat} {ys : List Str} {P : List D → Prop}
/-- an untracked object that is younger than the entry is tracked from here on -/
theorem _root_.L2.Inv.track {s s' : Shared} {H H' : Hp} {a : Addr} {vs : List V} {its : List Value} {n : Nat} (I : Inv X pins σ H s) (I' : Inv X pins σ H' s') (ha : s.heap.objs.size ≤ a) (hn : H' a = none)
    (e : s'.heap.get? a = some { cls := .type "list", data := .seq its.toArray n }) (rv : Vals vs its) (hz : vs.length ≤ sizeLine) : Inv X pins σ (upd H' a (.lst vs)) s' := by
  have hL : X.env.locals ≠ a := Nat.ne_of_lt (Nat.lt_of_lt_of_le I.lt ha)
  have hcell : ∀ x c, X.env.cells.lookup x = some c → c ≠ a := fun x c q z => by
    obtain ⟨v, hv⟩ := I.cell x c q
    exact absurd (Nat.lt_of_lt_of_le hv.lt (by rw [z]; exact ha)) (Nat.lt_irrefl _)
  have hs0 : ∀ {b : Addr} {o : Obj}, X.s₀.heap.get? b = some o → b ≠ a := fun {b o} q => Nat.ne_of_lt (Nat.lt_of_lt_of_le (Heap.lt_size q) (Nat.le_trans I.sz ha))
  refine ⟨I'.ok, I'.os, I'.bare, ⟨I'.base.keep, I'.base.slot, fun b o q n hx => ?_, I'.base.there, fun b ys q => ?_, fun b o u q => ?_, fun b ps q => ?_⟩, I'.loc, I'.cell, ?_, fun x c q => ?_, fun p hp => ?_, fun b u q => ?_, I'.len⟩
  · rw [upd_ne (hs0 q)]; exact I'.base.free b o q n hx
  · rw [upd_ne (ne_of_none (I'.base.tups b ys q) hn)]; exact I'.base.tups b ys q
  · rw [upd_ne (ne_of_none (I'.base.frzs b o u q) hn)]; exact I'.base.frzs b o u q
  · obtain ⟨m, q2⟩ := I'.base.tbls b ps q
    exact ⟨m, by rw [upd_ne (ne_of_none q2 hn)]; exact q2⟩
  · rw [upd_ne hL]; exact I'.free
  · rw [upd_ne (hcell x c q)]; exact I'.freeC x c q
  · obtain ⟨q1, q2, q3, q4, q5⟩ := I'.pin p hp
    have hp1 : p.1 ≠ a := Nat.ne_of_lt (Nat.lt_of_lt_of_le (Heap.lt_size (I.pin p hp).1) ha)
    exact ⟨q1, by rw [upd_ne hp1]; exact q2, q3, q4, q5⟩
  · by_cases hb : b = a
    · subst hb
      rw [upd_same] at q; cases q
      exact ⟨hz, its, n, rv, e⟩
    · rw [upd_ne hb] at q
      exact (I'.hok b u q).stay (fun c v _ w => w) (fun c w => by rw [upd_ne (ne_of_none w hn)]; exact w) fun c ys w => by rw [upd_ne (ne_of_none w hn)]; exact w

theorem comp_core (hc : X.calm = true) (Sc : CScope X scope) (hcl : ∀ x c, cl.lookup x = some c → X.env.cells.lookup x = some c) (hall : ∀ y ∈ scope.names, y.2 = .free → ∃ c, cl.lookup y.1 = some c)
    (hN : N.length = k + ys.length) (hdrop : N.drop k = ys) (hix : ix.length = ys.length) (hiy : ∀ (j : Nat) (y : Str) (i : Nat), ys[j]? = some y → ix[j]? = some i → X.N[i]? = some y ∧ (y, NameKind.free) ∈ scope.names)
    (hkind : ∀ y ∈ ys, (relabel scope X.env).names.lookup y = some .cell ∨ (relabel scope X.env).names.lookup y = some .free)
    (hg : ∀ C s H fp, DG (cxComp X scope N cl C s H fp) target g) (he : ∀ C s H fp, DE (cxComp X scope N cl C s H fp) elt te)
    (I2 : Inv X pins σ H s2) (so : StOk X ρ σ H) (T : Turn X.prog X.w X.K target J fp it tn) (st : tn 0 s2.heap) (hf : ∀ b ∈ fp, FpOk X pins H b) (ok : ItOk X J xs H) (hz : xs.length ≤ sizeLine)
    (hP : compD g te xs (capE ρ k ix) [] P) {RR : Value → Addr → Result → Shared → Prop} {E : Value → Shared → Prop}
    (post : ∀ (ds : List D) (vs : List V) (its : List Value) (n : Nat) (C : Addr) (s' : Shared) (H' : Hp), P ds → Same H H' → H' s2.heap.objs.size = none → Reps X.K H' ds vs → Vals vs its → vs.length ≤ sizeLine →
      s'.heap.get? s2.heap.objs.size = some { cls := .type "list", data := .seq its.toArray n } → Inv X pins σ H' s' → (∃ m, s'.heap.Ns C m) → s2.heap.objs.size < C → H' C = none → RR (.ref s2.heap.objs.size) C (.ok .next) s') :
    wpAny (model X.prog X.w) X.A (newList []) (fun acc s₃ => wpAny (model X.prog X.w) X.A (newFunctionEnv scope X.env.globals cl [] X.env.qual none .none (some X.env)) (fun cenv s₄ =>
      codeAny (model X.prog X.w) X.A (.compStart (.ListComp elt [⟨target, iter, [], 0⟩] scope pos) 0 (.ref it) acc { cenv with scope := relabel scope X.env }) (RR acc cenv.locals) s₄) E s₃) E s2 := by
  refine wpAny_newObj_type (wpAny_newFunctionEnv Sc.nocell (by intro y hy; simp at hy) (fun h₁ hns₁ hsb₁ => ?_) Sc.kind)
  dsimp only at hns₁ hsb₁ ⊢
  generalize hH2 : s2.heap.push { cls := .type "list", dict := none, data := .seq ([] : List Value).toArray } = HP2 at hns₁ hsb₁ ⊢
  have hCs : HP2.objs.size = s2.heap.objs.size + 1 := by rw [← hH2, Heap.size_push]
  have hltC : s2.heap.objs.size < HP2.objs.size := by rw [hCs]; exact Nat.lt_succ_self _
  have hlt : ∀ b ∈ fp, b < s2.heap.objs.size := fun b hb => by
    obtain ⟨o, ho, _⟩ := T.obj 0 _ st b hb
    exact Heap.lt_size ho
  have old : ∀ b o, s2.heap.get? b = some o → h₁.get? b = some o := fun b o e =>
    hsb₁.extBut b o (Nat.ne_of_lt (Nat.lt_trans (Heap.lt_size e) hltC)) (Heap.get?_push_of_some _ (hH2 ▸ Heap.get?_push_of_some _ e))
  have hacc : h₁.get? s2.heap.objs.size = some { cls := .type "list", data := .seq ([] : List Value).toArray 0 } :=
    hsb₁.extBut _ _ (Nat.ne_of_lt hltC) (Heap.get?_push_of_some _ (hH2 ▸ Heap.get?_push_size _ rfl))
  have hfr : H s2.heap.objs.size = none := I2.hok.fresh (Nat.le_refl _)
  -- the block's context
  let X' := cxComp X scope N cl HP2.objs.size s2 H fp
  have J0 : Inv X' [] (capS σ k ix) H { s2 with heap := h₁, toks := s2.toks + ([] : List (Str × Value)).length } :=
    comp_inv I2 Sc hcl hall (Nat.le_of_lt hltC) hf hlt old rfl I2.bare hns₁ hN hdrop hix hiy hkind
  have S0 : StOk X' (capE ρ k ix) (capS σ k ix) H := cap_ok so rfl rfl
  have hD0fs : s2.heap.objs.size ∉ X'.fs := fun hb => by
    have hb : s2.heap.objs.size ∈ frs X.stack := hb
    rcases List.mem_cons.mp (I2.stkSub _ hb) with e | e
    · exact absurd (show X.env.locals < X.env.locals from Nat.lt_of_lt_of_eq I2.lt e) (Nat.lt_irrefl _)
    · exact I2.nofs (Nat.le_refl _) e
  have fpok : ∀ {H' : Hp} {o : Obj}, (∀ b ∈ fp, H' b = none) → ∀ b ∈ fp, FpOk X' [(s2.heap.objs.size, o)] H' b := fun {H' o} hn b hb => by
    obtain ⟨f0, f1, f2, f3, f4, f5⟩ := hf b hb
    refine ⟨hn b hb, Nat.ne_of_lt (Nat.lt_trans (hlt b hb) hltC), fun hfs => ?_, .inl hb, fun x c e => f4 x c (hcl x c e), fun p hp => ?_⟩
    · rcases List.mem_cons.mp (I2.stkSub b hfs) with e | e
      · exact f1 e
      · exact f2 e
    · have : p = (s2.heap.objs.size, o) := by simpa [X', cxComp] using hp
      subst this
      exact Nat.ne_of_gt (hlt b hb)
  have pinD : ∀ {σ' : St} {H' : Hp} {s' : Shared} {its : List Value} {n : Nat}, Inv X' [] σ' H' s' → H' s2.heap.objs.size = none → s'.heap.get? s2.heap.objs.size = some { cls := .type "list", data := .seq its.toArray n } → Inv X' [(s2.heap.objs.size, { cls := .type "list", data := .seq its.toArray n })] σ' H' s' := fun I' hn e =>
    I'.pins_of fun p hp => by
      have := List.mem_singleton.mp hp
      subst this
      exact ⟨e, hn, Nat.ne_of_lt hltC, hD0fs, fun v z => by cases z⟩
  -- the loop
  have loop : ∀ s₃ : Shared, s₃ = { s2 with heap := h₁, toks := s2.toks + ([] : List (Str × Value)).length } →
      codeAny (model X.prog X.w) X.A (.compLoop (.ListComp elt [⟨target, iter, [], 0⟩] scope pos) 0 (.ref it) (.ref s2.heap.objs.size) (compEnvC scope cl HP2.objs.size X.env)) (RR (.ref s2.heap.objs.size) HP2.objs.size) s₃ := by
    rintro s₃ rfl
    refine comp_loop (fun m s' => ∃ (i : Nat) (ρ' : En) (σ' : St) (H' : Hp) (ds : List D) (vs : List V) (its : List Value) (n : Nat), m = xs.length - i ∧ i ≤ xs.length ∧ Inv X' [] σ' H' s' ∧ StOk X' ρ' σ' H' ∧ tn i s'.heap ∧ (∀ b ∈ fp, H' b = none) ∧
      H' s2.heap.objs.size = none ∧ s'.heap.get? s2.heap.objs.size = some { cls := .type "list", data := .seq its.toArray n } ∧ Reps X.K H' ds vs ∧ Vals vs its ∧ vs.length = i ∧ compD g te (xs.drop i) ρ' ds P) ?_ xs.length
      ⟨0, capE ρ k ix, capS σ k ix, H, [], [], [], 0, rfl, Nat.zero_le _, J0, S0, T.keep _ _ _ st (fun b hb o e => old b o e), fun b hb => (hf b hb).1, hfr, hacc, .nil, .nil, rfl, by simpa using hP⟩
    rintro m s' ⟨i, ρ', σ', H', ds, vs, its, n, rfl, hi, I', S', st', fr', hn', e', rr, rv, hl, hD⟩ E'
    obtain ⟨o1, o2⟩ := ok i H' (.of S'.same)
    have I1 := pinD I' hn' e'
    by_cases hlt' : i < xs.length
    · have e : xs.drop i = xs[i] :: xs.drop (i + 1) := List.drop_eq_getElem_cons hlt'
      rw [e] at hD
      obtain ⟨go, yl⟩ := o1 xs[i] (List.getElem?_eq_getElem hlt')
      refine thn (T.item X' rfl rfl rfl hc i _ s' σ' H' E' I1 (fpok fr') st' go) fun r s4 ⟨u, hr, h4⟩ => ?_
      subst hr
      refine thn h4 fun _ s5 ⟨x, H5, I5, r5, y5, st5, fr5⟩ => ?_
      obtain ⟨s45, rx5⟩ := yl x H5 y5
      have I5' := I5.pinned (fpok fr5) (T.obj _ _ st5)
      refine wpAny_mono (hg _ _ _ _ _ s5 σ' H5 x u (fun σ6 H6 => ∃ ρ6, te ρ6 (fun d => compD g te (xs.drop (i + 1)) ρ6 (ds ++ [d]) P) ∧ Keep H5 H6 ∧ StOk X' ρ6 σ6 H6) I5' r5 ⟨xs[i], ρ', _, rx5, S'.ext s45, hD, fun ρ6 σ6 H6 q6 k6 s6 => ⟨ρ6, q6, k6, s6⟩⟩) (fun _ s6 ⟨σ6, H6, I6, ρ6, q6, k6, S6⟩ => ?_) fun _ _ z => z.elim
      refine wpAny_mono (he _ _ _ _ _ s6 σ6 H6 (fun v H7 => ∃ d, compD g te (xs.drop (i + 1)) ρ6 (ds ++ [d]) P ∧ Same H6 H7 ∧ Rep X.K H7 d v) I6 ⟨ρ6, _, S6, q6, fun d v H7 q7 s7 r7 => ⟨d, q7, s7, r7⟩⟩) (fun u7 s7 ⟨v7, H7, I7, rv7, d, q7, s67, r7⟩ => ?_) fun _ _ z => z.elim
      -- the list is as it was, and is grown
      obtain ⟨e7, n7, _, _, _⟩ := I7.pin (s2.heap.objs.size, _) (List.mem_append_right _ (List.mem_append_left _ List.mem_cons_self))
      have hsz : its.toArray.size + 1 ≤ sizeLine := by
        rw [List.size_toArray, ← rv.length, hl]
        omega
      refine call_meets F.slot_list_append ⟨_, e7, rfl⟩ F.entry_list_append (F.args_list_append_2 _ _) (PySem.list_append s2.heap.objs.size its.toArray n u7 (by omega)) ⟨e7, ?_⟩
      have e8 := PySem.IsL.update e7 (fun a => a.push u7)
      have I8 : Inv X' [] σ6 H7 s7 := I7.pins_of fun p hp => absurd hp (by simp)
      have upd8 : ∀ b o, b ≠ s2.heap.objs.size → s7.heap.get? b = some o → (s7.heap.update s2.heap.objs.size (Obj.mapSeq fun a => a.push u7)).get? b = some o := fun b o hb q => (Heap.get?_update_other s7.heap _ (Ne.symm hb)).trans q
      have I9 : Inv X' [] σ6 H7 { s7 with heap := s7.heap.update s2.heap.objs.size (Obj.mapSeq fun a => a.push u7) } :=
        I8.turned (t' := s7.toks) upd8 n7 (Nat.ne_of_lt hltC) (.inr (Nat.le_refl _)) (fun x c q z => by
          obtain ⟨v, hv⟩ := I2.cell x c (hcl x c q)
          exact absurd hv.lt (by rw [z]; exact Nat.lt_irrefl _)) (fun p hp => absurd (show p ∈ ([] : List (Addr × Obj)) from hp) (by simp))
      have k57 : Keep H5 H7 := k6.trans (.of s67)
      have k' : Keep H' H7 := (Keep.of s45).trans k57
      refine ⟨xs.length - (i + 1), by omega, i + 1, ρ6, σ6, H7, ds ++ [d], vs ++ [v7], its ++ [u7], _, rfl, hlt', I9, S6.ext s67, ?_, fun b hb => ?_, n7, by simpa using e8, (rr.keep k').append (.cons r7 .nil), rv.append (.cons rv7 .nil), by rw [List.length_append, hl]; rfl, q7⟩
      · refine T.keep _ _ _ st5 fun b hb o q => ?_
        have q7' := (I7.pin (b, o) (List.mem_append_right _ (List.mem_append_right _ (mem_pinsAt hb q)))).1
        exact upd8 b o (Nat.ne_of_lt (hlt b hb)) q7'
      · obtain ⟨o, q, _⟩ := T.obj _ _ st5 b hb
        exact (I7.pin (b, o) (List.mem_append_right _ (List.mem_append_right _ (mem_pinsAt hb q)))).2.1
    · have hie : i = xs.length := by omega
      subst hie
      rw [List.drop_length] at hD
      refine thn (T.done X' rfl rfl rfl hc _ _ s' σ' H' E' I1 (fpok fr') st' (o2 (Nat.le_refl _))) fun r s4 ⟨hr, I4⟩ => ?_
      subst hr
      obtain ⟨e4, n4, _, _, _⟩ := I4.pin (s2.heap.objs.size, _) (List.mem_append_right _ List.mem_cons_self)
      obtain ⟨m4, hn4, _⟩ := I4.loc
      have I5 : Inv X pins σ H' s4 := I2.call' (ch := fp) I4.os I4.base I4.hok I4.bare fun b hb => by
        obtain ⟨f0, f1, f2, f3, f4, f5⟩ := hf b hb
        exact ⟨f3, f1, f4, f5⟩
      exact post ds vs its n HP2.objs.size s4 H' hD S'.same n4 rr rv (by rw [hl]; exact hz) e4 I5 ⟨m4, hn4⟩ hltC I4.free
  exact codeAny_compStart_list (loop _ rfl) (T.self X.A 0 _ _ _ (T.keep _ _ _ st fun b hb o e => old b o e) (loop _ rfl))
end
end L2.R2

set_option Elab.async false
set_option linter.all false
set_option maxRecDepth 100000
namespace L2.R2
open PySem PySem.Spec PyProof.Rows L2

/-- all that is asked of a comprehension's names, in one look: N its own names (k of them), then those it takes from around; ix the slots of these around -/
def compB (X : Cx) (scope : Scope) (N : List Str) (k : Nat) (ix : List Nat) : Bool :=
  scope.kind == .function && scope.names.all (fun y => y.2 != .cell) && scope.names.all (fun y => y.2 != .local || scope.names.lookup y.1 == some .local) &&
  scope.names.all (fun y => y.2 != .free || X.env.kindOf y.1 == some .cell || X.env.kindOf y.1 == some .free) &&
  N.length == k + ix.length && ((N.drop k).zip ix).all (fun p => X.N[p.2]? == some p.1 && scope.names.contains (p.1, .free)) &&
  (N.drop k).all (fun y => (relabel scope X.env).names.lookup y == some .cell || (relabel scope X.env).names.lookup y == some .free)
structure CompF (X : Cx) (scope : Scope) (N : List Str) (k : Nat) (ix : List Nat) : Prop where
  sc : CScope X scope
  hN : N.length = k + (N.drop k).length
  hix : ix.length = (N.drop k).length
  hiy : ∀ (j : Nat) (y : Str) (i : Nat), (N.drop k)[j]? = some y → ix[j]? = some i → X.N[i]? = some y ∧ (y, NameKind.free) ∈ scope.names
  hkind : ∀ y ∈ N.drop k, (relabel scope X.env).names.lookup y = some .cell ∨ (relabel scope X.env).names.lookup y = some .free
theorem compB_ok {X : Cx} {scope : Scope} {N : List Str} {k : Nat} {ix : List Nat} (h : compB X scope N k ix = true) : CompF X scope N k ix := by
  unfold compB at h
  simp only [Bool.and_eq_true, List.all_eq_true, bne_iff_ne, ne_eq, Bool.or_eq_true, beq_iff_eq] at h
  obtain ⟨⟨⟨⟨⟨⟨h1, h2⟩, h3⟩, h4⟩, h5⟩, h6⟩, h7⟩ := h
  have hl : (N.drop k).length = ix.length := by rw [List.length_drop]; omega
  refine ⟨⟨h1, h2, fun y hy e => ?_, fun y hy e => ?_⟩, by omega, hl.symm, fun j y i e1 e2 => ?_, h7⟩
  · rcases h3 y hy with q | q
    · exact absurd e q
    · exact q
  · rcases h4 y hy with (q | q) | q
    · exact absurd e q
    · exact .inl q
    · exact .inr q
  · have hm : (y, i) ∈ (N.drop k).zip ix := by
      refine List.mem_of_getElem? (i := j) ?_
      rw [List.getElem?_zip_eq_some]
      exact ⟨e1, e2⟩
    obtain ⟨q1, q2⟩ := h6 _ hm
    exact ⟨q1, List.contains_iff_mem.mp q2⟩
def rComp (ti : RA) (k : Nat) (ix : List Nat) (g : RG) (te : RE) : RA := fun ρ Q => ti ρ fun xs => Sz xs.length ∧ compD g te xs (capE ρ k ix) [] Q
section
variable {X : Cx} {scope : Scope} {elt target iter : Expr} {pos : Pos} {g : RG} {te : RE} {ti : RA}
/-- the facts of a fresh block's frame -/
theorem fresh_frame {pins : List (Addr × Obj)} {σ : St} {H H' : Hp} {s s' : Shared} {C : Addr} {h' : Heap} {t' : Nat} (I2 : Inv X pins σ H s) {σ' : St} (I' : Inv X pins σ' H' s') (hC : s.heap.objs.size ≤ C) (hn : H' C = none) (hs : Heap.SameBut C s'.heap h') :
    Inv X pins σ' H' { s' with heap := h', toks := t' } :=
  I'.turned (fun b o hb e => (hs.2 b hb).trans e) hn (Nat.ne_of_gt (Nat.lt_of_lt_of_le I2.lt hC)) (.inr (Nat.le_trans I2.sz hC)) (fun x c e z => by
    obtain ⟨v, hv⟩ := I2.cell x c e
    exact absurd (Nat.lt_of_lt_of_le hv.lt (by rw [z]; exact hC)) (Nat.lt_irrefl _)) fun p hp z => absurd (Nat.lt_of_lt_of_le (Heap.lt_size (I2.pin p hp).1) (by rw [z]; exact hC)) (Nat.lt_irrefl _)
theorem do_comp (N : List Str) (k : Nat) (ix : List Nat) (hi : DI X target iter ti) (hg : ∀ cl C s H fp, DG (cxComp X scope N cl C s H fp) target g) (he : ∀ cl C s H fp, DE (cxComp X scope N cl C s H fp) elt te)
    (hc : X.calm = true := by rfl) (hB : compB X scope N k ix = true := by rfl) (hs : ∀ x, foldedSetIterable iter X.env x = pure x := by intro _; rfl) : DO X (.ListComp elt [⟨target, iter, [], 0⟩] scope pos) (rComp ti k ix g te) := by
  intro pins s σ H Q I ⟨ρ, P, so, q, kk⟩
  have F := compB_ok hB
  obtain ⟨cl, hclos, hcl, hall⟩ := closure_ok (scope := scope) (env := X.env) fun y hy hf => I.ok.has _ (F.sc.frees y hy hf)
  rw [eval_ListComp]
  refine wpAny_comprehension_free (use := none) rfl hs hclos F.sc.kind F.sc.locs (thn (hi pins s σ H (fun J H' => ∃ xs, Same H H' ∧ ItOk X J xs H' ∧ xs.length ≤ sizeLine ∧ compD g te xs (capE ρ k ix) [] P) I ⟨ρ, _, so, q, fun xs J H' hx s1 ok => ⟨xs, s1, ok, hx.1.ok, hx.2⟩⟩) fun v s1 h1 => thn h1 fun itv s2 h2 => ?_)
  obtain ⟨it, fp, tn, J, H', rfl, I2, T, st, hf, xs, s01, ok, hz, hD⟩ := h2
  refine comp_core (RR := fun acc C => compPost (model X.prog X.w) X.A X.xe none (EP X pins σ Q) acc C) hc F.sc hcl hall F.hN rfl F.hix F.hiy F.hkind (hg cl) (he cl) I2 (so.ext s01) T st hf ok hz hD ?_
  intro ds vs its n C s' H2 hP s12 hn rr rv hl e I' ⟨m, hns⟩ hltC hnC
  refine ⟨m, hns, fun h' hs' => ?_⟩
  have I3 : Inv X pins σ H2 { s' with heap := h' } := fresh_frame (t' := s'.toks) I2 I' (Nat.le_of_lt hltC) hnC hs'
  have e3 : h'.get? s2.heap.objs.size = some { cls := .type "list", data := .seq its.toArray n } := (hs'.2 _ (Nat.ne_of_lt hltC)).trans e
  exact ⟨.ref s2.heap.objs.size, _, I2.track I3 (Nat.le_refl _) hn e3 rv hl, rfl, kk ds _ vs H2 hP (s01.trans s12) hn rr⟩
/-- y = [.. for .. in ..] on one row, y a plain local name -/
theorem ds_setC {i : Nat} {y : Str} {pos' spos : Pos} (N : List Str) (k : Nat) (ix : List Nat) (hN : X.N.Nodup) (hi : DI X target iter ti) (hg : ∀ cl C s H fp, DG (cxComp X scope N cl C s H fp) target g) (he : ∀ cl C s H fp, DE (cxComp X scope N cl C s H fp) elt te)
    (hy : X.N[i]? = some y := by rfl) (hx : X.env.scope.names.lookup y = some .local := by rfl) (hc : X.calm = true := by rfl) (hB : compB X scope N k ix = true := by rfl) (hs : ∀ x, foldedSetIterable iter X.env x = pure x := by intro _; rfl)
    (hsw : swapsWith (.ListComp elt [⟨target, iter, [], 0⟩] scope pos) (some (.Name y pos')) spos.line X.env = pure true := by rfl) :
    DS X (.Assign [.Name y pos'] (.ListComp elt [⟨target, iter, [], 0⟩] scope pos) spos) (rSetO i (rComp ti k ix g te)) := by
  intro pins s σ H De I ⟨ρ, E, so, q, nn, rt, bk, ct⟩
  have F := compB_ok hB
  obtain ⟨cl, hclos, hcl, hall⟩ := closure_ok (scope := scope) (env := X.env) fun y hy hf => I.ok.has _ (F.sc.frees y hy hf)
  rw [exec_Assign_Name_used _ _ _ _ hsw]
  refine wpAny_bind (wpAny_standAt (wpAny_bind ?_))
  show wpAny _ X.A (do let _ ← comprehension (.ListComp elt [⟨target, iter, [], 0⟩] scope pos) scope X.env _ (newList []) false (eval iter X.env) (some (assign (.Name y pos') X.env))) _ _ s
  refine wpAny_bind (wpAny_mono (wpAny_comprehension_free (use := some (assign (.Name y pos') X.env)) (Q := fun _ s' => SP X pins De .next s') rfl hs hclos F.sc.kind F.sc.locs
    (thn (hi pins s σ H (fun J H' => ∃ xs, Same H H' ∧ ItOk X J xs H' ∧ xs.length ≤ sizeLine ∧ compD g te xs (capE ρ k ix) [] (fun ds => E.nx (ρ.set i (some (.own ds))))) I ⟨ρ, _, so, q, fun xs J H' hx s1 ok => ⟨xs, s1, ok, hx.1.ok, hx.2⟩⟩) fun v s1 h1 => thn h1 fun itv s2 h2 => ?_)) (fun _ s' hq => wpAny_pure (wpAny_pure hq)) fun _ _ e => e)
  obtain ⟨it, fp, tn, J, H', rfl, I2, T, st, hf, xs, s01, ok, hz, hD⟩ := h2
  refine comp_core (RR := fun acc C => compPost (model X.prog X.w) X.A X.xe (some (assign (.Name y pos') X.env)) (fun _ s' => SP X pins De .next s') acc C) hc F.sc hcl hall F.hN rfl F.hix F.hiy F.hkind (hg cl) (he cl) I2 (so.ext s01) T st hf ok hz hD ?_
  intro ds vs its n C s' H2 hP s12 hn rr rv hl e I' ⟨m, hns⟩ hltC hnC
  have I3 := I2.track I' (Nat.le_refl _) hn e rv hl
  have hneC : s2.heap.objs.size ≠ C := Nat.ne_of_lt hltC
  have so3 : StOk X (ρ.set i (some (.own ds))) (σ.set i (some (.ref s2.heap.objs.size))) (upd H2 s2.heap.objs.size (.lst vs)) := (so.ext (s01.trans s12)).set_own hn rr
  have k3 : Keep H (upd H2 s2.heap.objs.size (.lst vs)) := (Keep.of (s01.trans s12)).trans (.of fun b o h => by rw [upd_ne (ne_of_none h hn)]; exact h)
  show wpAny (model X.prog X.w) X.A (assign (.Name y pos') X.env (.ref s2.heap.objs.size)) _ _ s'
  refine wpAny_assign_Name (store_ok2 I3 hN hy (.inl hx) (v := .ref s2.heap.objs.size) rfl (fun s4 I4 ⟨a, sb, ha⟩ => ?_) (.inr hx))
  have hCa : C ≠ a := by
    rcases ha with rfl | ha
    · exact Nat.ne_of_gt (Nat.lt_trans I2.lt hltC)
    · obtain ⟨v, hv⟩ := I2.cell _ a ha
      exact Nat.ne_of_gt (Nat.lt_trans hv.lt hltC)
  refine ⟨m, hns.sameBut sb hCa, fun h' hs' => ⟨_, _, fresh_frame (t' := s4.toks) I2 I4 (Nat.le_of_lt hltC) (by rw [upd_ne (Ne.symm hneC)]; exact hnC) hs', nn _ _ _ hP k3 so3⟩⟩
end
end L2.R2

set_option Elab.async false
set_option linter.all false
set_option maxRecDepth 100000
namespace L2.R2
open PySem PySem.Spec PyProof.Rows L2

/-! ## a list that a name keeps, changed in place -/
section
variable {X : Cx} {e a b : Expr} {pos apos cpos npos : Pos} {te : RE} {x : Str}
def rAppD (i : Nat) (te : RE) : RS := fun E ρ => match ρ[i]? with
  | some (some (.own xs)) => te ρ fun d => Sz (xs.length + 1) ∧ E.nx (ρ.set i (some (.own (xs ++ [d]))))
  | _ => False
theorem ds_append (i : Nat) (he : DE X e te) (hN : X.N[i]? = some x := by rfl) (hv : Vis X.env.scope x := by first | exact Or.inl rfl | exact Or.inr (Or.inl rfl) | exact Or.inr (Or.inr rfl)) (hd : (x == ("__debug__" : Str)) = false := by decide) (hcd : (x == ("__classdict__" : Str)) = false := by decide)
    (hbase : attributeBase (.Name x npos) "append" X.env (eval (.Name x npos) X.env) = eval (.Name x npos) X.env := by rfl)
    (hfew : ((backTo cpos (starEach [e] X.env)).all (fun x => !x.1) && (backToKw cpos (keywordEach [] X.env)).all (fun x => x.1.isSome) && decide (([e] : List Expr).length + ([] : List Keyword).length + (if ([] : List Keyword).isEmpty then 0 else 1) < 30)) = true := by rfl)
    (hline : (apos.endLine == cpos.line) = true := by rfl) (hs : starEach [e] X.env = [(false, eval e X.env)] := by rfl) (hn : starEach [] X.env = [] := by rfl) (hsw : swapsWith (.Call (.Attribute (.Name x npos) "append" apos) [e] [] cpos) none pos.line X.env = pure false := by rfl) :
    DS X (.Expr (.Call (.Attribute (.Name x npos) "append" apos) [e] [] cpos) pos) (rAppD i te) := by
  refine PS.mono (ps_expr (pe_bm PySem.F.plainAttrs_list PySem.F.slot_list_append PySem.F.type_list_append mt_append (pv i hN hv hd hcd) (pa_one he hs hn) hbase hfew hline (by rw [hs, hn]) (by rw [hn]; rfl)) hsw) fun De σ H ⟨ρ, E, so, q, n, r, bk, ct⟩ => ?_
  unfold rAppD at q
  split at q
  · rename_i xs ex
    obtain ⟨v, h1, p, vs, ev, hp, h0, rr⟩ := so.rel i _ ex
    subst ev
    refine ⟨.ref p, h1, .inl ⟨rfl, vs, SqL.of hp⟩, ρ, _, so, q, fun d v H1 hd s1 rd => ?_⟩
    have hp1 := s1 _ _ hp
    obtain ⟨so2, k2⟩ := (so.ext s1).upd_own ex h1 hp1 h0 ((rr.keep (.of s1)).append (.cons rd .nil))
    have hsz : xs.length + 1 ≤ sizeLine := hd.1.ok
    exact ⟨p, vs, v, rfl, rfl, hp1, by rw [← rr.length]; omega, n _ _ _ hd.2 ((Keep.of s1).trans k2) so2⟩
  · exact q.elim
def rPopD (i : Nat) : RS := fun E ρ => match ρ[i]? with
  | some (some (.own xs)) => xs ≠ [] ∧ E.nx (ρ.set i (some (.own xs.dropLast)))
  | _ => False
theorem ds_pop (i : Nat) (hN : X.N[i]? = some x := by rfl) (hv : Vis X.env.scope x := by first | exact Or.inl rfl | exact Or.inr (Or.inl rfl) | exact Or.inr (Or.inr rfl)) (hd : (x == ("__debug__" : Str)) = false := by decide) (hcd : (x == ("__classdict__" : Str)) = false := by decide)
    (hbase : attributeBase (.Name x npos) "pop" X.env (eval (.Name x npos) X.env) = eval (.Name x npos) X.env := by rfl)
    (hline : (apos.endLine == cpos.line) = true := by rfl) (hsw : swapsWith (.Call (.Attribute (.Name x npos) "pop" apos) [] [] cpos) none pos.line X.env = pure false := by rfl) :
    DS X (.Expr (.Call (.Attribute (.Name x npos) "pop" apos) [] [] cpos) pos) (rPopD i) := by
  refine PS.mono (ps_expr (pe_bm0 PySem.F.plainAttrs_list PySem.F.slot_list_pop PySem.F.type_list_pop mt_pop (pv i hN hv hd hcd) hbase hline) hsw) fun De σ H ⟨ρ, E, so, q, n, r, bk, ct⟩ => ?_
  unfold rPopD at q
  split at q
  · rename_i xs ex
    obtain ⟨v, h1, p, vs, ev, hp, h0, rr⟩ := so.rel i _ ex
    subst ev
    have hl := rr.length
    have hne : 0 < xs.length := List.length_pos_iff.mpr q.1
    have hg : vs[vs.length - 1]? = some (vs[vs.length - 1]'(by omega)) := List.getElem?_eq_getElem _
    obtain ⟨so2, k2⟩ := so.upd_own ex h1 hp h0 rr.dropLast
    exact ⟨.ref p, h1, .inl ⟨rfl, vs, SqL.of hp⟩, p, vs, _, rfl, rfl, hp, hg, n _ _ _ q.2 k2 so2⟩
  · exact q.elim
/-- x[k] = e -/
def rSetIx (i : Nat) (te tk : RE) : RS := fun E ρ => match ρ[i]? with
  | some (some (.own xs)) => te ρ fun d => tk ρ fun kd => match kd with
    | .int k => match ixN xs.length k with
      | some j => E.nx (ρ.set i (some (.own (xs.set j d))))
      | none => False
    | _ => False
  | _ => False
theorem ds_setIx {k : Expr} {tk : RE} {spos : Pos} (i : Nat) (he : DE X e te) (hk : DE X k tk) (hN : X.N[i]? = some x := by rfl) (hv : Vis X.env.scope x := by first | exact Or.inl rfl | exact Or.inr (Or.inl rfl) | exact Or.inr (Or.inr rfl)) (hd : (x == ("__debug__" : Str)) = false := by decide) (hcd : (x == ("__classdict__" : Str)) = false := by decide)
    (ha : ∀ v, assign (.Subscript (.Name x npos) k spos) X.env v = (do
      let ov ← holding [v] (eval (.Name x npos) X.env)
      let iv ← holding [v, ov] (eval k X.env)
      standAt spos
      holding [v, ov, iv] (setItem ov iv v)
      release [v, ov, iv] []) := by intro _; rfl)
    (hs : swapsWithSole [.Subscript (.Name x npos) k spos] e pos.line X.env = pure false := by rfl) (hw : swappedStores [.Subscript (.Name x npos) k spos] e X.env = pure none := by rfl)
    (h1 : (assignEach [.Subscript (.Name x npos) k spos] X.env).map (·.2) = [assign (.Subscript (.Name x npos) k spos) X.env] := by rfl) :
    DS X (.Assign [.Subscript (.Name x npos) k spos] e pos) (rSetIx i te tk) := by
  refine PS.mono (ps_asg he (pg_sub (pv i hN hv hd hcd) hk set_list ha) hs hw h1) fun De σ H ⟨ρ, E, so, q, n, r, bk, ct⟩ => ?_
  unfold rSetIx at q
  split at q
  · rename_i xs ex
    obtain ⟨w', h1, p, vs, ev, hp, h0, rr⟩ := so.rel i _ ex
    subst ev
    refine ⟨ρ, _, so, q, fun d v H1 q1 s1 rd => ⟨.ref p, h1, ρ, _, so.ext s1, q1, fun kd u H2 q2 s2 rk => ?_⟩⟩
    cases kd with
    | int k =>
      dsimp only at q2
      split at q2
      · rename_i j hj
        have hp2 := (s1.trans s2) _ _ hp
        obtain ⟨so2, k2⟩ := ((so.ext s1).ext s2).upd_own ex h1 hp2 h0 ((rr.keep (.of (s1.trans s2))).set (rd.keep (.of s2)) j)
        exact ⟨p, vs, k, j, rfl, rk.int_inv, hp2, by rw [← rr.length]; exact hj, n _ _ _ q2 ((Keep.of (s1.trans s2)).trans k2) so2⟩
      · exact q2.elim
    | _ => exact q2.elim
  · exact q.elim
end
end L2.R2

set_option Elab.async false
set_option linter.all false
set_option maxRecDepth 100000
namespace L2.R2
open PySem PySem.Spec PyProof.Rows L2

/-! ## sums of sequences, parts of sequences -/
section
variable {X : Cx} {e a b : Expr} {pos p : Pos}
/-- list + list, whoever keeps them -/
theorem op_catS : OpR X (binaryOp .Add) (fun x y H Q => ∃ l b xs zs, x = .ref l ∧ y = .ref b ∧ SqL X.K H l xs ∧ SqL X.K H b zs ∧ xs.length + zs.length ≤ sizeLine ∧ ∀ p, H p = none → Q (.ref p) (upd H p (.lst (xs ++ zs)))) := by
  intro pins s σ H x y v u Q I rx ry h
  obtain ⟨l, b, xs, zs, rfl, rfl, hH, hB, hz, q⟩ := h
  cases rx
  cases ry
  obtain ⟨its, r, ⟨o, n, e, hc, hd, hs⟩, hl⟩ := I.list hH
  obtain ⟨its2, r2, ⟨o2, n2, e2, hc2, hd2, hs2⟩, hl2⟩ := I.list hB
  obtain ⟨c, d, dt, sl⟩ := o
  obtain ⟨c2, d2, dt2, sl2⟩ := o2
  dsimp only at hc hs hd hc2 hs2 hd2
  subst hc hs hd hc2 hs2 hd2
  have hl1 := r.length
  have hl2 := r2.length
  refine concat_meets (T := "list") (id := "list.__add__") ⟨_, e, rfl⟩ ⟨_, e2, rfl⟩ (by kernel_rfl) (by kernel_rfl) PySem.F.slot_list_add PySem.F.entry_list_add (PySem.F.args_list_add_2 _ _)
    (list_addW l b its.toArray its2.toArray n n2 none none sl sl2 (by rw [List.size_toArray, List.size_toArray]; omega)) ⟨e, e2, ?_⟩
  have ea : its.toArray ++ its2.toArray = (its ++ its2).toArray := by simp
  rw [ea]
  exact ⟨.ref _, _, I.lnew (t' := s.toks) (r.append r2) (by rw [List.length_append]; omega), rfl, q _ I.fresh⟩
/-- Q, or Q once the fresh list is frozen -/
def FzQ (X : Cx) (Q : VK) : VK := fun v H' => Q v H' ∨ ∃ p vs H1, v = .ref p ∧ H' = upd H1 p (.lst vs) ∧ H1 p = none ∧ ∀ H2, Same H1 H2 → FzL X.K H2 p vs → Q v H2
theorem ep_fz {pins : List (Addr × Obj)} {σ : St} {Q : VK} {u : Value} {s : Shared} (h : EP X pins σ (FzQ X Q) u s) : EP X pins σ Q u s := by
  obtain ⟨v, H', I, rv, q | ⟨p, vs, H1, rfl, rfl, hn, q⟩⟩ := h
  · exact ⟨v, H', I, rv, q⟩
  · obtain ⟨o, I2⟩ := Inv.freeze I (a := p) (xs := vs) upd_same
    exact ⟨.ref p, _, I2, rv, q _ (fun b u e => by rw [upd_ne (ne_of_none e hn), upd_ne (ne_of_none e hn)]; exact e) (.inl ⟨o, upd_same⟩)⟩
theorem PE.frz {t : TE} (h : PE X e t) : PE X e (fun σ H Q => t σ H (FzQ X Q)) := fun pins s σ H Q I q => thn (h pins s σ H _ I q) fun _ _ => ep_fz
theorem OpR.frz {f : Value → Value → Sem Value} {r : R2} (h : OpR X f r) : OpR X f (fun x y H Q => r x y H (FzQ X Q)) := fun pins s σ H x y v u Q I rx ry q => thn (h pins s σ H x y v u _ I rx ry q) fun _ _ => ep_fz
theorem CallR.frz {f : Value} {r : List V → Hp → VK → Prop} (h : CallR X f r) : CallR X f (fun xs H Q => r xs H (FzQ X Q)) := fun pins s σ H xs us Q I rs q => thn (h pins s σ H xs us _ I rs q) fun _ _ => ep_fz
def dAddA : R22 := fun x y Q => match x, y with
  | .int i, .int j => Q (.int (i + j))
  | .lst xs, .lst ys => Sz (xs.length + ys.length) ∧ Q (.lst (xs ++ ys))
  | .tup xs, .tup ys => xs ≠ [] ∧ Sz (xs.length + ys.length) ∧ Q (.tup (xs ++ ys))
  | _, _ => False
theorem upd_new {H : Hp} {p : Addr} {o : HO} (hp : H p = none) : Same H (upd H p o) := fun b u e => by rw [upd_ne (ne_of_none e hp)]; exact e
theorem od_addA : OpD X (binaryOp .Add) dAddA := by
  intro pins s σ H x y v u Q I rx ry ⟨d, e, P, r1, r2, q, k⟩
  unfold dAddA at q; split at q
  · exact od_add pins s σ H x y v u Q I rx ry ⟨_, _, P, r1, r2, q, k⟩
  · rename_i xs ys
    obtain ⟨a, vs, rfl, ha, ra⟩ := r1.lst
    obtain ⟨b, ws, rfl, hb, rb⟩ := r2.lst
    have hsz : xs.length + ys.length ≤ sizeLine := q.1.ok
    refine OpR.frz op_catS pins s σ H _ _ v u Q I rx ry ⟨a, b, vs, ws, rfl, rfl, ha, hb, by rw [← ra.length, ← rb.length]; exact hsz, fun p hp => .inr ⟨p, _, H, rfl, rfl, hp, fun H2 s2 fz => k _ _ H2 q.2 s2 (.lst fz ((ra.append rb).keep (.of s2)))⟩⟩
  · rename_i xs ys
    obtain ⟨a, vs, rfl, ha, ra⟩ := r1.tup
    obtain ⟨b, ws, rfl, hb, rb⟩ := r2.tup
    have hsz : xs.length + ys.length ≤ sizeLine := q.2.1.ok
    have hl := ra.length
    refine op_catT pins s σ H _ _ v u Q I rx ry ⟨a, b, vs, ws, rfl, rfl, SqT.of ha, SqT.of hb, fun z => q.1 (List.length_eq_zero_iff.mp (by rw [hl, z]; rfl)), by rw [← ra.length, ← rb.length]; exact hsz, fun z => ?_, fun z p hp => ?_⟩
    · subst z
      cases rb
      have := k _ (.ref a) H q.2.2 (Same.refl H)
      rw [List.append_nil] at this
      exact this (.tup ha ra)
    · exact k _ _ _ q.2.2 (upd_new hp) (.tup upd_same ((ra.append rb).keep (.of (upd_new hp))))
  · exact q.elim
/-- a slice of a list or of a tuple, of a tuple not the whole -/
def rSlA (te : RE) (tl th : RO) : RE := fun ρ Q => te ρ fun x => tl ρ fun l => th ρ fun u => match x with
  | .lst ds => Q (.lst (cutD ds l u))
  | .tup ds => ¬ (HT.sIx ds.length 0 l = 0 ∧ HT.sIx ds.length ds.length u = ds.length) ∧ Q (.tup (cutD ds l u))
  | _ => False
theorem cut_reps {K : PySem.W.Frag} {H : Hp} {ds : List D} {vs : List V} (l u : Option Int) (rr : Reps K H ds vs) : Reps K H (cutD ds l u) (cutV vs l u) := by
  unfold cutD cutV
  rw [← rr.length]
  exact (rr.drop _).take _
theorem de_slice {lo hi : Option Expr} {te : RE} {tl th : RO} {p2 : Pos} (he : DB X e te) (hl : DP X lo tl) (hu : DP X hi th) : DE X (.Subscript e (.Slice lo hi none p2) pos) (rSlA te tl th) := by
  refine PE.mono (PE.frz (pe_slice (sl_list.or sl_tup) he hl hu)) fun σ H Q ⟨ρ, P, st, q, k⟩ => ?_
  refine ⟨ρ, _, st, q, fun d v H1 hd s1 r1 => ⟨ρ, _, st.ext s1, hd, fun l H2 h2 s2 => ⟨ρ, _, (st.ext s1).ext s2, h2, fun u H3 h3 s3 => ?_⟩⟩⟩
  have s03 := (s1.trans s2).trans s3
  cases d with
  | lst ds =>
    obtain ⟨p, vs, rfl, hq, rr⟩ := (r1.same (s2.trans s3)).lst
    exact .inl ⟨p, vs, rfl, hq, fun p' hp' => .inr ⟨p', _, H3, rfl, rfl, hp', fun H4 s4 fz => k _ _ H4 h3 (s03.trans s4) (.lst fz ((cut_reps l u rr).keep (.of s4)))⟩⟩
  | tup ds =>
    obtain ⟨p, vs, rfl, hq, rr⟩ := (r1.same (s2.trans s3)).tup
    refine .inr ⟨p, vs, rfl, SqT.of hq, by rw [← rr.length]; exact h3.1, fun p' hp' => .inl ?_⟩
    exact k _ _ _ h3.2 (s03.trans (upd_new hp')) (.tup upd_same ((cut_reps l u rr).keep (.of (upd_new hp'))))
  | _ => exact h3.elim

/-! ## list(x), tuple(x), sum, max, min of a list -/
variable {te : RE}
def dListOf : D → (D → Prop) → Prop := fun d Q => match d with
  | .lst ds => Q (.lst ds)
  | .tup ds => Q (.lst ds)
  | _ => False
theorem boot_list : bootBuiltins "list" = some (.type "list") := by decide +kernel
theorem boot_tuple : bootBuiltins "tuple" = some (.type "tuple") := by decide +kernel
def dTupOf : D → (D → Prop) → Prop := fun d Q => match d with
  | .lst ds => Q (.tup ds)
  | .tup ds => Q (.tup ds)
  | _ => False
theorem de_tupOf (hm : X.mg "tuple" = none) (h : DB X e te) (hg : Gl X "tuple" := by rfl) (hs : starEach [e] X.env = [(false, eval e X.env)] := by rfl) (hn : starEach [] X.env = [] := by rfl) : DE X (.Call (.Name "tuple" p) [e] [] pos) (r1 dTupOf te) := by
  refine PE.mono (pe_callTy call_tuple_of hg hm boot_tuple (pa_one h hs hn) (by decide) (by decide) (by rw [hs, hn]) (by rw [hn]; rfl)) fun σ H Q ⟨ρ, P, st, q, k⟩ => ⟨ρ, _, st, q, fun d v H1 hd s1 r => ?_⟩
  unfold dTupOf at hd; split at hd
  · obtain ⟨p, vs, rfl, hq, rr⟩ := r.lst
    exact ⟨p, vs, rfl, .inl ⟨hq, fun p' hp' => k _ _ _ hd (s1.trans (upd_new hp')) (.tup upd_same (rr.keep (.of (upd_new hp'))))⟩⟩
  · obtain ⟨p, vs, rfl, hq, rr⟩ := r.tup
    exact ⟨p, vs, rfl, .inr ⟨SqT.of hq, k _ _ H1 hd s1 (.tup hq rr)⟩⟩
  · exact hd.elim
theorem intItems_of : ∀ {ns : List Int} {its : List Value}, Vals (ns.map V.int) its → ∃ xs : List (Int × Tok), its.toArray = intItems xs.toArray ∧ xs.map Prod.fst = ns
  | [], _, .nil => ⟨[], by simp [intItems], rfl⟩
  | n :: ns, _, .cons ⟨t, rfl⟩ r => by
    obtain ⟨xs, h1, h2⟩ := intItems_of r
    refine ⟨(n, t) :: xs, ?_, by simp [h2]⟩
    have h3 := congrArg Array.toList h1
    simp [intItems] at h3 ⊢
    exact h3
theorem numAt_get {ys : List (Int × Tok)} {ns : List Int} (h : ys.map Prod.fst = ns) {i : Nat} (hi : i < ns.length) : numAt ys.toArray i = ns[i] := by
  subst h
  have hi' : i < ys.length := by simpa using hi
  simp [numAt, hi']
theorem call_maxS (hc : X.calm = true) : CallR X (.builtin "max") (fun xs H Q => ∃ (p : Addr) (ns : List Int), xs = [.ref p] ∧ SqL X.K H p (ns.map V.int) ∧ ns ≠ [] ∧ ∀ M, M ∈ ns → (∀ a ∈ ns, a ≤ M) → Q (.int M) H) := by
  intro pins s σ H xs us Q I r h
  obtain ⟨p, ns, rfl, hq, hne, q⟩ := h
  obtain ⟨u, rfl, rx⟩ := vals1 r
  cases rx
  obtain ⟨its, r', pl, hz⟩ := I.list hq
  obtain ⟨ys, h1, h2⟩ := intItems_of r'
  rw [h1] at pl
  have hl : ys.length = ns.length := by rw [← h2]; simp
  have hp : 0 < ns.length := List.length_pos_iff.mpr hne
  refine max_intList (I.ok.hd hc) pl.isList (by simpa [hl] using hp) fun v h' tk hv hk => ?_
  obtain ⟨t, rfl⟩ := intItems_at hv
  obtain ⟨g1, g2⟩ := argBest_gt (numAt ys.toArray) (ys.toArray.size - 1)
  have g3 : argBest (fun i j => decide (numAt ys.toArray i > numAt ys.toArray j)) (ys.toArray.size - 1) < ns.length := by rw [← hl]; simp at g1 ⊢; omega
  refine ⟨.int _, H, I.kept hk, ⟨t, rfl⟩, q _ ?_ fun a ha => ?_⟩
  · rw [numAt_get h2 g3]; exact List.getElem_mem g3
  · obtain ⟨j, hj, rfl⟩ := List.getElem_of_mem ha
    rw [← numAt_get h2 hj]
    exact g2 j (by simp [hl]; omega)
def dSum : D → (D → Prop) → Prop := fun d Q => match d with
  | .lst ds => ∃ ns : List Int, ds = ns.map D.int ∧ Q (.int ns.sum)
  | _ => False
def dMaxL : D → (D → Prop) → Prop := fun d Q => match d with
  | .lst ds => ∃ ns : List Int, ds = ns.map D.int ∧ ns ≠ [] ∧ ∀ M, M ∈ ns → (∀ a ∈ ns, a ≤ M) → Q (.int M)
  | _ => False
theorem boot_max : bootBuiltins "max" = some (.builtin "max") := by decide +kernel
theorem boot_min : bootBuiltins "min" = some (.builtin "min") := by decide +kernel
theorem de_maxL (hm : X.mg "max" = none) (hc : X.calm = true) (h : DB X e te) (hg : Gl X "max" := by rfl) (hs : starEach [e] X.env = [(false, eval e X.env)] := by rfl) (hn : starEach [] X.env = [] := by rfl) : DE X (.Call (.Name "max" p) [e] [] pos) (r1 dMaxL te) := by
  refine PE.mono (pe_callB (call_maxS hc) hg hm boot_max (pa_one h hs hn) (by decide) (by decide) (by rw [hs, hn]) (by rw [hn]; rfl)) fun σ H Q ⟨ρ, P, st, q, k⟩ => ⟨ρ, _, st, q, fun d v H1 hd s1 r => ?_⟩
  unfold dMaxL at hd; split at hd
  · obtain ⟨ns, rfl, hne, hd⟩ := hd
    obtain ⟨p, vs, rfl, hq, rr⟩ := r.lst
    rw [rr.ints_inv] at hq
    exact ⟨p, ns, rfl, hq, hne, fun M m1 m2 => k _ _ H1 (hd M m1 m2) s1 (.int _)⟩
  · exact hd.elim
end
end L2.R2

set_option Elab.async false
set_option linter.all false
set_option maxRecDepth 100000
namespace L2.R2
open PySem PySem.Spec PyProof.Rows L2

/-! ## reversed(the list at a), n items -/
def Itv (K : PySem.W.Frag) (a : Addr) (n : Nat) : It :=
  ⟨fun i H => ∃ xs x, SqL K H a xs ∧ xs.length = n ∧ xs.reverse[i]? = some x, fun i H x H' => H' = H ∧ ∀ xs, SqL K H a xs → xs.reverse[i]? = some x, fun i H => ∃ xs, SqL K H a xs ∧ xs.length = n ∧ n ≤ i⟩
theorem turn_rev {P : Program} {w : World} {K : PySem.W.Frag} {tg : Expr} (a it : Addr) (n : Nat) : Turn P w K tg (Itv K a n) [it] it (fun i h => i ≤ n ∧ h.IsRevIter it a ((n : Int) - 1 - (i : Int))) where
  mem := by simp
  obj := fun i h st b hb => by
    have e : b = it := by simpa using hb
    subst e
    obtain ⟨_, o, e, c, d⟩ := st
    exact ⟨o, e, fun v z => by rw [d] at z; cases z⟩
  keep := fun i h h' st k => ⟨st.1, st.2.at fun o e => k it (by simp) o e⟩
  item := by
    intro X hP hw hK hc i pins s σ H E I hf st hg
    subst hP hw hK
    obtain ⟨hi, st⟩ := st
    obtain ⟨xs, x, hq, hn, hx⟩ := hg
    obtain ⟨its, rv, p, hz⟩ := I.list hq
    have hlt : i < n := by
      have := (List.getElem?_eq_some_iff.mp hx).1
      simpa [hn] using this
    have hx2 : xs[n - 1 - i]? = some x := by
      rw [List.getElem?_reverse (by omega)] at hx
      rw [← hx, hn]
    obtain ⟨u, hu, ru⟩ := rv.get hx2
    obtain ⟨f0, f1, f2, f3, f4, f5⟩ := hf it (by simp)
    have ei : (n : Int) - 1 - (i : Int) = ((n - 1 - i : Nat) : Int) := by omega
    rw [ei] at st
    refine wpAny_pyNext_rev_item st p.isList (x := u) (by simpa using hu) fun h' st' sb => ?_
    have e2 : ((n - 1 - i : Nat) : Int) - 1 = (n : Int) - 1 - ((i + 1 : Nat) : Int) := by omega
    rw [e2] at st'
    have I1 : Inv X pins σ H { s with heap := h' } := I.turned (t' := s.toks) (fun b o hb e => (sb.2 b hb).trans e) f0 f1 f3 f4 f5
    obtain ⟨o, e, c, d⟩ := id st'
    exact ⟨u, rfl, go_of (s := { s with heap := h' }) e c d (by decide) ⟨x, H, I1, ru, ⟨rfl, fun ys hy => by rw [I.list_inj hy hq]; exact hx⟩, ⟨hlt, st'⟩, fun b hb => (hf b hb).1⟩⟩
  done := by
    intro X hP hw hK hc i pins s σ H E I hf st hg
    subst hP hw hK
    obtain ⟨hi, st⟩ := st
    obtain ⟨xs, hq, hn, hx⟩ := hg
    obtain ⟨f0, f1, f2, f3, f4, f5⟩ := hf it (by simp)
    have e : i = n := by omega
    subst e
    have ei : (i : Int) - 1 - (i : Int) = -1 := by omega
    rw [ei] at st
    exact wpAny_pyNext_rev_end (I.ok.hd hc) st fun h' eb => ⟨rfl, I.turned (t' := s.toks) (fun b o hb e => eb b o hb e) f0 f1 f3 f4 f5⟩
  self := fun _ _ _ _ _ st h => wpAny_pyIter_revIter st.2 h
section
variable {X : Cx} {tg e : Expr} {te : RE} {pos p : Pos}
def riRev (te : RE) : RA := fun ρ Q => te ρ fun d => match d with
  | .lst ds => Q ds.reverse
  | _ => False
theorem boot_reversed : bootBuiltins "reversed" = some (.type "reversed") := by decide +kernel
theorem di_rev (hm : X.mg "reversed" = none) (h : DE X e te) (hg : Gl X "reversed" := by rfl) (hs : starEach [e] X.env = [(false, eval e X.env)] := by rfl) (hn : starEach [] X.env = [] := by rfl) :
    DI X tg (.Call (.Name "reversed" p) [e] [] pos) (riRev te) := by
  intro pins s σ H R I ⟨ρ, P, st, q, kk⟩
  refine Call_ (ld_blt I hg hm boot_reversed (PyProof.Rows.callWith_type1 (thn (pa_one h hs hn pos pins s σ H (fun vs H1 => ∃ a ds us, vs = [V.ref a] ∧ Same H H1 ∧ P ds.reverse ∧ FzL X.K H1 a us ∧ Reps X.K H1 ds us) I ⟨ρ, _, st, q, fun d v H1 hd s1 r => ?_⟩) fun us s1 ⟨vs, H1, I1, r1, q1⟩ => ?_) (by rw [hs, hn]) (by rw [hn]; rfl)))
  · cases d with
    | lst ds =>
      cases r with
      | @lst a vs _ hz rr => exact ⟨a, ds, vs, rfl, s1, hd, hz, rr⟩
    | _ => exact hd.elim
  obtain ⟨a, ds, ws, rfl, s01, hp, hz, rr⟩ := q1
  obtain ⟨u, rfl, ru⟩ := vals1 r1
  cases ru
  obtain ⟨its, rv, pl, hzz⟩ := I1.list hz.sq
  have hl := rv.length
  refine call_reversed_list pl.isList ?_
  have hit : ({ s1 with heap := s1.heap.push (revObj a ((its.toArray.size : Int) - 1)) } : Shared).heap.IsRevIter s1.heap.objs.size a ((ws.length : Int) - 1 - ((0 : Nat) : Int)) := ⟨_, Heap.get?_push_size _ rfl, rfl, by simp [revObj, hl]⟩
  refine wpAny_pyIter_revIter hit ⟨s1.heap.objs.size, [s1.heap.objs.size], _, _, H1, rfl, I1.kept (t' := s1.toks) fun b o e => Heap.get?_push_of_some _ e, turn_rev a _ ws.length, ⟨Nat.zero_le _, hit⟩, fun b hb => ?_, ?_⟩
  · rw [List.mem_singleton.mp hb]; exact (I1.fpOk (Nat.le_refl _) (I1.hok.fresh (Nat.le_refl _)))
  · refine kk ds.reverse _ H1 hp s01 fun i H2 kp => ⟨fun d ed => ?_, fun hl => ⟨ws, (hz.keep kp).sq, rfl, by rw [← rr.length]; simpa using hl⟩⟩
    obtain ⟨v, h1, h2⟩ := (rr.reverse.keep kp).get ed
    refine ⟨⟨ws, v, (hz.keep kp).sq, rfl, h1⟩, fun x H' y => ?_⟩
    obtain ⟨rfl, hy⟩ := y
    have e3 := hy ws (hz.keep kp).sq
    rw [h1] at e3; cases e3
    exact ⟨Same.refl _, h2⟩
end
end L2.R2

set_option Elab.async false
set_option linter.all false
set_option maxRecDepth 100000
set_option maxHeartbeats 1000000
namespace L2.R2
open PySem PySem.Spec PyProof.Rows L2

/-! ## an iterator over a list or a tuple that another one draws from -/
structure Sub (prog : Program) (w : World) (I a : Addr) (vs : List Value) (T : Nat → Heap → Prop) : Prop where
  stay : ∀ {k : Nat} {h h' : Heap}, T k h → (∀ o, h.get? I = some o → h'.get? I = some o) → (∀ o, h.get? a = some o → h'.get? a = some o) → T k h'
  lt : ∀ {k : Nat} {h : Heap}, T k h → I < h.objs.size ∧ a < h.objs.size
  item : ∀ {A : Around} {E : Value → Shared → Prop} {s : Shared} {k : Nat} {x : Value} {Q : Value → Shared → Prop}, T k s.heap → vs[k]? = some x → (∀ h', T (k + 1) h' → Heap.SameBut I s.heap h' → Q x { s with heap := h' }) →
    wpAny (model prog w) A (Builtin.SmallTypes.nextOf (.ref I)) Q E s
  done : ∀ {A : Around} {E : Value → Shared → Prop} {s : Shared} {k : Nat} {Q : Value → Shared → Prop}, A.handled = none → T k s.heap → vs[k]? = none →
    (∀ h' e, Heap.ExtBut I s.heap h' → (∃ o, h'.get? e = some o ∧ o.cls = .type "StopIteration") → E (.ref e) { s with heap := h' }) → wpAny (model prog w) A (Builtin.SmallTypes.nextOf (.ref I)) Q E s
section
variable {prog : Program} {w : World} {A : Around} {E : Value → Shared → Prop} {s : Shared}
end
/-! ## zip over two of these, its tuples kept by who draws -/
abbrev ZipRec (h : Heap) (z TI TO : Addr) (f0 f1 : Value) : Prop := h.get? z = some { cls := .type "zip", dict := none, data := .fields #[f0, f1, .bool false, .ref TI, .ref TO], slots := #[] }
/-- handed out: nothing, or a tuple that still stands -/
def ZipOut (h : Heap) (z TI TO i1 i2 : Addr) : Prop := ZipRec h z TI TO .none (.bool false) ∨ ∃ (T : Addr) (b : Bool) (o : Obj), ZipRec h z TI TO (rawInt T) (.bool b) ∧ (h.get? T = some o ∧ o.cls = .type "tuple") ∧ T ≠ z ∧ T ≠ i1 ∧ T ≠ i2
structure ZipAp (z TI TO i1 i2 a1 a2 : Addr) : Prop where
  TIz : TI ≠ z
  TOz : TO ≠ z
  i1z : i1 ≠ z
  i2z : i2 ≠ z
  a1z : a1 ≠ z
  a2z : a2 ≠ z
  IO : TI ≠ TO
  I1 : TI ≠ i1
  I2 : TI ≠ i2
  O1 : TO ≠ i1
  O2 : TO ≠ i2
  i12 : i1 ≠ i2
  a1O : a1 ≠ TO
  a2O : a2 ≠ TO
  a1i1 : a1 ≠ i1
  a1i2 : a1 ≠ i2
  a2i1 : a2 ≠ i1
  a2i2 : a2 ≠ i2
section
variable {prog : Program} {w : World} {A : Around} {E : Value → Shared → Prop} {s : Shared} {z TI TO i1 i2 a1 a2 : Addr} {vs us : List Value} {T1 T2 : Nat → Heap → Prop}
/-- its state, k pairs drawn -/
structure ZipSt (z TI TO i1 i2 : Addr) (T1 T2 : Nat → Heap → Prop) (k : Nat) (h : Heap) : Prop where
  out : ZipOut h z TI TO i1 i2
  its : IsPair h TI (.ref i1) (.ref i2)
  own : ∃ a b, IsPair h TO a b
  one : T1 k h
  two : T2 k h
end

/-! ## zip(a, b) made -/
abbrev itRec (c : String) (l : Addr) : Obj := { cls := .type c, data := .fields #[.ref l, .int 0 0] }
section
variable {prog : Program} {w : World} {A : Around} {E : Value → Shared → Prop} {s : Shared}
/-! ## list(an iterator): the loop that fills it -/
theorem ext_loop {R : Result → Shared → Prop} {S I : Addr} {n : Nat} {J F : List Value → Heap → Prop} {s0 : Shared} (res : Value) (hn : n ≤ sizeLine)
    (stay : ∀ acc h h', J acc h → (∃ o, h.get? S = some o ∧ o.cls = .type "list") → h'.objs.size = h.objs.size → (∀ b o, b ≠ S → h.get? b = some o → h'.get? b = some o) → J acc h')
    (item : ∀ acc (s : Shared) (o : Obj) (Q : Option Value → Shared → Prop) (E : Value → Shared → Prop), acc.length < n → J acc s.heap → s.heap.get? S = some o → (∀ v h', J (acc ++ [v]) h' → h'.get? S = some o → Q (some v) { s with heap := h' }) → wpAny (model prog w) A.in1 (pyNext (.ref I)) Q E s)
    (done : ∀ acc (s : Shared) (o : Obj) (Q : Option Value → Shared → Prop) (E : Value → Shared → Prop), acc.length = n → J acc s.heap → s.heap.get? S = some o → (∀ h', F acc h' → h'.get? S = some o → Q none { s with heap := h' }) → wpAny (model prog w) A.in1 (pyNext (.ref I)) Q E s)
    (hR : ∀ h' acc c, acc.size = n → F acc.toList h' → h'.get? S = some { cls := .type "list", dict := none, data := .seq acc c, slots := #[] } → R (.ok (.ret res)) { s0 with heap := h' }) :
    ∀ (k : Nat) (acc : Array Value) (h : Heap) (c : Nat), k = n - acc.size → acc.size ≤ n → J acc.toList h → h.get? S = some { cls := .type "list", dict := none, data := .seq acc c, slots := #[] } →
      codeAny (model prog w) A (.builtin "list.extend.loop" ⟨[.ref S, .ref I, res], []⟩) R { s0 with heap := h } := by
  intro k
  induction k with
  | zero =>
    intro acc h c hk hle hJ hS
    refine codeAny_builtin PySem.F.entry_extend_loop ?_
    rw [Around.under_plainId PySem.F.plain_extend_loop _]
    show wpAny _ A.in1 (pyNext (.ref I) >>= _) _ _ _
    apply wpAny_bind; refine done acc.toList { s0 with heap := h } _ _ _ (by simp; omega) hJ hS fun h' hF hS' => ?_
    exact wpAny_pure (hR h' acc c (by omega) hF hS')
  | succ k ih =>
    intro acc h c hk hle hJ hS
    refine codeAny_builtin PySem.F.entry_extend_loop ?_
    rw [Around.under_plainId PySem.F.plain_extend_loop _]
    show wpAny _ A.in1 (pyNext (.ref I) >>= _) _ _ _
    apply wpAny_bind; refine item acc.toList { s0 with heap := h } _ _ _ (by simp; omega) hJ hS fun v h' hJ' hS' => ?_
    show wpAny _ A.in1 (updateSeq S (·.push v) >>= _) _ _ _
    have hs2 : acc.size < n := by omega
    have e1 : (acc.push v).size = acc.size + 1 := Array.size_push ..
    apply wpAny_bind; refine wpAny_updateSeq hS' rfl ?_ (by omega) (by show (acc.push v).size ≤ sizeLine + 1; omega)
    apply wpAny_pure; refine ⟨plainId_quiet PySem.F.plain_extend_loop _, ?_⟩
    refine ih (acc.push v) _ _ (by omega) (by omega) (stay _ _ _ (by simpa using hJ') ⟨_, hS', rfl⟩ (Heap.SameBut.update ..).1 fun b o hb e => (Heap.get?_update_other _ _ (Ne.symm hb)).trans e) (Heap.get?_update_self _ hS' rfl)
end
end L2.R2

set_option Elab.async false
set_option linter.all false
set_option maxRecDepth 100000
set_option maxHeartbeats 1000000
namespace L2.R2
open PySem PySem.Spec PyProof.Rows L2
section
variable {prog : Program} {w : World} {A : Around} {E : Value → Shared → Prop} {s : Shared} {z TI TO i1 i2 a1 a2 : Addr} {vs us : List Value} {T1 T2 : Nat → Heap → Prop}
/-- the pairs that were drawn stand one behind the other, from N on -/
structure ZipGot (z TI TO i1 i2 : Addr) (T1 T2 : Nat → Heap → Prop) (vs us : List Value) (N : Nat) (fixed : Heap) (S : Addr) (acc : List Value) (h : Heap) : Prop where
  st : ZipSt z TI TO i1 i2 T1 T2 acc.length h
  size : h.objs.size = N + acc.length
  refs : ∀ j, j < acc.length → acc[j]? = some (.ref (N + j))
  got : ∀ j, j < acc.length → ∀ x y, vs[j]? = some x → us[j]? = some y → IsPair h (N + j) x y
  kept : ∀ b o, b ≠ z → b ≠ TO → b ≠ i1 → b ≠ i2 → b ≠ S → fixed.get? b = some o → h.get? b = some o
/-- .. and at the end -/
structure ZipHad (z TO i1 i2 : Addr) (vs us : List Value) (N : Nat) (fixed : Heap) (S : Addr) (acc : List Value) (h : Heap) : Prop where
  refs : ∀ j, j < acc.length → acc[j]? = some (.ref (N + j))
  got : ∀ j, j < acc.length → ∀ x y, vs[j]? = some x → us[j]? = some y → IsPair h (N + j) x y
  kept : ∀ b o, b ≠ z → b ≠ TO → b ≠ i1 → b ≠ i2 → b ≠ S → fixed.get? b = some o → h.get? b = some o
end
end L2.R2

set_option Elab.async false
set_option linter.all false
set_option maxRecDepth 100000
set_option maxHeartbeats 1000000
namespace L2.R2
open PySem PySem.Spec PyProof.Rows L2
section
variable {X : Cx} {pins : List (Addr × Obj)} {σ : St}
/-- an untracked object, younger than the entry, tracked from here on, of whatever kind -/
theorem _root_.L2.Inv.trackO {s s' : Shared} {H H' : Hp} {a : Addr} {w : HO} (I : Inv X pins σ H s) (I' : Inv X pins σ H' s') (ha : s.heap.objs.size ≤ a) (hn : H' a = none) (new : ObjOk X.prog X.w (upd H' a w) s'.heap a w) : Inv X pins σ (upd H' a w) s' := by
  have nL : X.env.locals ≠ a := Nat.ne_of_lt (Nat.lt_of_lt_of_le I.lt ha)
  have nC : ∀ x c, X.env.cells.lookup x = some c → c ≠ a := fun x c q z => by
    obtain ⟨v, hv⟩ := I.cell x c q
    exact absurd (Nat.lt_of_lt_of_le hv.lt (by rw [z]; exact ha)) (Nat.lt_irrefl _)
  have n0 : ∀ {b : Addr} {o : Obj}, X.s₀.heap.get? b = some o → b ≠ a := fun {b o} q => Nat.ne_of_lt (Nat.lt_of_lt_of_le (Heap.lt_size q) (Nat.le_trans I.sz ha))
  refine ⟨I'.ok, I'.os, I'.bare, ⟨I'.base.keep, I'.base.slot, fun b o q n hx => by rw [upd_ne (n0 q)]; exact I'.base.free b o q n hx, I'.base.there, fun b ys q => by rw [upd_ne (ne_of_none (I'.base.tups b ys q) hn)]; exact I'.base.tups b ys q, fun b o u q => by rw [upd_ne (ne_of_none (I'.base.frzs b o u q) hn)]; exact I'.base.frzs b o u q, fun b ps q => ?_⟩, I'.loc, I'.cell, by rw [upd_ne nL]; exact I'.free, fun x c q => by rw [upd_ne (nC x c q)]; exact I'.freeC x c q, fun p hp => ?_, fun b u q => ?_, I'.len⟩
  · obtain ⟨m, q2⟩ := I'.base.tbls b ps q
    exact ⟨m, by rw [upd_ne (ne_of_none q2 hn)]; exact q2⟩
  · obtain ⟨q1, q2, q3, q4, q5⟩ := I'.pin p hp
    have hp1 : p.1 ≠ a := Nat.ne_of_lt (Nat.lt_of_lt_of_le (Heap.lt_size (I.pin p hp).1) ha)
    exact ⟨q1, by rw [upd_ne hp1]; exact q2, q3, q4, q5⟩
  · by_cases hb : b = a
    · subst hb
      rw [upd_same] at q; cases q
      exact new
    · rw [upd_ne hb] at q
      exact (I'.hok b u q).stay (fun c v _ w => w) (fun c w => by rw [upd_ne (ne_of_none w hn)]; exact w) fun c ys w => by rw [upd_ne (ne_of_none w hn)]; exact w
end
/-! ## list(zip(a, b)) -/
def seqD : D → Option (List D)
  | .lst xs => some xs
  | .tup xs => some xs
  | _ => none
def rZip (ta tb : RE) : RA := fun ρ Q => ta ρ fun x => tb ρ fun y => ∃ xs ys, seqD x = some xs ∧ seqD y = some ys ∧ xs.length = ys.length ∧ Q (xs.zipWith (fun a b => D.tup [a, b]) ys)
/-- what is walked: a list or a tuple -/
structure Src (h : Heap) (a : Addr) (its : List Value) (c : String) (P : Heap → Prop) (T : Addr → Nat → Heap → Prop) : Prop where
  here : P h
  lt : a < h.objs.size
  stay : ∀ {h1 h2 : Heap}, P h1 → (∀ o, h1.get? a = some o → h2.get? a = some o) → P h2
  sub : ∀ {prog : Program} {w : World} {I : Addr}, a ≠ I → Sub prog w I a its (T I)
  start : ∀ {h1 : Heap} {I : Addr}, h1.get? I = some (itRec c a) → P h1 → T I 0 h1
section
variable {X : Cx} {a b : Expr} {ta tb : RE} {p pz pos posz : Pos}
end
end L2.R2

set_option Elab.async false
set_option linter.all false
set_option maxRecDepth 100000
set_option maxHeartbeats 1000000
namespace L2.R2
open PySem PySem.Spec PyProof.Rows L2
/-! ## for x, y in zip(the list at l, the list at m) -/
section
variable {X : Cx} {a b : Expr} {ta tb : RE} {pos p : Pos} {elts : List Expr} {k : Nat} {tp : Pos}
def riZip (ta tb : RE) : RA := fun ρ Q => ta ρ fun x => tb ρ fun y => match x, y with
  | .lst xs, .lst ys => Q (xs.zipWith (fun a b => D.tup [a, b]) ys)
  | _, _ => False
end
end L2.R2

set_option Elab.async false
set_option linter.all false
set_option maxRecDepth 100000
set_option maxHeartbeats 1000000
namespace L2.R2
open PySem PySem.Spec PyProof.Rows L2
/-! ## min of a list of tuples of ints -/
section
variable {prog : Program} {w : World} {A : Around} {E : Value → Shared → Prop} {s : Shared}
theorem min_turns {I l S : Addr} {items : Array Value} {bt : Nat → Nat → Bool} {G : Heap → Prop} {R : Result → Shared → Prop} {os0 : Shared} (hh : A.handled = none) (hl : l ≠ I) (hSI : S ≠ I) (hSl : S ≠ l)
    (cmp : ∀ (i j : Nat) (u v : Value) (s : Shared) (Q : Value → Shared → Prop) (E : Value → Shared → Prop), items[i]? = some u → items[j]? = some v → G s.heap → Q (.bool (bt i j)) s → wpAny (model prog w) A.in1 (richCompare .Lt u v) Q E s)
    (gs : ∀ h h', G h → (∀ b o, b ≠ I → b ≠ S → h.get? b = some o → h'.get? b = some o) → G h') :
    ∀ (k j : Nat) (s : Shared) (vb : Value) (c : Nat), items.size - (j + 1) = k → j + 1 ≤ items.size → s.heap.IsListIter I l (j + 1) → s.heap.IsList l items → items[argBest bt j]? = some vb → G s.heap →
      s.heap.get? S = some { cls := .type "list", dict := none, data := .seq #[vb, vb] c, slots := #[] } →
      (∀ v h' tk, items[argBest bt (items.size - 1)]? = some v → (∀ b o, b ≠ I → b ≠ S → s.heap.get? b = some o → h'.get? b = some o) → R (.ok (.ret v)) { s with heap := h', toks := tk }) →
      codeAny (model prog w) A (.builtin "min.loop" ⟨[.ref I, .none, .ref S], []⟩) R s := by
  have nm : (toString "min" ++ toString ".loop" : String) = "min.loop" := by decide
  have W := Walks.list (prog := prog) (w := w) (A := A.in1) hh I l hl items
  have wr : ∀ {b : Addr}, b ≠ I → b ∉ [I] := fun h => by simpa using h
  intro k
  induction k with
  | zero =>
    intro j s vb c hk hj hi hL hb hG hS q
    refine codeAny_builtin F.entry_min_loop ?_; rw [Around.under_plainId F.plain_min_loop _]
    show wpAny _ A.in1 (seqItems? (.ref S) >>= _) _ _ s
    apply wpAny_bind; apply wpAny_seqItems hS rfl
    show wpAny _ A.in1 (tryCatch (pyNext (.ref I)) _ >>= _) _ _ s
    apply wpAny_bind; apply wpAny_tryCatch; refine W.done s _ _ (by rw [show items.size = j + 1 by omega]; exact ⟨hi, hL⟩) fun h' tk kp => ?_
    have hS' := kp S _ (wr hSI) hS
    show wpAny _ A.in1 (updateSeq S (fun _ => #[]) >>= _) _ _ _
    apply wpAny_bind; refine wpAny_updateSeq hS' rfl ?_; apply wpAny_bind; apply wpAny_letGo; apply wpAny_pure
    exact q vb _ tk (by rw [show items.size - 1 = j by omega]; exact hb) fun b o b1 b2 e => (Heap.get?_update_other _ _ (Ne.symm b2)).trans (kp b o (wr b1) e)
  | succ k ih =>
    intro j s vb c hk hj hi hL hb hG hS q
    refine codeAny_builtin F.entry_min_loop ?_; rw [Around.under_plainId F.plain_min_loop _]
    show wpAny _ A.in1 (seqItems? (.ref S) >>= _) _ _ s
    apply wpAny_bind; apply wpAny_seqItems hS rfl
    show wpAny _ A.in1 (tryCatch (pyNext (.ref I)) _ >>= _) _ _ s
    apply wpAny_bind; apply wpAny_tryCatch; refine W.item (j + 1) s _ _ (by omega) ⟨hi, hL⟩ fun v h' tk hv st' kp => ?_
    have hS' := kp S _ (wr hSI) hS
    have hG' : G h' := gs _ _ hG fun b o b1 _ e => kp b o (wr b1) e
    show wpAny _ A.in1 (tryCatch (holding [v, v] (richCompare .Lt v vb >>= _)) _ >>= _) _ _ _
    apply wpAny_bind; apply wpAny_tryCatch; apply wpAny_holding; apply wpAny_bind; refine cmp (j + 1) (argBest bt j) v vb _ _ _ hv hb hG' ?_
    apply wpAny_bind; apply wpAny_holding; apply wpAny_truthy_bool; apply wpAny_bind; apply wpAny_letGo; apply wpAny_pure
    cases hbt : bt (j + 1) (argBest bt j) with
    | true =>
      simp only [if_true]
      apply wpAny_bind; refine wpAny_updateSeq hS' rfl ?_; apply wpAny_bind; apply wpAny_letGo; rw [nm]; apply wpAny_pure
      have up : ∀ b o, b ≠ S → h'.get? b = some o → (h'.update S (Obj.mapSeq fun _ => #[v, v])).get? b = some o := fun b o b2 e => (Heap.get?_update_other _ _ (Ne.symm b2)).trans e
      refine ⟨plainId_quiet F.plain_min_loop _, ih (j + 1) _ v _ (by omega) (by omega) (st'.1.at fun o e => up _ o hSI.symm e) (st'.2.at fun o e => up _ o hSl.symm e) (by simp only [argBest, hbt, if_true]; exact hv) (gs _ _ hG' fun b o _ b2 e => up b o b2 e) (Heap.get?_update_self _ hS' rfl) fun v' h'' tk'' e kk => ?_⟩
      exact q v' h'' tk'' e fun b o b1 b2 e => kk b o b1 b2 (up b o b2 (kp b o (wr b1) e))
    | false =>
      simp only [Bool.false_eq_true, if_false]
      apply wpAny_bind; apply wpAny_letGo; rw [nm]; apply wpAny_pure
      refine ⟨plainId_quiet F.plain_min_loop _, ih (j + 1) _ vb c (by omega) (by omega) st'.1 st'.2 (by simp only [argBest, hbt, Bool.false_eq_true, if_false]; exact hb) hG' hS' fun v' h'' tk'' e kk => ?_⟩
      exact q v' h'' tk'' e fun b o b1 b2 e => kk b o b1 b2 (kp b o (wr b1) e)
theorem call_minG {l : Addr} {items : Array Value} {bt : Nat → Nat → Bool} {G : Heap → Prop} {Q : Value → Shared → Prop} (hh : A.handled = none) (hL : s.heap.IsList l items) (hne : 0 < items.size)
    (cmp : ∀ (i j : Nat) (u v : Value) (s : Shared) (Q : Value → Shared → Prop) (E : Value → Shared → Prop), items[i]? = some u → items[j]? = some v → G s.heap → Q (.bool (bt i j)) s → wpAny (model prog w) A.in1 (richCompare .Lt u v) Q E s)
    (gs : ∀ h', (∀ b o, s.heap.get? b = some o → h'.get? b = some o) → G h') (q : ∀ v h' tk, items[argBest bt (items.size - 1)]? = some v → (∀ b o, s.heap.get? b = some o → h'.get? b = some o) → Q v { s with heap := h', toks := tk }) :
    wpAny (model prog w) A (call (.builtin "min") [.ref l]) Q E s := by
  have nm : (toString "min" ++ toString ".loop" : String) = "min.loop" := by decide
  have lt : l < s.heap.objs.size := by obtain ⟨_, e, _⟩ := hL; exact Heap.lt_size e
  refine call_function_tree F.kind_min F.plain_min F.entry_min (F.args_min1 _) ?_
  show wpAny _ A.in1 (Builtin.Builtins.bindParams "min" ["key", "default"] 0 ⟨[], []⟩ >>= _) _ _ s
  apply wpAny_bind; refine wpAny_of_eq (show Builtin.Builtins.bindParams "min" ["key", "default"] 0 ⟨[], []⟩ = pure [none, none] from rfl) ?_
  apply wpAny_bind; apply wpAny_pure; apply wpAny_bind; refine wpAny_pyIter_list hL ?_
  apply wpAny_bind; refine wpAny_newObj_type ?_; rw [nm]; apply wpAny_pure
  have sz1 : (s.heap.push (itRec "list_iterator" l)).objs.size = s.heap.objs.size + 1 := Heap.size_push ..
  generalize hp : s.heap.push (itRec "list_iterator" l) = h1 at sz1
  have hI : h1.IsListIter s.heap.objs.size l 0 := by rw [← hp]; exact ⟨_, Heap.get?_push_size _ rfl, rfl, rfl⟩
  have k1 : ∀ b o, s.heap.get? b = some o → h1.get? b = some o := fun b o e => by rw [← hp]; exact Heap.get?_push_of_some _ e
  refine ⟨plainId_quiet F.plain_min_loop _, ?_⟩
  show codeAny _ A (.builtin "min.loop" ⟨[.ref s.heap.objs.size, .none, .ref h1.objs.size], []⟩) _ { s with heap := h1.push { cls := .type "list", dict := none, data := .seq ([] : List Value).toArray } }
  rw [sz1]
  have hS : (h1.push { cls := .type "list", dict := none, data := .seq ([] : List Value).toArray }).get? (s.heap.objs.size + 1) = some { cls := .type "list", dict := none, data := .seq #[] 0, slots := #[] } := by rw [← sz1]; exact Heap.get?_push_size _ rfl
  have k2 : ∀ b o, h1.get? b = some o → (h1.push { cls := .type "list", dict := none, data := .seq ([] : List Value).toArray }).get? b = some o := fun b o e => Heap.get?_push_of_some _ e
  generalize h1.push { cls := .type "list", dict := none, data := .seq ([] : List Value).toArray } = h2 at hS k2
  have neI : ∀ {b : Addr} {o : Obj}, s.heap.get? b = some o → b ≠ s.heap.objs.size ∧ b ≠ s.heap.objs.size + 1 := fun e => ⟨Nat.ne_of_lt (Heap.lt_size e), Nat.ne_of_lt (Nat.lt_succ_of_lt (Heap.lt_size e))⟩
  have W := Walks.list (prog := prog) (w := w) (A := A.in1) hh s.heap.objs.size l (Nat.ne_of_lt lt) items
  refine codeAny_builtin F.entry_min_loop ?_; rw [Around.under_plainId F.plain_min_loop _]
  show wpAny _ A.in1 (seqItems? (.ref (s.heap.objs.size + 1)) >>= _) _ _ _
  apply wpAny_bind; apply wpAny_seqItems hS rfl
  show wpAny _ A.in1 (tryCatch (pyNext (.ref s.heap.objs.size)) _ >>= _) _ _ _
  have hL2 : h2.IsList l items := hL.at fun o e => k2 _ o (k1 _ o e)
  apply wpAny_bind; apply wpAny_tryCatch; refine W.item 0 _ _ _ hne ⟨hI.at fun o e => k2 _ o e, hL2⟩ fun v h' tk hv st' kp => ?_
  have wr : ∀ {b : Addr}, b ≠ s.heap.objs.size → b ∉ [s.heap.objs.size] := fun h => by simpa using h
  have hS' := kp (s.heap.objs.size + 1) _ (wr (Nat.succ_ne_self _)) hS
  show wpAny _ A.in1 (updateSeq (s.heap.objs.size + 1) (fun _ => #[v, v]) >>= _) _ _ _
  apply wpAny_bind; refine wpAny_updateSeq hS' rfl ?_; rw [nm]; apply wpAny_pure
  have up : ∀ b o, b ≠ s.heap.objs.size + 1 → h'.get? b = some o → (h'.update (s.heap.objs.size + 1) (Obj.mapSeq fun _ => #[v, v])).get? b = some o := fun b o b2 e => (Heap.get?_update_other _ _ (Ne.symm b2)).trans e
  have old : ∀ b o, s.heap.get? b = some o → (h'.update (s.heap.objs.size + 1) (Obj.mapSeq fun _ => #[v, v])).get? b = some o := fun b o e => up b o (neI e).2 (kp b o (wr (neI e).1) (k2 b o (k1 b o e)))
  have hS'' := Heap.get?_update_self (Obj.mapSeq fun _ => #[v, v]) hS' rfl
  refine ⟨plainId_quiet F.plain_min_loop _, ?_⟩
  refine min_turns (A := A) (G := fun h => ∀ b o, s.heap.get? b = some o → h.get? b = some o) (bt := bt) (items := items) (I := s.heap.objs.size) (l := l) (S := s.heap.objs.size + 1) (os0 := s) hh (Nat.ne_of_lt lt) (Nat.succ_ne_self _) (Nat.ne_of_gt (Nat.lt_succ_of_lt lt)) (fun i j u v s' Q' E' e1 e2 g c => cmp i j u v s' Q' E' e1 e2 (gs _ g) c)
    (fun h3 h4 g kk b o e => kk b o (neI e).1 (neI e).2 (g b o e)) (items.size - 1) 0 _ v _ (by omega) (by omega) (st'.1.at fun o e => up _ o (Nat.ne_of_lt (Nat.lt_succ_self _)) e) (st'.2.at fun o e => up _ o (Nat.ne_of_lt (Nat.lt_succ_of_lt lt)) e) (by simpa [argBest] using hv) old hS'' fun v' h'' tk'' e kk => ?_
  exact q v' h'' tk'' e fun b o e => kk b o (neI e).1 (neI e).2 (old b o e)
end
end L2.R2

set_option Elab.async false
set_option linter.all false
set_option maxRecDepth 100000
set_option maxHeartbeats 1000000
namespace L2.R2
open PySem PySem.Spec PyProof.Rows L2
abbrev tupI (ns : List Int) : D := .tup (ns.map .int)
theorem lexLt_trans : ∀ {a b c : List Int}, HT.lexLt a b = true → HT.lexLt b c = true → HT.lexLt a c = true
  | [], [], _, h, _ => by cases h
  | [], _ :: _, [], _, h => by cases h
  | [], _ :: _, _ :: _, _, _ => rfl
  | _ :: _, [], _, h, _ => by cases h
  | _ :: _, _ :: _, [], _, h => by cases h
  | x :: xs, y :: ys, z :: zs, h1, h2 => by
    rw [HT.lexLt_cons] at *
    by_cases e1 : x = y
    · subst e1
      rw [if_pos rfl] at h1
      by_cases e2 : x = z
      · rw [if_pos e2] at h2 ⊢; exact lexLt_trans h1 h2
      · rw [if_neg e2] at h2 ⊢; exact h2
    · rw [if_neg e1] at h1
      by_cases e2 : y = z
      · subst e2; rw [if_neg e1]; exact h1
      · rw [if_neg e2] at h2
        simp only [decide_eq_true_eq] at h1 h2
        rw [if_neg (by omega)]; simp only [decide_eq_true_eq]; omega
theorem lexLt_irr : ∀ (a : List Int), HT.lexLt a a = false
  | [] => rfl
  | x :: xs => by rw [HT.lexLt_cons, if_pos rfl]; exact lexLt_irr xs
theorem argBest_ord {bt : Nat → Nat → Bool} (tr : ∀ i j k, bt i j = true → bt j k = true → bt i k = true) (ir : ∀ i, bt i i = false) : ∀ k, argBest bt k ≤ k ∧ ∀ j, j ≤ k → bt j (argBest bt k) = false
  | 0 => ⟨Nat.le_refl _, fun j hj => by rw [Nat.le_zero.mp hj]; exact ir 0⟩
  | k + 1 => by
    obtain ⟨h1, h2⟩ := argBest_ord tr ir k
    cases hb : bt (k + 1) (argBest bt k) with
    | true =>
      simp only [argBest, hb, if_true]
      refine ⟨Nat.le_refl _, fun j hj => ?_⟩
      by_cases e : j = k + 1
      · subst e; exact ir _
      · cases hc : bt j (k + 1) with
        | false => rfl
        | true =>
          have := tr j (k + 1) _ hc hb
          rw [h2 j (by omega)] at this; cases this
    | false =>
      simp only [argBest, hb, Bool.false_eq_true, if_false]
      refine ⟨by omega, fun j hj => ?_⟩
      by_cases e : j = k + 1
      · subst e; exact hb
      · exact h2 j (by omega)
theorem Reps.tupI_inv {K : PySem.W.Frag} {H : Hp} {ns : List Int} {v : V} (r : Rep K H (tupI ns) v) : ∃ a, v = .ref a ∧ H a = some (.tup (ns.map V.int)) := by
  cases r with
  | tup h rr => rw [rr.ints_inv] at h; exact ⟨_, rfl, h⟩
section
variable {X : Cx} {e a b : Expr} {te ta tb : RE} {p pos : Pos}
/-! ### tuples of ints: < -/
/-! ### min of a list of them -/
def dMinT : D → (D → Prop) → Prop := fun d Q => match d with
  | .lst ds => ∃ nss : List (List Int), ds = nss.map tupI ∧ nss ≠ [] ∧ ∀ M, M ∈ nss → (∀ x ∈ nss, HT.lexLt x M = false) → Q (tupI M)
  | _ => False
theorem de_minT {k : Nat} (hr : Room k X.A) (hm : X.mg "min" = none) (hc : X.calm = true) (h : DB X e te) (hg : Gl X "min" := by rfl) (hs : starEach [e] X.env = [(false, eval e X.env)] := by rfl) (hn : starEach [] X.env = [] := by rfl) :
    DE X (.Call (.Name "min" p) [e] [] pos) (r1 dMinT te) := by
  have call : CallR X (.builtin "min") (fun xs H Q => ∃ (d : D) (v : V) (P : D → Prop), xs = [v] ∧ RepB X.K H d v ∧ dMinT d P ∧ ∀ z w, P z → Rep X.K H z w → Q w H) := by
    intro pins s σ H xs us Q I rs hq
    obtain ⟨d, v, P, rfl, rb, hd, kk⟩ := hq
    cases d with
    | lst ds =>
      obtain ⟨nss, rfl, hne, hd⟩ := hd
      obtain ⟨l, vs, rfl, hq, rr⟩ := rb.lst
      obtain ⟨u, rfl, rx⟩ := vals1 rs
      cases rx
      obtain ⟨its, rv, pl, hz⟩ := I.list hq
      have l1 := rr.length
      have l2 := rv.length
      have hpos : 0 < nss.length := List.length_pos_iff.mpr hne
      rw [List.length_map] at l1
      -- where each tuple lies
      have each : ∀ (i : Nat) (u : Value), its[i]? = some u → ∃ ns a ts, nss[i]? = some ns ∧ vs[i]? = some (.ref a) ∧ u = .ref a ∧ Vals (ns.map V.int) ts ∧ IsTup s.heap a ts.toArray := fun i u e => by
        have hi : i < nss.length := by have := (List.getElem?_eq_some_iff.mp e).1; omega
        obtain ⟨v, e1, e2⟩ := rr.get (i := i) (d := tupI nss[i]) (by rw [List.getElem?_map, List.getElem?_eq_getElem hi]; rfl)
        obtain ⟨a, rfl, ha⟩ := Reps.tupI_inv e2
        obtain ⟨u', f1, f2⟩ := rv.get e1
        rw [e] at f1; cases f1
        cases f2
        obtain ⟨ts, g1, g2, _⟩ := I.tuple (SqT.of (K := X.K) ha)
        exact ⟨_, a, ts, List.getElem?_eq_getElem hi, e1, rfl, g1, g2⟩
      refine call_minG (bt := fun i j => HT.lexLt (nss.getD i []) (nss.getD j [])) (G := fun h => ∀ b o, s.heap.get? b = some o → h.get? b = some o) (I.ok.hd hc) pl.isList (by simp; omega) (fun i j u v s' Q' E' e1 e2 g c => ?_) (fun h' g => g) fun v h' tk ev kp => ?_
      · obtain ⟨ns, a, ts, n1, _, rfl, g1, g2⟩ := each i u (by simpa using e1)
        obtain ⟨ms, b, us, n2, _, rfl, g3, g4⟩ := each j v (by simpa using e2)
        have q1 : nss.getD i [] = ns := by rw [List.getD_eq_getElem?_getD, n1]; rfl
        have q2 : nss.getD j [] = ms := by rw [List.getD_eq_getElem?_getD, n2]; rfl
        rw [q1, q2] at c
        have hu := hr.un
        have tupAt : ∀ {a : Addr} {xs : Array Value}, IsTup s.heap a xs → IsTup s'.heap a xs := fun ⟨o, e, r⟩ => ⟨o, g _ o e, r⟩
        refine HT.lt_tupInts (A := X.A.in1) (tupAt g2) (tupAt g4) (intsAre_of g1) (intsAre_of g3) (by show X.A.units + 1 < cLine; omega) c
      · obtain ⟨b1, b2⟩ := argBest_ord (bt := fun i j => HT.lexLt (nss.getD i []) (nss.getD j [])) (fun _ _ _ => lexLt_trans) (fun _ => lexLt_irr _) (its.toArray.size - 1)
        generalize argBest (fun i j => HT.lexLt (nss.getD i []) (nss.getD j [])) (its.toArray.size - 1) = m at b1 b2 ev
        obtain ⟨ns, a, ts, n1, n2, rfl, g1, g2⟩ := each m v (by simpa using ev)
        have hm : m < nss.length := (List.getElem?_eq_some_iff.mp n1).1
        refine ⟨.ref a, H, I.kept kp, rfl, kk _ _ (hd ns (List.mem_of_getElem? n1) fun x hx => ?_) ?_⟩
        · obtain ⟨j, hj, rfl⟩ := List.getElem_of_mem hx
          have := b2 j (by simp; omega)
          have q1 : nss.getD j [] = nss[j] := by rw [List.getD_eq_getElem?_getD, List.getElem?_eq_getElem hj]; rfl
          have q2 : nss.getD m [] = ns := by rw [List.getD_eq_getElem?_getD, n1]; rfl
          rw [q1, q2] at this; exact this
        · obtain ⟨w, f1, f2⟩ := rr.get (i := m) (d := tupI ns) (by rw [List.getElem?_map, n1]; rfl)
          rw [n2] at f1; cases f1; exact f2
    | _ => exact hd.elim
  refine PE.mono (pe_callB call hg hm boot_min (pa_one h hs hn) (by decide) (by decide) (by rw [hs, hn]) (by rw [hn]; rfl)) fun σ H Q ⟨ρ, P, st, q, k⟩ => ⟨ρ, _, st, q, fun d v H1 hd s1 r => ⟨d, v, P, rfl, r, hd, fun z w hz rz => k z w H1 hz s1 rz⟩⟩
/-! ### != -/
def dNe : R22 := fun x y Q => match x, y with
  | .int i, .int j => Q (.bl !(decide (i = j)))
  | .bl i, .bl j => Q (.bl !(decide (i = j)))
  | .tup xs, .tup ys => match eqL (eqF 5) xs ys with
    | some b => Q (.bl !b)
    | none => False
  | _, _ => False
theorem od_ne {k : Nat} (hr : Room k X.A) : OpD X (compareOp .NotEq) dNe := by
  intro pins s σ H x y v u Q I rx ry ⟨d, e, P, r1, r2, q, kk⟩
  have hu := hr.un
  unfold dNe at q
  split at q
  · rename_i i j
    rw [r1.int_inv] at rx; rw [r2.int_inv] at ry
    obtain ⟨t, rfl⟩ := rx
    obtain ⟨t', rfl⟩ := ry
    have e : (!(decide (i = j))) = !(i == j) := by rw [Bool.beq_eq_decide_eq]
    rw [e] at q
    exact SeqAt.RcNeAt.int_int i t j t' _ _ _ _ ⟨.bl _, H, I, rfl, kk _ _ H q (Same.refl H) (.bl _)⟩
  · rename_i i j
    rw [r1.bl_inv] at rx; rw [r2.bl_inv] at ry
    cases rx; cases ry
    have e : (!(decide (i = j))) = !(i == j) := by rw [Bool.beq_eq_decide_eq]
    rw [e] at q
    exact SeqAt.RcNeAt.bool_bool i j _ _ _ _ ⟨.bl _, H, I, rfl, kk _ _ H q (Same.refl H) (.bl _)⟩
  · rename_i xs ys
    split at q
    · rename_i b h
      obtain ⟨a, vs, rfl, h1, q1⟩ := r1.tup
      obtain ⟨c, ws, rfl, h2, q2⟩ := r2.tup
      cases rx; cases ry
      obtain ⟨its, rv, ht, _⟩ := I.tuple (SqT.of h1)
      obtain ⟨its2, rv2, ht2, _⟩ := I.tuple (SqT.of h2)
      have l1 : xs.length = its.length := q1.length.trans rv.length
      have l2 : ys.length = its2.length := q2.length.trans rv2.length
      have rc : SeqAt.RcNeAt X.A s (.ref a) (.ref c) (!b) := by
        have := SeqAt.RcNeAt.tuples (A := X.A) (s := s) (e := fun j => match xs[j]?, ys[j]? with | some x, some y => (eqF 5 x y).getD false | _, _ => false) ht ht2 (by omega) (fun j g1 g2 => ?_)
        · simp only [List.size_toArray, ← l1, ← l2] at this
          have al := eqL_all h
          rw [← al]
          exact this
        · simp only [List.size_toArray] at g1 g2
          have e1 : xs[j]? = some (xs[j]'(by omega)) := List.getElem?_eq_getElem _
          have e2 : ys[j]? = some (ys[j]'(by omega)) := List.getElem?_eq_getElem _
          obtain ⟨k, hk⟩ := eqL_get h j _ _ e1 e2
          rw [e1, e2]
          simp only [hk, Option.getD_some]
          obtain ⟨v1, f1, f2⟩ := q1.get e1
          obtain ⟨v2, f3, f4⟩ := q2.get e2
          obtain ⟨u1, g3, g4⟩ := rv.get f1
          obtain ⟨u2, g5, g6⟩ := rv2.get f3
          have a1 : its.toArray[j] = u1 := by
            have := List.getElem?_eq_getElem g1
            rw [this] at g3
            simpa using Option.some.inj g3
          have a2 : its2.toArray[j] = u2 := by
            have := List.getElem?_eq_getElem g2
            rw [this] at g5
            simpa using Option.some.inj g5
          rw [a1, a2]
          exact (eqF_at I 5 hk f2 f4 g4 g6 (by show X.A.units + 1 + 5 < cLine; omega)).2
      exact rc _ _ _ _ ⟨.bl _, H, I, rfl, kk _ _ H q (Same.refl H) (.bl _)⟩
    · exact q.elim
  · exact q.elim
/-! ### xs.index(y) -/
def dIndex : R22 := fun x y Q => match x with
  | .lst xs => ∃ j : Nat, (∃ d, xs[j]? = some d ∧ eqF 6 d y = some true) ∧ (∀ (i : Nat) d, i < j → xs[i]? = some d → eqF 6 d y = some false) ∧ (∀ d ∈ xs, ∃ b, eqF 6 d y = some b) ∧ Q (.int (j : Int))
  | _ => False
theorem RelV.det {v v' : V} {u : Value} (h : RelV v u) (h' : RelV v' u) : v = v' := by
  cases v <;> cases v' <;> simp only [RelV] at h h' <;> first
    | rfl
    | (subst h; cases h'; rfl)
    | (obtain ⟨t, rfl⟩ := h; obtain ⟨t', e⟩ := h'; cases e; rfl)
    | (subst h; cases h'; done)
    | (obtain ⟨t, rfl⟩ := h; cases h'; done)
    | (obtain ⟨t, rfl⟩ := h; obtain ⟨t', e⟩ := h'; cases e; done)
    | (obtain ⟨t', rfl⟩ := h'; cases h; done)
end
section
variable {X : Cx} {pins : List (Addr × Obj)} {σ : St} {H : Hp} {s : Shared}
mutual
theorem Rep.det (I : Inv X pins σ H s) : ∀ {d d' : D} {v : V}, Rep X.K H d v → Rep X.K H d' v → d = d'
  | _, _, _, .non, r => by cases r; rfl
  | _, _, _, .bl b, r => by cases r; rfl
  | _, _, _, .int i, r => by cases r; rfl
  | _, _, _, .str x, r => by cases r; rfl
  | _, _, _, .tup h q, r => by
    cases r with
    | tup h' q' => rw [h] at h'; cases h'; rw [Reps.det I q q']
    | lst h' q' =>
      obtain ⟨its, rv, pl, _⟩ := I.list h'.sq
      obtain ⟨jts, rv', ⟨o, e, c, _⟩, _⟩ := I.tuple (SqT.of (K := X.K) h)
      obtain ⟨o', e', c', _⟩ := pl.isList
      rw [e] at e'; cases e'; rw [c] at c'; simp at c'
  | _, _, _, .lst h q, r => by
    cases r with
    | tup h' q' =>
      obtain ⟨its, rv, pl, _⟩ := I.list h.sq
      obtain ⟨jts, rv', ⟨o, e, c, _⟩, _⟩ := I.tuple (SqT.of (K := X.K) h')
      obtain ⟨o', e', c', _⟩ := pl.isList
      rw [e] at e'; cases e'; rw [c] at c'; simp at c'
    | lst h' q' => rw [I.list_inj h'.sq h.sq] at q'; rw [Reps.det I q q']
theorem Reps.det (I : Inv X pins σ H s) : ∀ {d d' : List D} {v : List V}, Reps X.K H d v → Reps X.K H d' v → d = d'
  | _, _, _, .nil, r => by cases r; rfl
  | _, _, _, .cons h t, r => by
    cases r with
    | cons h' t' => rw [Rep.det I h h', Reps.det I t t']
end
end
section
variable {X : Cx} {e a b : Expr} {te ta tb : RE} {p pos : Pos}
def rIndex (ta tb : RE) : RE := fun ρ Q => ta ρ fun x => (∃ xs, x = .lst xs) ∧ tb ρ fun y => dIndex x y Q
theorem de_index {k : Nat} {apos cpos : Pos} (hr : Room k X.A) (ha : DB X a ta) (hb : DE X b tb) (hbase : attributeBase a "index" X.env (eval a X.env) = eval a X.env := by rfl)
    (hfew : ((backTo cpos (starEach [b] X.env)).all (fun x => !x.1) && (backToKw cpos (keywordEach [] X.env)).all (fun x => x.1.isSome) && decide (([b] : List Expr).length + ([] : List Keyword).length + (if ([] : List Keyword).isEmpty then 0 else 1) < 30)) = true := by rfl)
    (hline : (apos.endLine == cpos.line) = true := by rfl) (hs : starEach [b] X.env = [(false, eval b X.env)] := by rfl) (hn : starEach [] X.env = [] := by rfl) :
    DE X (.Call (.Attribute a "index" apos) [b] [] cpos) (rIndex ta tb) := by
  have mt : MtR X "list.index" (fun x vs H Q => ∃ (d e : D) (u : V) (P : D → Prop), vs = [u] ∧ RepB X.K H d x ∧ Rep X.K H e u ∧ dIndex d e P ∧ ∀ z w, P z → Rep X.K H z w → Q w H) := by
    intro pins s σ H x vs v us Q I rx rv ⟨d, e, u, P, ev, rd, re, q, kk⟩
    subst ev
    obtain ⟨u', rfl, ru⟩ := rv.one
    cases d with
    | lst xs =>
      obtain ⟨j, ⟨dj, ej, hj⟩, hno, hall, q⟩ := q
      obtain ⟨l, vs, rfl, hq, rr⟩ := rd.lst
      cases rx
      obtain ⟨its, rw', pl, hz⟩ := I.list hq
      obtain ⟨⟨cls, dd, data, sl⟩, ho, hc, n, hd⟩ := pl.isList
      simp only at hc hd
      subst hc hd
      have l1 := rr.length
      have l2 := rw'.length
      have hu := hr.un
      have hjl : j < xs.length := (List.getElem?_eq_some_iff.mp ej).1
      let ev : Value → Bool := fun y => (List.range xs.length).any fun i => match xs[i]?, its[i]? with
        | some d, some z => z == y && eqF 6 d e == some true
        | _, _ => false
      -- each item, and what it says
      have each : ∀ (i : Nat) (y : Value), its[i]? = some y → ∃ d v, xs[i]? = some d ∧ Rep X.K H d v ∧ RelV v y ∧ ∃ b, eqF 6 d e = some b := fun i y ey => by
        have hi : i < xs.length := by have := (List.getElem?_eq_some_iff.mp ey).1; omega
        obtain ⟨v, e1, e2⟩ := rr.get (List.getElem?_eq_getElem hi)
        obtain ⟨y', f1, f2⟩ := rw'.get e1
        rw [ey] at f1; cases f1
        exact ⟨_, v, List.getElem?_eq_getElem hi, e2, f2, hall _ (List.getElem_mem hi)⟩
      have evOk : ∀ (i : Nat) (y : Value) (d : D) (b : Bool), its[i]? = some y → xs[i]? = some d → eqF 6 d e = some b → ev y = b := fun i y d b ey ed hb => by
        obtain ⟨d', v, q1, q2, q3, _⟩ := each i y ey
        rw [ed] at q1; cases q1
        cases b with
        | true =>
          have hi : i < xs.length := (List.getElem?_eq_some_iff.mp ed).1
          refine List.any_eq_true.mpr ⟨i, List.mem_range.mpr hi, ?_⟩
          simp only [ed, ey, hb]; simp
        | false =>
          refine List.any_eq_false.mpr fun i' hi' => ?_
          cases ex : xs[i']? with
          | none => simp
          | some d' =>
            cases ez : its[i']? with
            | none => simp
            | some z =>
              simp only [Bool.and_eq_true, beq_iff_eq, not_and]
              intro hz hd'
              subst hz
              obtain ⟨d2, v2, p1, p2, p3, _⟩ := each i' z ez
              rw [ex] at p1; cases p1
              have := RelV.det q3 p3
              subst this
              rw [Rep.det I q2 p2] at hb
              rw [hb] at hd'; cases hd'
      have getI : ∀ (i : Nat) (h : i < its.toArray.size), its[i]? = some its.toArray[i] := fun i h => by
        have h' : i < its.length := by simpa using h
        rw [List.getElem?_eq_getElem h']; simp
      refine call_meets F.slot_list_index ⟨_, ho, rfl⟩ F.entry_list_index (F.args_list_index_2 _ _) (SeqAt.list_indexAt l its.toArray n dd sl u' ev j (by simp; omega) ?_ ?_ fun m hm hlt => ?_) ⟨ho, fun y hy => ?_, ?_⟩
      · have hs : (sizeLine : Int) < 2 ^ 63 - 1 := by decide
        omega
      · exact evOk j _ dj true (getI j _) ej hj
      · have hm' : m < xs.length := by simp at hm; omega
        exact evOk m _ xs[m] false (getI m hm) (List.getElem?_eq_getElem hm') (hno m _ hlt (List.getElem?_eq_getElem hm'))
      · obtain ⟨i, hi, rfl⟩ := List.getElem_of_mem (List.mem_toArray.mp hy)
        obtain ⟨d, v, q1, q2, q3, b, hb⟩ := each i its[i] (List.getElem?_eq_getElem hi)
        rw [evOk i _ d b (List.getElem?_eq_getElem hi) q1 hb]
        exact (eqF_at I 6 hb q2 re q3 ru (by show X.A.units + 1 + 6 < cLine; omega)).2
      · exact ⟨.int (j : Int), H, I.tok _, ⟨_, rfl⟩, kk _ _ q (.int _)⟩
    | _ => exact q.elim
  refine PE.mono (pe_bm PySem.F.plainAttrs_list PySem.F.slot_list_index PySem.F.type_list_index mt ha (pa_one hb hs hn) hbase hfew hline (by rw [hs, hn]) (by rw [hn]; rfl)) fun σ H Q ⟨ρ, P, st, q, k⟩ => ⟨ρ, _, st, q, fun x v H1 hx s1 r1 => ⟨?_, ρ, _, st.ext s1, hx.2, fun y u H2 hy s2 r2 => ⟨x, y, u, P, rfl, r1.same s2, r2, hy, fun z w hz rz => k z w H2 hz (s1.trans s2) rz⟩⟩⟩
  obtain ⟨⟨xs, rfl⟩, _⟩ := hx
  obtain ⟨l, vs, rfl, hq, _⟩ := r1.lst
  exact .inl ⟨rfl, vs, hq⟩
end
end L2.R2

set_option Elab.async false
set_option linter.all false
set_option maxRecDepth 100000
set_option maxHeartbeats 1000000
namespace L2.R2
open PySem PySem.SetTable
/-! ## the places of a set's table: every search comes to an empty one -/
def hop (N i : Nat) : Nat := (i * 5 + 1) % N
def hops (N : Nat) : Nat → Nat → Nat
  | 0, i => i
  | m + 1, i => hops N m (hop N i)
theorem hops_add (N : Nat) : ∀ a b i, hops N (a + b) i = hops N b (hops N a i)
  | 0, b, i => by rw [Nat.zero_add]; rfl
  | a + 1, b, i => by rw [Nat.add_right_comm]; exact hops_add N a b (hop N i)
def trail (N : Nat) : Nat → Nat → List Nat
  | 0, _ => []
  | m + 1, i => i :: trail N m (hop N i)
theorem mem_trail {N j : Nat} : ∀ {m i : Nat}, j ∈ trail N m i → ∃ k, k < m ∧ hops N k i = j
  | 0, _, h => by cases h
  | m + 1, i, h => by
    rcases List.mem_cons.mp h with rfl | h
    · exact ⟨0, by omega, rfl⟩
    · obtain ⟨k, hk, e⟩ := mem_trail h
      exact ⟨k + 1, by omega, e⟩
def Round (N : Nat) : Prop := (∀ j, j < N → j ∈ trail N N 0) ∧ hops N N 0 = 0
theorem round_of {N : Nat} (h : ((List.range N).all fun j => (trail N N 0).contains j) = true) (k : hops N N 0 = 0) : Round N :=
  ⟨fun j hj => by have := List.all_eq_true.mp h j (List.mem_range.mpr hj); simpa using this, k⟩
theorem round8 : Round 8 := round_of (by decide +kernel) (by decide +kernel)
theorem round32 : Round 32 := round_of (by decide +kernel) (by decide +kernel)
theorem round128 : Round 128 := round_of (by decide +kernel) (by decide +kernel)
theorem Round.reach {N : Nat} (h : Round N) {i j : Nat} (hi : i < N) (hj : j < N) : ∃ k, k < N ∧ hops N k i = j := by
  obtain ⟨a, ha, ea⟩ := mem_trail (h.1 i hi)
  obtain ⟨b, hb, eb⟩ := mem_trail (h.1 j hj)
  by_cases hab : a ≤ b
  · refine ⟨b - a, by omega, ?_⟩
    rw [← ea, ← hops_add, show a + (b - a) = b by omega, eb]
  · refine ⟨b + (N - a), by omega, ?_⟩
    rw [← ea, ← hops_add, show a + (b + (N - a)) = N + b by omega, hops_add, h.2, eb]

def Em (P : Nat → Prop) (mask : Nat) : Nat → Nat → Nat → Prop
  | 0, i, _ => P i
  | m + 1, i, pt => Em P mask m (leap mask i pt).1 (leap mask i pt).2
theorem Em_hops {P : Nat → Prop} {mask : Nat} : ∀ m i, P (hops (mask + 1) m i) → Em P mask m i 0
  | 0, _, h => h
  | m + 1, i, h => by
    unfold Em
    have e : leap mask i 0 = (hop (mask + 1) i, 0) := by simp [leap, hop]
    rw [e]
    exact Em_hops m (hop (mask + 1) i) h
theorem Em_any {P : Nat → Prop} {mask : Nat} (R : Round (mask + 1)) {j : Nat} (hj : j ≤ mask) (hP : P j) : ∀ (b i pt : Nat), i ≤ mask → pt < 32 ^ b → ∃ m, m ≤ mask + b ∧ Em P mask m i pt
  | 0, i, pt, hi, hp => by
    have : pt = 0 := by simpa using hp
    subst this
    obtain ⟨k, hk, e⟩ := R.reach (i := i) (j := j) (by omega) (by omega)
    exact ⟨k, by omega, Em_hops k i (by rw [e]; exact hP)⟩
  | b + 1, i, pt, hi, hp => by
    have h1 : (leap mask i pt).1 ≤ mask := by unfold leap; exact Nat.le_of_lt_succ (Nat.mod_lt _ (by omega))
    have h2 : (leap mask i pt).2 < 32 ^ b := by
      unfold leap; dsimp only
      rw [Nat.pow_succ] at hp
      omega
    obtain ⟨m, hm, e⟩ := Em_any R hj hP b _ _ h1 h2
    exact ⟨m + 1, by omega, e⟩
theorem bits_lt (h : Int) : bits h < 32 ^ 13 := by
  unfold bits
  have : (h % (2 ^ 64 : Int)) < 2 ^ 64 := Int.emod_lt_of_pos _ (by decide)
  have h2 : 0 ≤ h % (2 ^ 64 : Int) := Int.emod_nonneg _ (by decide)
  have : (h % (2 ^ 64 : Int)).toNat < 2 ^ 64 := by omega
  exact Nat.lt_of_lt_of_le this (by decide)

theorem len_le_of_sub {α : Type} [DecidableEq α] : ∀ (l m : List α), l.Nodup → (∀ x ∈ l, x ∈ m) → l.length ≤ m.length
  | [], _, _, _ => Nat.zero_le _
  | x :: l, m, hn, hs => by
    have hx := hs x (by simp)
    have hn' := List.nodup_cons.mp hn
    have := len_le_of_sub l (m.erase x) hn'.2 fun y hy => by
      have ne : y ≠ x := fun e => hn'.1 (e ▸ hy)
      exact (List.mem_erase_of_ne ne).mpr (hs y (by simp [hy]))
    rw [List.length_erase_of_mem hx] at this
    have : 0 < m.length := List.length_pos_of_mem hx
    simp; omega

structure TabOk (t : SetTable) (n : Nat) : Prop where
  size : t.place.size = n
  dum : t.dummies = #[]
  room : n ≤ t.mask
  round : Round (t.mask + 1)
  ris : t.place.toList.Pairwise (· < ·)

theorem slot_of {t : SetTable} (hd : t.dummies = #[]) (j : Nat) : t.slot j = .empty ∨ ∃ i, t.slot j = .live i ∧ t.place[i]? = some j := by
  unfold slot
  dsimp only
  by_cases h : (t.place[below t.place j]? == some j) = true
  · rw [if_pos h]; exact Or.inr ⟨_, rfl, by simpa using h⟩
  · rw [if_neg h, hd, if_neg (by simp [has])]; exact Or.inl rfl

theorem some_empty {t : SetTable} {n : Nat} (T : TabOk t n) : ∃ j, j ≤ t.mask ∧ t.slot j = .empty := by
  apply Classical.byContradiction
  intro hn
  have all : ∀ j ∈ List.range (t.mask + 1), j ∈ t.place.toList := by
    intro j hj
    rcases slot_of T.dum j with h | ⟨i, h, e⟩
    · exact absurd ⟨j, by have := List.mem_range.mp hj; omega, h⟩ hn
    · rw [Array.mem_toList_iff]; exact Array.mem_of_getElem? e
  have := len_le_of_sub _ _ List.nodup_range all
  rw [List.length_range, Array.length_toList, T.size] at this
  have := T.room
  omega

def PrInv (t : SetTable) (p : Probe) (m : Nat) : Prop := p.dummy = none ∧ p.more ≤ 9 ∧ Em (fun j => t.slot j = .empty) t.mask m p.i p.perturb ∧ (m = 0 → p.j = p.i)
def prMu (p : Probe) (m : Nat) : Nat := p.more + 10 * m

theorem runEnd_le (mask i : Nat) : runEnd mask i - i ≤ 9 := by unfold runEnd; split <;> omega

theorem advance_inv {t : SetTable} {p : Probe} {m : Nat} (h : PrInv t p m) (hn : t.slot p.j ≠ .empty) : ∃ m', PrInv t (t.advance p) m' ∧ prMu (t.advance p) m' < prMu p m := by
  obtain ⟨hd, hm, he, hj⟩ := h
  have m0 : m ≠ 0 := by rintro rfl; rw [hj rfl] at hn; exact hn he
  unfold advance
  split
  · refine ⟨m, ⟨hd, by dsimp only; omega, he, fun e => absurd e m0⟩, by unfold prMu; dsimp only; omega⟩
  · obtain ⟨k, rfl⟩ : ∃ k, m = k + 1 := ⟨m - 1, by omega⟩
    refine ⟨k, ⟨hd, runEnd_le _ _, he, fun _ => rfl⟩, ?_⟩
    unfold prMu
    have := runEnd_le t.mask (leap t.mask p.i p.perturb).1
    dsimp only
    omega

theorem probe_go {t : SetTable} (hd : t.dummies = #[]) (hashAt : Nat → Int) (h : Int) : ∀ (fuel : Nat) (p : Probe) (m : Nat), PrInv t p m → prMu p m < fuel →
    (∃ j, probe.go t hashAt h fuel p = some (.empty j none) ∧ t.slot j = .empty) ∨ (∃ j i next m', probe.go t hashAt h fuel p = some (.candidate j i next) ∧ t.slot j = .live i ∧ t.place[i]? = some j ∧ PrInv t next m' ∧ prMu next m' < prMu p m)
  | 0, _, _, _, h => absurd h (Nat.not_lt_zero _)
  | fuel + 1, p, m, hi, hf => by
    unfold probe.go
    rcases slot_of hd p.j with e | ⟨i, e, ep⟩
    · rw [e]; dsimp only; rw [hi.1]; exact Or.inl ⟨_, rfl, e⟩
    · rw [e]; dsimp only
      obtain ⟨m', hi', hl⟩ := advance_inv hi (by rw [e]; exact fun x => nomatch x)
      split
      · exact Or.inr ⟨_, _, _, m', rfl, e, ep, hi', hl⟩
      · rcases probe_go hd hashAt h fuel (t.advance p) m' hi' (by omega) with r | ⟨j, i, nx, m'', r, r2, r3, r4, r5⟩
        · exact Or.inl r
        · exact Or.inr ⟨j, i, nx, m'', r, r2, r3, r4, by omega⟩

theorem start_inv {t : SetTable} {n : Nat} (T : TabOk t n) (h : Int) : ∃ m, PrInv t (t.probeStart h) m ∧ prMu (t.probeStart h) m < 10 * turns t.mask := by
  obtain ⟨j, hj, he⟩ := some_empty T
  obtain ⟨m, hm, e⟩ := Em_any (P := fun j => t.slot j = .empty) T.round hj he 13 (bits h % (t.mask + 1)) (bits h) (Nat.le_of_lt_succ (Nat.mod_lt _ (by omega))) (bits_lt h)
  refine ⟨m, ⟨rfl, runEnd_le _ _, e, fun _ => rfl⟩, ?_⟩
  have := runEnd_le t.mask (bits h % (t.mask + 1))
  unfold prMu probeStart turns
  dsimp only
  omega

/-! ## a table laid anew -/
theorem free_ok {mask : Nat} {owner : Array (Option Nat)} : ∀ (fuel m i pt : Nat), i ≤ mask → owner.size = mask + 1 → Em (fun j => owner.getD j (some 0) = none) mask m i pt → m < fuel → ∃ j, layClean.free mask owner fuel i pt = some j ∧ j ≤ mask ∧ owner.getD j (some 0) = none
  | 0, _, _, _, _, _, _, h => absurd h (Nat.not_lt_zero _)
  | fuel + 1, m, i, pt, hi, hs, he, hf => by
    unfold layClean.free
    cases hq : (List.range (runEnd mask i + 1 - i)).find? fun k => (owner.getD (i + k) (some 0)).isNone with
    | some k =>
      have h1 := List.find?_some hq
      have h2 := List.mem_of_find?_eq_some hq
      have h3 := List.mem_range.mp h2
      refine ⟨i + k, rfl, ?_, by simpa using h1⟩
      have : runEnd mask i ≤ mask := by unfold runEnd; split <;> omega
      omega
    | none =>
      dsimp only
      have hn : owner.getD i (some 0) ≠ none := by
        have h0 := List.find?_eq_none.mp hq 0 (List.mem_range.mpr (by unfold runEnd; split <;> omega))
        simpa using h0
      obtain ⟨k, rfl⟩ : ∃ k, m = k + 1 := by
        cases m with
        | zero => exact absurd he hn
        | succ k => exact ⟨k, rfl⟩
      exact free_ok fuel k _ _ (by unfold leap; exact Nat.le_of_lt_succ (Nat.mod_lt _ (by omega))) hs he (by omega)

def owned (owner : Array (Option Nat)) (n : Nat) : List Nat := (List.range n).filterMap fun j => owner.getD j none

theorem fm_congr {α : Type} {f g : Nat → Option α} : ∀ (l : List Nat), (∀ a ∈ l, f a = g a) → l.filterMap f = l.filterMap g
  | [], _ => rfl
  | a :: l, h => by rw [List.filterMap_cons, List.filterMap_cons, h a (by simp), fm_congr l fun b hb => h b (by simp [hb])]
theorem filterMap_set {α : Type} {f g : Nat → Option α} {x : α} {j : Nat} : ∀ (l : List Nat), l.Nodup → j ∈ l → (∀ i, i ≠ j → f i = g i) → f j = none → g j = some x → (l.filterMap g).Perm (x :: l.filterMap f)
  | [], _, h, _, _, _ => by cases h
  | i :: l, hn, hj, hfg, hf, hg => by
    have hn' := List.nodup_cons.mp hn
    by_cases e : i = j
    · subst e
      rw [List.filterMap_cons, List.filterMap_cons, hf, hg]
      dsimp only
      have : l.filterMap g = l.filterMap f := by
        exact fm_congr l fun a ha => (hfg a (fun e => hn'.1 (e ▸ ha))).symm
      rw [this]
    · have hj' : j ∈ l := by rcases List.mem_cons.mp hj with h | h; exact absurd h.symm e; exact h
      have ih := filterMap_set l hn'.2 hj' hfg hf hg
      rw [List.filterMap_cons, List.filterMap_cons, hfg i e]
      cases g i with
      | none => exact ih
      | some y => exact (ih.cons y).trans (List.Perm.swap x y _)

theorem owned_len {owner : Array (Option Nat)} {N c : Nat} (hp : (owned owner N).Perm (List.range c)) (hs : owner.size = N) (hc : c < N) : ∃ j, j < N ∧ owner.getD j (some 0) = none := by
  apply Classical.byContradiction
  intro hn
  have key : ∀ (l : List Nat), (∀ j ∈ l, ∃ k, owner.getD j none = some k) → (l.filterMap fun j => owner.getD j none).length = l.length := by
    intro l
    induction l with
    | nil => intro _; rfl
    | cons j l ih =>
      intro h
      obtain ⟨k, e⟩ := h j (by simp)
      rw [List.filterMap_cons, e]
      have := ih fun j hj => h j (by simp [hj])
      rw [List.length_cons, List.length_cons, this]
  have := key (List.range N) (by
    intro j hj
    have hj' := List.mem_range.mp hj
    cases h : owner.getD j none with
    | some k => exact ⟨k, rfl⟩
    | none =>
      refine absurd ⟨j, hj', ?_⟩ hn
      have lt : j < owner.size := by omega
      simp [Array.getD, lt] at h ⊢
      exact h)
  have e := hp.length_eq
  unfold owned at e
  rw [this] at e
  simp at e
  omega

theorem lay_fold {mask : Nat} (R : Round (mask + 1)) : ∀ (hs : List Int) (owner : Array (Option Nat)) (c : Nat), owner.size = mask + 1 → (owned owner (mask + 1)).Perm (List.range c) → c + hs.length ≤ mask + 1 →
    ∃ owner' , (hs.foldl (fun acc h => do
        let (owner, k) ← acc
        let j ← layClean.free mask owner (turns mask) (bits h % (mask + 1)) (bits h)
        pure (owner.setIfInBounds j (some k), k + 1)) (some (owner, c))) = some (owner', c + hs.length) ∧ owner'.size = mask + 1 ∧ (owned owner' (mask + 1)).Perm (List.range (c + hs.length))
  | [], owner, c, hs, hp, _ => ⟨owner, rfl, hs, hp⟩
  | h :: hs, owner, c, hz, hp, hl => by
    simp only [List.length_cons] at hl
    obtain ⟨j0, hj0, e0⟩ := owned_len hp hz (by omega)
    obtain ⟨m, hm, em⟩ := Em_any (P := fun j => owner.getD j (some 0) = none) R (j := j0) (by omega) e0 13 (bits h % (mask + 1)) (bits h) (Nat.le_of_lt_succ (Nat.mod_lt _ (by omega))) (bits_lt h)
    obtain ⟨j, ej, hj, ef⟩ := free_ok (turns mask) m _ _ (Nat.le_of_lt_succ (Nat.mod_lt _ (by omega))) hz em (by unfold turns; omega)
    rw [List.foldl_cons]
    have step : ((do
        let (owner, k) ← some (owner, c)
        let j ← layClean.free mask owner (turns mask) (bits h % (mask + 1)) (bits h)
        pure (owner.setIfInBounds j (some k), k + 1)) : Option (Array (Option Nat) × Nat)) = some (owner.setIfInBounds j (some c), c + 1) := by
      show (layClean.free mask owner (turns mask) (bits h % (mask + 1)) (bits h) >>= fun j => _) = _
      rw [ej]; rfl
    rw [step]
    have lt : j < owner.size := by omega
    have perm : (owned (owner.setIfInBounds j (some c)) (mask + 1)).Perm (List.range (c + 1)) := by
      unfold owned
      refine (filterMap_set (f := fun i => owner.getD i none) (x := c) (j := j) _ List.nodup_range (List.mem_range.mpr (by omega)) ?_ ?_ ?_).trans ?_
      · intro i hi
        simp only [Array.getD_eq_getD_getElem?]
        rw [Array.getElem?_setIfInBounds_ne (Ne.symm hi)]
      · simp only [Array.getD_eq_getD_getElem?] at ef ⊢
        have : owner[j]? = some owner[j] := Array.getElem?_eq_getElem lt
        rw [this] at ef ⊢
        exact ef
      · simp only [Array.getD_eq_getD_getElem?]
        rw [Array.getElem?_setIfInBounds_self_of_lt lt]; rfl
      · rw [List.range_succ (n := c)]
        exact (List.Perm.cons c hp).trans (List.perm_append_comm (l₁ := [c]))
    obtain ⟨o', r1, r2, r3⟩ := lay_fold R hs (owner.setIfInBounds j (some c)) (c + 1) (by simp [hz]) perm (by omega)
    refine ⟨o', ?_, r2, ?_⟩
    · rw [r1, List.length_cons, show c + 1 + hs.length = c + (hs.length + 1) by omega]
    · rw [List.length_cons, show c + (hs.length + 1) = c + 1 + hs.length by omega]; exact r3

theorem laid_ok {mask : Nat} (R : Round (mask + 1)) (finger moves : Nat) (led plain : Bool) (hashes : Array Int) (hl : hashes.size ≤ mask) :
    ∃ t order, laid mask finger moves led plain hashes = some (t, order) ∧ TabOk t hashes.size ∧ t.mask = mask ∧ t.led = led ∧ t.plain = plain ∧ order.toList.Perm (List.range hashes.size) := by
  obtain ⟨o, e, sz, pm⟩ := lay_fold R hashes.toList (Array.replicate (mask + 1) none) 0 (by simp) (by
    have : owned (Array.replicate (mask + 1) none) (mask + 1) = [] := by
      unfold owned
      rw [List.filterMap_eq_nil_iff]
      intro j hj
      have := List.mem_range.mp hj
      simp [Array.getD_eq_getD_getElem?, this]
    rw [this]; exact List.Perm.refl _) (by rw [Array.length_toList]; omega)
  have el : layClean mask hashes = some o := by
    unfold layClean
    rw [← Array.foldl_toList]
    have e' := e
    simp only [Nat.zero_add] at e'
    rw [e']
    rfl
  unfold laid
  rw [el]
  simp only [Nat.zero_add, Array.length_toList] at pm
  have e2 : ∀ l : List Nat, (l.filterMap fun j => (o.getD j none).map (j, ·)).map (·.2) = l.filterMap fun j => o.getD j none := by
    intro l
    induction l with
    | nil => rfl
    | cons j l ih =>
      rw [List.filterMap_cons, List.filterMap_cons]
      cases o.getD j none with
      | none => exact ih
      | some k => exact congrArg (k :: ·) ih
  have e3 : ∀ l : List Nat, ((l.filterMap fun j => (o.getD j none).map (j, ·)).map (·.1)).Sublist l := by
    intro l
    induction l with
    | nil => exact List.Sublist.refl _
    | cons j l ih =>
      rw [List.filterMap_cons]
      cases o.getD j none with
      | none => exact ih.cons j
      | some k => exact ih.cons_cons j
  refine ⟨_, _, rfl, ⟨?_, rfl, hl, R, List.Pairwise.sublist (e3 _) List.pairwise_lt_range⟩, rfl, rfl, rfl, ?_⟩
  · have h1 := congrArg List.length (e2 (List.range (mask + 1)))
    have h2 := pm.length_eq
    unfold owned at h2
    simp only [List.length_map, List.length_range] at h1 h2
    simp only [List.size_toArray, List.length_map]
    omega
  · dsimp only
    rw [e2]; exact pm

/-! ## the places rise -/
theorem below_go {xs : Array Nat} {j : Nat} (hr : xs.toList.Pairwise (· < ·)) : ∀ (fuel lo hi : Nat), lo ≤ hi → hi ≤ xs.size → hi - lo ≤ fuel → (∀ i x, i < lo → xs[i]? = some x → x < j) → (∀ i x, hi ≤ i → xs[i]? = some x → j ≤ x) →
    below.go xs j fuel lo hi ≤ xs.size ∧ (∀ i x, i < below.go xs j fuel lo hi → xs[i]? = some x → x < j) ∧ (∀ i x, below.go xs j fuel lo hi ≤ i → xs[i]? = some x → j ≤ x)
  | 0, lo, hi, h1, h2, h3, a, b => by
    have : lo = hi := by omega
    subst this
    exact ⟨h2, a, b⟩
  | fuel + 1, lo, hi, h1, h2, h3, a, b => by
    unfold below.go
    by_cases hl : lo < hi
    · rw [if_pos hl]
      dsimp only
      have hm : (lo + hi) / 2 < xs.size := by omega
      have em : xs[(lo + hi) / 2]? = some xs[(lo + hi) / 2] := Array.getElem?_eq_getElem hm
      have eg : xs.getD ((lo + hi) / 2) j = xs[(lo + hi) / 2] := by simp [Array.getD, hm]
      have mono : ∀ (i k x y : Nat), i < k → xs[i]? = some x → xs[k]? = some y → x < y := by
        intro i k x y hik ex ey
        have hk : k < xs.size := (Array.getElem?_eq_some_iff.mp ey).1
        have := List.pairwise_iff_getElem.mp hr i k (by simp; omega) (by simpa using hk) hik
        rw [Array.getElem?_eq_getElem (by omega)] at ex
        rw [Array.getElem?_eq_getElem hk] at ey
        cases ex; cases ey
        simpa using this
      rw [eg]
      split
      · rename_i h
        refine below_go hr fuel _ _ (by omega) h2 (by omega) (fun i x hq ex => ?_) b
        by_cases he : i = (lo + hi) / 2
        · subst he; rw [em] at ex; cases ex; exact h
        · exact Nat.lt_trans (mono i ((lo + hi) / 2) x _ (by omega) ex em) h
      · rename_i h
        refine below_go hr fuel _ _ (by omega) (by omega) (by omega) a (fun i x hq ex => ?_)
        by_cases he : i = (lo + hi) / 2
        · subst he; rw [em] at ex; cases ex; omega
        · have := mono ((lo + hi) / 2) i _ x (by omega) em ex
          omega
    · rw [if_neg hl]
      have : lo = hi := by omega
      subst this
      exact ⟨h2, a, b⟩
theorem below_ok {xs : Array Nat} (j : Nat) (hr : xs.toList.Pairwise (· < ·)) : below xs j ≤ xs.size ∧ (∀ i x, i < below xs j → xs[i]? = some x → x < j) ∧ (∀ i x, below xs j ≤ i → xs[i]? = some x → j ≤ x) :=
  below_go hr xs.size 0 xs.size (Nat.zero_le _) (Nat.le_refl _) (by omega) (fun i x h => absurd h (Nat.not_lt_zero _)) fun i x h e => by
    have := (Array.getElem?_eq_some_iff.mp e).1; omega
theorem insertAt_list {α : Type} (xs : Array α) (p : Nat) (x : α) (hp : p ≤ xs.size) : (insertAt xs p x).toList = xs.toList.take p ++ x :: xs.toList.drop p := by
  unfold insertAt
  rw [Array.toList_append, Array.toList_push, Array.toList_extract, Array.toList_extract]
  simp only [List.extract_eq_drop_take, Nat.sub_zero, List.drop_zero, List.append_assoc, List.singleton_append]
  congr 2
  rw [List.take_of_length_le (by simp)]
theorem insertAt_size {α : Type} (xs : Array α) (p : Nat) (x : α) (hp : p ≤ xs.size) : (insertAt xs p x).size = xs.size + 1 := by
  rw [← Array.length_toList, insertAt_list xs p x hp]; simp; omega
theorem insertAt_mem {α : Type} (xs : Array α) (p : Nat) (x : α) (hp : p ≤ xs.size) (y : α) : y ∈ (insertAt xs p x).toList ↔ y = x ∨ y ∈ xs.toList := by
  rw [insertAt_list xs p x hp, List.mem_append, List.mem_cons]
  constructor
  · rintro (h | h | h)
    · exact Or.inr (List.mem_of_mem_take h)
    · exact Or.inl h
    · exact Or.inr (List.mem_of_mem_drop h)
  · rintro (h | h)
    · exact Or.inr (Or.inl h)
    · rw [← List.take_append_drop p xs.toList] at h
      rcases List.mem_append.mp h with h | h
      · exact Or.inl h
      · exact Or.inr (Or.inr h)
theorem put_ok {t : SetTable} {n j : Nat} (T : TabOk t n) (he : t.slot j = .empty) (hr : n + 1 ≤ t.mask) : TabOk (t.put j).1 (n + 1) ∧ (t.put j).2 = below t.place j ∧ below t.place j ≤ n ∧ (t.put j).1.mask = t.mask ∧ (t.put j).1.led = t.led ∧ (t.put j).1.plain = t.plain ∧ (t.put j).1.moves = t.moves := by
  obtain ⟨b1, b2, b3⟩ := below_ok j T.ris
  have hn : t.place[below t.place j]? ≠ some j := by
    intro h
    unfold slot at he
    dsimp only at he
    rw [if_pos (by simpa using h)] at he
    cases he
  have hd : (if has t.dummies j = true then eraseAt t.dummies (below t.dummies j) else t.dummies) = #[] := by
    rw [T.dum]; simp [has]
  refine ⟨⟨?_, hd, hr, T.round, ?_⟩, rfl, by rw [← T.size]; exact b1, rfl, rfl, rfl, rfl⟩
  · show (insertAt t.place _ j).size = _
    rw [insertAt_size _ _ _ b1, T.size]
  · show (insertAt t.place _ j).toList.Pairwise _
    rw [insertAt_list _ _ _ b1]
    refine List.pairwise_append.mpr ⟨List.Pairwise.sublist (List.take_sublist _ _) T.ris, List.pairwise_cons.mpr ⟨fun x hx => ?_, List.Pairwise.sublist (List.drop_sublist _ _) T.ris⟩, fun x hx y hy => ?_⟩
    · obtain ⟨i, hi, e⟩ := List.getElem_of_mem hx
      simp only [List.length_drop, Array.length_toList] at hi
      rw [List.getElem_drop] at e
      have ex : t.place[below t.place j + i]? = some x := by rw [Array.getElem?_eq_getElem (by omega), ← e]; simp
      have := b3 _ x (by omega) ex
      rcases Nat.lt_or_eq_of_le this with h | h
      · exact h
      · subst h
        exfalso
        cases i with
        | zero => exact hn ex
        | succ i =>
          have hp : below t.place j < t.place.size := by omega
          have e0 : t.place[below t.place j]? = some t.place[below t.place j] := Array.getElem?_eq_getElem hp
          have g1 := b3 _ _ (Nat.le_refl _) e0
          have g2 := List.pairwise_iff_getElem.mp T.ris (below t.place j) (below t.place j + (i + 1)) (by simpa using hp) (by simp; omega) (by omega)
          rw [Array.getElem?_eq_getElem (by omega)] at ex
          injection ex with ex
          simp at g2
          omega
    · obtain ⟨i, hi, e⟩ := List.getElem_of_mem hx
      simp only [List.length_take, Array.length_toList] at hi
      rw [List.getElem_take] at e
      have ex : t.place[i]? = some x := by rw [Array.getElem?_eq_getElem (by omega), ← e]; simp
      have lx := b2 i x (by omega) ex
      rcases List.mem_cons.mp hy with rfl | hy
      · exact lx
      · obtain ⟨k, hk, e'⟩ := List.getElem_of_mem hy
        simp only [List.length_drop, Array.length_toList] at hk
        rw [List.getElem_drop] at e'
        have ey : t.place[below t.place j + k]? = some y := by rw [Array.getElem?_eq_getElem (by omega), ← e']; simp
        have := b3 _ y (by omega) ey
        omega
def placeAt (t : SetTable) (k : Nat) : Nat := if k = 0 then 0 else t.place.getD (k - 1) 0 + 1
theorem next_place {t : SetTable} {n k : Nat} (T : TabOk t n) (hk : k ≤ n) : below t.place (placeAt t k) = k := by
  obtain ⟨b1, b2, b3⟩ := below_ok (placeAt t k) T.ris
  have mono : ∀ (i k x y : Nat), i < k → t.place[i]? = some x → t.place[k]? = some y → x < y := by
    intro i k x y hik ex ey
    have hk : k < t.place.size := (Array.getElem?_eq_some_iff.mp ey).1
    have := List.pairwise_iff_getElem.mp T.ris i k (by simp; omega) (by simpa using hk) hik
    rw [Array.getElem?_eq_getElem (by omega)] at ex
    rw [Array.getElem?_eq_getElem hk] at ey
    cases ex; cases ey
    simpa using this
  have sz := T.size
  have at' : ∀ i, i < n → t.place[i]? = some (t.place.getD i 0) := by
    intro i hi
    rw [Array.getElem?_eq_getElem (by omega)]
    have : i < t.place.size := by omega
    simp [Array.getD, this]
  rcases Nat.lt_trichotomy (below t.place (placeAt t k)) k with h | h | h
  · exfalso
    have := b3 (k - 1) _ (by omega) (at' (k - 1) (by omega))
    unfold placeAt at this
    rw [if_neg (by omega)] at this
    omega
  · exact h
  · exfalso
    have ek := at' k (by omega)
    have h1 := b2 k _ h ek
    unfold placeAt at h1
    by_cases h0 : k = 0
    · rw [if_pos h0] at h1; omega
    · rw [if_neg h0] at h1
      have := mono (k - 1) k _ _ (by omega) (at' (k - 1) (by omega)) ek
      omega
end L2.R2

set_option Elab.async false
set_option linter.all false
set_option maxRecDepth 100000
set_option maxHeartbeats 1000000
namespace L2.R2
open PySem PySem.SetTable
/-! ## tuples of ints put into a set -/
section
variable {prog : Program} {w : World} {A : Around} {E : Value → Shared → Prop} {s : Shared}

theorem st_class {ks : List Int} {a : Addr} {Q : Bool → Shared → Prop} (hk : IsTupleKey (intKind prog w) s.heap ks a) (q : Q false s) : wpAny (model prog w) A (ofAClassStatement 8 (.ref a)) Q E s := by
  have hT := hk.typeIs
  obtain ⟨o, items, n, ho, _, hd, hi⟩ := hk
  unfold ofAClassStatement
  refine wpAny_bind (wpAny_typeOf hT ?_)
  dsimp only
  rw [if_pos (by decide)]
  refine wpAny_bind (wpAny_pure ?_)
  simp only [Bool.not_true, Bool.false_eq_true, if_false]
  refine wpAny_bind (wpAny_seqItems ho hd ?_)
  try dsimp only
  refine wpAny_bind ?_
  rw [← Array.forIn_toList]
  refine wpAny_forIn_list _ (fun rest r s' => r.1 = none ∧ s' = s ∧ ∀ v ∈ rest, carriedByValue v = true) _ ?_ ?_ _ _ ⟨rfl, rfl, hi.byValue⟩
  · rintro v rest r s' ⟨hr, rfl, hall⟩
    have hv := hall v List.mem_cons_self
    have e : ofAClassStatement 7 v = pure false := by
      cases v with
      | ref a => simp [carriedByValue] at hv
      | _ => first | rfl | (unfold ofAClassStatement; rfl)
    rw [e]
    refine wpAny_bind (wpAny_pure ?_)
    simp only [Bool.false_eq_true, if_false]
    exact wpAny_pure ⟨rfl, rfl, fun u hu' => hall u (List.mem_cons_of_mem _ hu')⟩
  · rintro ⟨r1, r2⟩ s' ⟨hr, rfl, _⟩
    simp only at hr
    subst hr
    exact wpAny_pure q

theorem st_byValue {ks : List Int} {a : Addr} {Q : Bool → Shared → Prop} (hk : IsTupleKey (intKind prog w) s.heap ks a) (q : Q true s) : wpAny (model prog w) A (hashByValue 8 (.ref a)) Q E s := by
  have hT := hk.typeIs
  obtain ⟨o, items, n, ho, _, hd, hi⟩ := hk
  unfold hashByValue
  refine wpAny_bind (wpAny_specialOf hT F.slot_tuple_hash.lookup ?_)
  try dsimp only
  refine wpAny_bind (wpAny_seqItems ho hd ?_)
  try dsimp only
  refine wpAny_bind ?_
  show wpAny _ _ (forIn items _ _) _ _ s
  rw [← Array.forIn_toList]
  refine wpAny_forIn_list _ (fun rest r s' => r.1 = none ∧ s' = s ∧ ∃ ks', ItemsAre (intKind prog w) ks' rest) _ ?_ ?_ _ _ ⟨rfl, rfl, ks, hi⟩
  · rintro v rest r s' ⟨hr, rfl, ks', hall⟩
    cases hall with
    | @cons k _ ks'' _ h1 h2 =>
      have e : hashByValue 7 v = pure true := by
        obtain ⟨t, rfl⟩ : ∃ t, v = .int k t := by
          cases v <;> simp [intKind, Value.isInt] at h1
          exact ⟨_, by rw [h1]⟩
        rfl
      rw [e]
      refine wpAny_bind (wpAny_pure ?_)
      simp only [Bool.not_true, Bool.false_eq_true, if_false]
      exact wpAny_pure ⟨rfl, rfl, _, h2⟩
  · rintro ⟨r1, r2⟩ s' ⟨hr, rfl, _⟩
    simp only at hr
    subst hr
    exact wpAny_pure q

theorem st_seen {ks : List Int} {a : Addr} {stored : List Value} {Q : Bool → Shared → Prop} (hk : IsTupleKey (intKind prog w) s.heap ks a) (hs : ∀ y ∈ stored, ∃ ks' b, y = .ref b ∧ IsTupleKey (intKind prog w) s.heap ks' b) (q : Q false s) :
    wpAny (model prog w) A (searchCouldBeSeen (.ref a) stored) Q E s := by
  unfold searchCouldBeSeen
  refine wpAny_bind ?_
  refine wpAny_forIn_list _ (fun rest r s' => r.1 = none ∧ s' = s ∧ ∀ y ∈ rest, y ∈ stored) _ ?_ ?_ _ _ ⟨rfl, rfl, fun _ h => h⟩
  · rintro v rest r s' ⟨hr, rfl, hall⟩
    obtain ⟨ks', b, rfl, hb⟩ := hs v (hall v List.mem_cons_self)
    have hall' : ∀ y ∈ rest, y ∈ stored := fun u hu' => hall u (List.mem_cons_of_mem _ hu')
    dsimp only
    by_cases hv : ((a == b) || (carriedByValue (Value.ref a) && carriedByValue (Value.ref b))) = true
    · rw [if_pos hv]
      exact wpAny_pure ⟨rfl, rfl, hall'⟩
    · rw [if_neg hv]
      refine wpAny_bind (wpAny_eqIsQuiet_tuple hk ?_)
      simp only [Bool.not_true, Bool.false_eq_true, if_false]
      refine wpAny_bind (wpAny_eqIsQuiet_tuple hb ?_)
      simp only [Bool.not_true, Bool.false_eq_true, if_false]
      refine wpAny_bind (st_class hk ?_)
      simp only [Bool.false_eq_true, if_false]
      refine wpAny_bind (st_class hb ?_)
      simp only [Bool.false_eq_true, if_false]
      exact wpAny_pure ⟨rfl, rfl, hall'⟩
  · rintro ⟨r1, r2⟩ s' ⟨hr, rfl, _⟩
    simp only at hr
    subst hr
    exact wpAny_pure q

def byText (w : World) : Bool := w.params.followText "set-order"
/-- the elements of a set: tuples of ints with their hashes -/
def EsOk (prog : Program) (w : World) (h : Heap) (es : Array (Int × Value)) : Prop := ∀ e ∈ es.toList, ∃ ks b, e = (tupleKeyHash (intKind prog w) ks, .ref b) ∧ IsTupleKey (intKind prog w) h ks b
def Full (mask n : Nat) : Prop := (mask = 7 ∧ n ≤ 4) ∨ (mask = 31 ∧ n ≤ 18) ∨ (mask = 127 ∧ n ≤ 76)
def setRec (es : Array (Int × Value)) (ep : Nat) (t : SetTable) : Obj := { cls := .type "set", dict := none, data := .set es ep t }

theorem TabOk.fits {t : SetTable} {n : Nat} (T : TabOk t n) : t.fits n = true := by
  unfold SetTable.fits fill
  rw [T.dum, T.size]
  simp
  exact T.room
theorem full_odd {mask n : Nat} (h : Full mask n) : (mask % 2 == 0) = false := by
  rcases h with ⟨rfl, _⟩ | ⟨rfl, _⟩ | ⟨rfl, _⟩ <;> rfl

theorem st_search {S a : Addr} {ks : List Int} {es : Array (Int × Value)} {ep : Nat} {t : SetTable} {Q : SetFound → Shared → Prop} (hu : A.units < cLine) (ho : s.heap.get? S = some (setRec es ep t)) (T : TabOk t es.size) (hf : Full t.mask es.size) (he : EsOk prog w s.heap es)
    (hk : IsTupleKey (intKind prog w) s.heap ks a) (q1 : (∃ e ∈ es.toList, ∃ b, e.2 = .ref b ∧ IsTupleKey (intKind prog w) s.heap ks b) → Q (.there none) s) (q2 : ∀ j, t.slot j = .empty → Q (.free j false) s) :
    ∀ (fuel : Nat) (stand : Option Probe) (m : Nat), PrInv t (stand.getD (t.probeStart (tupleKeyHash (intKind prog w) ks))) m → prMu (stand.getD (t.probeStart (tupleKeyHash (intKind prog w) ks))) m < 10 * turns t.mask → prMu (stand.getD (t.probeStart (tupleKeyHash (intKind prog w) ks))) m < fuel →
      wpAny (model prog w) A (setSearchFrom S (.ref a) (tupleKeyHash (intKind prog w) ks) true fuel stand) Q E s
  | 0, _, _, _, _, h => absurd h (Nat.not_lt_zero _)
  | fuel + 1, stand, m, hi, hm, hl => by
    unfold setSearchFrom
    refine wpAny_bind (wpAny_setState_of ho rfl T.fits ?_)
    dsimp only
    rw [if_neg (by unfold SetTable.gaveWay; rw [full_odd hf]; exact Bool.false_ne_true)]
    unfold probe
    rcases probe_go T.dum _ (tupleKeyHash (intKind prog w) ks) (10 * turns t.mask) _ m hi hm with ⟨j, e, ej⟩ | ⟨j, i, next, m', e, ej, ep', hi', hm'⟩
    · rw [e]
      dsimp only
      exact wpAny_pure (q2 j ej)
    · rw [e]
      dsimp only
      have hil : i < es.size := by
        have := (Array.getElem?_eq_some_iff.mp ep').1
        rw [T.size] at this; exact this
      have ei : es[i]? = some es[i] := Array.getElem?_eq_getElem hil
      have mi : es[i] ∈ es.toList := by simp
      obtain ⟨ks', b, ee, hb⟩ := he _ mi
      have rest : wpAny (model prog w) A (match es[i]? with
        | some (fst, y) => do
          let equal ← holding [y] (eqBool y (Value.ref a))
          let __x ← setState S
          if (true && equal) = true then pure (SetFound.there none)
            else
              match __x.2.snd.sameMemory t.moves t.mask with
              | some same =>
                let still ← match if same = true then __x.2.snd.slot j else Slot.empty with
                | Slot.live i' =>
                  match __x.fst[i']? with
                  | some (fst, y') => do pure (if ← isSame y' y then some i' else none)
                  | none => pure none
                | _ => pure none
                match still with
                | none => do
                  rule "set.search.anew"
                  setSearchFrom S (Value.ref a) (tupleKeyHash (intKind prog w) ks) true fuel none
                | some i' =>
                  if equal = true then pure (SetFound.there (some i'))
                  else setSearchFrom S (Value.ref a) (tupleKeyHash (intKind prog w) ks) true fuel (some next)
              | _ => unsupported "set.changed-during-lookup:is-the-new-block-at-the-old-address"
        | _ => unsupported "internal:set-entry") Q E s := by
        rw [ei, ee]
        dsimp only
        refine wpAny_bind (wpAny_holding (wpAny_eqBool_tuple hu hb hk ?_))
        refine wpAny_bind (wpAny_setState_of ho rfl T.fits ?_)
        dsimp only
        by_cases hkk : ks' = ks
        · subst hkk
          rw [if_pos (by simp)]
          exact wpAny_pure (q1 ⟨_, mi, b, by rw [ee], hb⟩)
        · rw [if_neg (by simp [hkk])]
          have sm : t.sameMemory t.moves t.mask = some true := by unfold sameMemory; rw [if_pos (by simp)]
          rw [sm]
          dsimp only
          rw [if_pos rfl, ej]
          dsimp only
          rw [ei, ee]
          dsimp only
          refine wpAny_bind ?_
          have same : isSame (.ref b) (.ref b) = pure true := by
            show (if (b == b) = true then pure true else _) = _
            rw [if_pos (by simp)]
          rw [same]
          refine wpAny_pure (wpAny_bind (wpAny_pure ?_))
          rw [if_pos rfl]
          dsimp only
          rw [if_neg (by simp [hkk])]
          exact st_search hu ho T hf he hk q1 q2 fuel (some next) m' hi' (Nat.lt_trans hm' hm) (by simp only [Option.getD_some]; omega)
      cases hled : t.led with
      | true =>
        simp only [Bool.not_true, Bool.false_eq_true, if_false]
        exact rest
      | false =>
        simp only [Bool.not_false, if_true]
        refine wpAny_bind (st_seen hk ?_ ?_)
        · intro y hy
          obtain ⟨e0, he0, rfl⟩ := List.mem_map.mp hy
          have := (Array.mem_filter.mp (Array.mem_toList_iff.mp he0)).1
          obtain ⟨ks1, b1, e1, h1⟩ := he e0 (Array.mem_toList_iff.mpr this)
          exact ⟨ks1, b1, by rw [e1], h1⟩
        · simp only [Bool.false_eq_true, if_false]
          exact rest

/-- a set of tuples of ints -/
structure SetTup (prog : Program) (w : World) (h : Heap) (S : Addr) (es : Array (Int × Value)) : Prop where
  tab : ∃ ep t, h.get? S = some (setRec es ep t) ∧ TabOk t es.size ∧ Full t.mask es.size ∧ t.led = !byText w ∧ t.plain = true
  els : EsOk prog w h es

theorem key_other {h h' : Heap} {ks : List Int} {S b : Addr} {es : Array (Int × Value)} {ep : Nat} {t : SetTable} (hS : h.get? S = some (setRec es ep t)) (up : ∀ b o, b ≠ S → h.get? b = some o → h'.get? b = some o) (hk : IsTupleKey (intKind prog w) h ks b) : IsTupleKey (intKind prog w) h' ks b := by
  obtain ⟨o, items, n, ho, hc, hd, hi⟩ := hk
  refine ⟨o, items, n, up b o ?_ ho, hc, hd, hi⟩
  rintro rfl
  rw [hS] at ho; cases ho
  exact nomatch hd

theorem grown_small {n : Nat} (h : n < 100) : SetTable.grown n = n * 4 := by
  unfold SetTable.grown; rw [if_neg (by omega)]

theorem setAdd_tup {S a : Addr} {ks : List Int} {es : Array (Int × Value)} {Q : Bool → Shared → Prop} (hu : A.units < cLine) (H : SetTup prog w s.heap S es) (hk : IsTupleKey (intKind prog w) s.heap ks a) (hn : es.size < 76)
    (q : ∀ b h' tk es', SetTup prog w h' S es' → (∀ y ∈ es'.toList, y ∈ es.toList ∨ y.2 = .ref a) → (∀ y ∈ es.toList, y ∈ es'.toList) → (∃ y ∈ es'.toList, ∃ b, y.2 = .ref b ∧ IsTupleKey (intKind prog w) h' ks b) → es'.size ≤ es.size + 1 →
      (∀ b o, b ≠ S → s.heap.get? b = some o → h'.get? b = some o) → h'.objs.size = s.heap.objs.size → s.toks ≤ tk → Q b { s with heap := h', toks := tk }) :
    wpAny (model prog w) A (setAdd S (.ref a)) Q E s := by
  obtain ⟨⟨ep, t, ho, T, hf, hled, hpl⟩, hels⟩ := H
  unfold setAdd
  refine wpAny_holding (wpAny_bind (wpAny_pyHash_tuple hu hk ?_))
  unfold setAddHashed
  refine wpAny_holding ?_
  unfold setAddHashedIn
  refine wpAny_bind (wpAny_setState_of (s := { s with toks := s.toks + (ks.length + 1) }) ho rfl T.fits ?_)
  dsimp only
  have nb : byScan (.ref a) es = false := by unfold byScan; simp [Value.scannable]
  rw [nb]
  simp only [Bool.false_eq_true, if_false]
  obtain ⟨m, hi, hm⟩ := start_inv T (tupleKeyHash (intKind prog w) ks)
  have hm2 : prMu (t.probeStart (tupleKeyHash (intKind prog w) ks)) m < 100000 := by
    refine Nat.lt_of_lt_of_le hm ?_
    unfold turns
    rcases hf with ⟨e, _⟩ | ⟨e, _⟩ | ⟨e, _⟩ <;> rw [e] <;> decide
  unfold setSearch
  refine wpAny_bind (st_search (s := { s with toks := s.toks + (ks.length + 1) }) hu ho T hf hels hk ?_ ?_ 100000 none m hi hm hm2)
  · rintro ⟨e, he, b, e2, hb⟩
    dsimp only
    refine wpAny_pure ?_
    exact q false s.heap _ es ⟨⟨ep, t, ho, T, hf, hled, hpl⟩, hels⟩ (fun y hy => Or.inl hy) (fun y hy => hy) ⟨e, he, b, e2, hb⟩ (by omega) (fun b o _ e => e) rfl (by show s.toks ≤ s.toks + _; omega)
  · intro j hj
    dsimp only
    refine wpAny_bind (wpAny_setState_of (s := { s with toks := s.toks + (ks.length + 1) }) ho rfl T.fits ?_)
    dsimp only
    have room : es.size + 1 ≤ t.mask := by rcases hf with ⟨e, h⟩ | ⟨e, h⟩ | ⟨e, h⟩ <;> omega
    obtain ⟨T1, p1, p2, p3, p4, p5, p6⟩ := put_ok T hj room
    rw [p5, hpl]
    simp only [if_true]
    refine wpAny_bind (st_byValue (s := { s with toks := s.toks + (ks.length + 1) }) hk ?_)
    simp only [if_true]
    rw [p1]
    have sz := insertAt_size es (below t.place j) (tupleKeyHash (intKind prog w) ks, Value.ref a) p2
    have mem := insertAt_mem es (below t.place j) (tupleKeyHash (intKind prog w) ks, Value.ref a) p2
    generalize insertAt es (below t.place j) (tupleKeyHash (intKind prog w) ks, Value.ref a) = es1 at sz mem
    refine wpAny_bind (wpAny_storeSet_of (s := { s with toks := s.toks + (ks.length + 1) }) ho rfl ?_ (by rw [sz, sizeLine_eq]; omega))
    have up1 : ∀ b o, b ≠ S → s.heap.get? b = some o → (s.heap.update S (Obj.putSet es1 (t.put j).1)).get? b = some o := fun b o hb e => (Heap.get?_update_other _ _ (Ne.symm hb)).trans e
    obtain ⟨ep1, g1⟩ : ∃ ep1, (s.heap.update S (Obj.putSet es1 (t.put j).1)).get? S = some (setRec es1 ep1 (t.put j).1) := ⟨_, Heap.get?_update_self _ ho rfl⟩
    have z1 : (s.heap.update S (Obj.putSet es1 (t.put j).1)).objs.size = s.heap.objs.size := (Heap.SameBut.update ..).1
    generalize s.heap.update S (Obj.putSet es1 (t.put j).1) = h1 at up1 g1 z1
    have els1 : EsOk prog w h1 es1 := by
      intro e he
      rcases (mem e).mp he with rfl | he
      · exact ⟨ks, a, rfl, key_other ho up1 hk⟩
      · obtain ⟨ks', b, r1, r2⟩ := hels e he
        exact ⟨ks', b, r1, key_other ho up1 r2⟩
    have T1' : TabOk (t.put j).1 es1.size := by rw [sz]; exact T1
    have fill1 : (t.put j).1.fill = es1.size := by unfold fill; rw [T1'.size, T1'.dum]; simp
    by_cases tf : (t.put j).1.tooFull = true
    · rw [tf]
      simp only [Bool.not_false, Bool.and_self, if_true]
      have tf' := tf
      unfold tooFull at tf'
      rw [fill1, p3, sz] at tf'
      simp only [ge_iff_le, decide_eq_true_eq] at tf'
      have cases2 : (t.mask = 7 ∧ es.size = 4) ∨ (t.mask = 31 ∧ es.size = 18) := by rcases hf with ⟨e, h⟩ | ⟨e, h⟩ | ⟨e, h⟩ <;> omega
      unfold setRelay
      refine wpAny_bind (wpAny_bind (wpAny_setState_of (s := { s with heap := h1, toks := s.toks + (ks.length + 1) }) g1 rfl T1'.fits ?_))
      dsimp only
      have hw : SetTable.sizeAbove (grown (es.size + 1)) = (if t.mask = 7 then 32 else 128) := by
        rw [grown_small (by omega)]
        rcases cases2 with ⟨e, h⟩ | ⟨e, h⟩ <;> rw [e, h] <;> decide
      rw [if_neg (by rw [hw, sizeLine_eq]; split <;> decide)]
      have R : Round ((if t.mask = 7 then 31 else 127) + 1) := by
        split
        · exact round32
        · exact round128
      obtain ⟨t2, order, l1, T2, l3, l4, l5, l6⟩ := laid_ok R (t.put j).1.finger ((t.put j).1.movedTo (if t.mask = 7 then 31 else 127)) (t.put j).1.led (t.put j).1.plain (es1.map (·.1)) (by rw [Array.size_map, sz]; rcases cases2 with ⟨e, h⟩ | ⟨e, h⟩ <;> rw [e, h] <;> decide)
      have er : (t.put j).1.relaid (es1.map (·.1)) (grown (es.size + 1)) = some (t2, order) := by
        unfold relaid
        rw [hw]
        have : (if t.mask = 7 then 32 else 128) - 1 = (if t.mask = 7 then 31 else 127) := by split <;> rfl
        rw [this]; exact l1
      rw [er]
      rw [Array.size_map] at T2 l6
      have esl : (order.filterMap (es1[·]?)).toList.Perm es1.toList := by
        rw [Array.toList_filterMap]
        refine (l6.filterMap _).trans ?_
        have : (List.range es1.size).filterMap (es1[·]?) = es1.toList := by
          apply List.ext_getElem?
          intro i
          have key : ∀ n, n ≤ es1.size → (List.range n).filterMap (es1[·]?) = es1.toList.take n := by
            intro n
            induction n with
            | zero => intro _; rfl
            | succ n ih =>
              intro hn
              rw [List.range_succ, List.filterMap_append, ih (by omega)]
              have : es1[n]? = some es1[n] := Array.getElem?_eq_getElem (by omega)
              simp only [List.filterMap_cons, this, List.filterMap_nil]
              rw [List.take_succ]
              simp [show n < es1.size by omega]
          rw [key _ (Nat.le_refl _), ← Array.length_toList, List.take_length]
        rw [this]
      have es2sz : (order.filterMap (es1[·]?)).size = es1.size := by rw [← Array.length_toList, esl.length_eq, Array.length_toList]
      have hne : ((order.filterMap (es1[·]?)).size != es1.size) = false := by rw [es2sz]; simp
      refine wpAny_bind ?_
      show wpAny _ _ (if ((order.filterMap (es1[·]?)).size != es1.size) = true then (unsupported "internal:set-table-lost-an-element" >>= fun _ => pure (order.filterMap (es1[·]?), t2)) else pure (order.filterMap (es1[·]?), t2)) _ _ _
      rw [hne]
      simp only [Bool.false_eq_true, if_false]
      refine wpAny_pure ?_
      dsimp only
      have mem2 : ∀ y, y ∈ (order.filterMap (es1[·]?)).toList ↔ y ∈ es1.toList := fun y => esl.mem_iff
      generalize order.filterMap (es1[·]?) = es2 at es2sz mem2
      refine wpAny_storeSet_of (s := { s with heap := h1, toks := s.toks + (ks.length + 1) }) g1 rfl ?_ (by rw [es2sz, sz, sizeLine_eq]; omega)
      have up2 : ∀ b o, b ≠ S → s.heap.get? b = some o → (h1.update S (Obj.putSet es2 t2)).get? b = some o := fun b o hb e => (Heap.get?_update_other _ _ (Ne.symm hb)).trans (up1 b o hb e)
      have up12 : ∀ b o, b ≠ S → h1.get? b = some o → (h1.update S (Obj.putSet es2 t2)).get? b = some o := fun b o hb e => (Heap.get?_update_other _ _ (Ne.symm hb)).trans e
      obtain ⟨ep2, g2⟩ : ∃ ep2, (h1.update S (Obj.putSet es2 t2)).get? S = some (setRec es2 ep2 t2) := ⟨_, Heap.get?_update_self _ g1 rfl⟩
      have z2 : (h1.update S (Obj.putSet es2 t2)).objs.size = s.heap.objs.size := ((Heap.SameBut.update ..).1).trans z1
      refine wpAny_pure (q true (h1.update S (Obj.putSet es2 t2)) _ es2 ⟨⟨ep2, t2, g2, by rw [es2sz]; exact T2, ?_, by rw [l4, p4]; exact hled, by rw [l5, p5]; exact hpl⟩, ?_⟩ (fun y hy => ?_) (fun y hy => (mem2 y).mpr ((mem y).mpr (Or.inr hy))) ⟨_, (mem2 _).mpr ((mem _).mpr (Or.inl rfl)), a, rfl, key_other ho up2 hk⟩ (by omega) up2 z2 (by show s.toks ≤ s.toks + _; omega))
      · rw [l3, es2sz, sz]
        unfold Full
        rcases cases2 with ⟨e, h⟩ | ⟨e, h⟩ <;> rw [e, h] <;> decide
      · intro e he
        obtain ⟨ks', b, r1, r2⟩ := els1 e ((mem2 e).mp he)
        exact ⟨ks', b, r1, key_other g1 up12 r2⟩
      · rcases (mem y).mp ((mem2 y).mp hy) with rfl | h
        · exact Or.inr rfl
        · exact Or.inl h
    · have tf0 : (t.put j).1.tooFull = false := by simpa using tf
      rw [tf0]
      simp only [Bool.and_false, Bool.false_eq_true, if_false]
      refine wpAny_pure (q true h1 _ es1 ⟨⟨ep1, _, g1, T1', ?_, by rw [p4]; exact hled, by rw [p5]; exact hpl⟩, els1⟩ (fun y hy => ?_) (fun y hy => (mem y).mpr (Or.inr hy)) ⟨_, (mem _).mpr (Or.inl rfl), a, rfl, key_other ho up1 hk⟩ (by omega) up1 z1 (by show s.toks ≤ s.toks + _; omega))
      · unfold tooFull at tf0
        rw [fill1, p3, sz] at tf0
        simp only [ge_iff_le, decide_eq_false_iff_not] at tf0
        rw [p3, sz]
        unfold Full
        rcases hf with ⟨e, h⟩ | ⟨e, h⟩ | ⟨e, h⟩ <;> omega
      · rcases (mem y).mp hy with rfl | h
        · exact Or.inr rfl
        · exact Or.inl h
end
end L2.R2

set_option Elab.async false
set_option linter.all false
set_option maxRecDepth 100000
set_option maxHeartbeats 3200000
namespace L2.R2
open PySem PySem.SetTable PyProof.Rows
/-! ## set(a list of tuples of ints) -/
section
variable {prog : Program} {w : World} {A : Around} {E : Value → Shared → Prop} {s : Shared}

theorem SetTup.other {h h' : Heap} {S : Addr} {es : Array (Int × Value)} (H : SetTup prog w h S es) (up : ∀ b o, h.get? b = some o → (∃ e ∈ es.toList, e.2 = .ref b) ∨ b = S → h'.get? b = some o) : SetTup prog w h' S es := by
  obtain ⟨⟨ep, t, ho, r⟩, els⟩ := H
  refine ⟨⟨ep, t, up _ _ ho (Or.inr rfl), r⟩, fun e he => ?_⟩
  obtain ⟨ks, b, e1, o, items, n, h1, h2, h3, h4⟩ := els e he
  exact ⟨ks, b, e1, o, items, n, up b o h1 (Or.inl ⟨e, he, by rw [e1]⟩), h2, h3, h4⟩

structure SetDone (prog : Program) (w : World) (items : Array Value) (key : Nat → List Int) (S : Addr) (i : Nat) (h : Heap) : Prop where
  ex : ∃ es, SetTup prog w h S es ∧ (∀ y ∈ es.toList, ∃ j, j < i ∧ items[j]? = some y.2) ∧ (∀ j, j < i → ∃ y ∈ es.toList, ∃ b, y.2 = .ref b ∧ IsTupleKey (intKind prog w) h (key j) b) ∧ es.size ≤ i

theorem set_loop {R : Result → Shared → Prop} {I l : Addr} {items : Array Value} {key : Nat → List Int} {h0 : Heap} (hh : A.in1.handled = none) (hne : l ≠ I) (hu : A.in1.units < cLine) (S : Addr) (hSI : S ≠ I) (hSl : S ≠ l)
    (hi : ∀ i v, items[i]? = some v → ∃ a, v = .ref a ∧ IsTupleKey (intKind prog w) h0 (key i) a ∧ a ≠ S ∧ a ≠ I) (hb : items.size ≤ 76) :
    ∀ (k i : Nat) (s : Shared), items.size - i = k → i ≤ items.size → s.heap.IsListIter I l i ∧ s.heap.IsList l items → SetDone prog w items key S i s.heap →
      (∀ b o, b ≠ S → b ≠ I → h0.get? b = some o → s.heap.get? b = some o) →
      (∀ h' tk, SetDone prog w items key S items.size h' → (∀ b o, b ≠ S → b ≠ I → h0.get? b = some o → h'.get? b = some o) → R (.ok (.ret .none)) { s with heap := h', toks := tk }) →
      codeAny (model prog w) A (.builtin "set.update.loop" ⟨[.ref S, .ref I], []⟩) R s := by
  have W := Walks.list (prog := prog) (w := w) (A := A.in1) hh I l hne items
  have wr : ∀ {b : Addr}, b ≠ I → b ∉ [I] := fun h => by simpa using h
  have keyAt : ∀ {h : Heap} {i : Nat} {a : Addr}, (∀ b o, b ≠ S → b ≠ I → h0.get? b = some o → h.get? b = some o) → IsTupleKey (intKind prog w) h0 (key i) a → a ≠ S → a ≠ I → IsTupleKey (intKind prog w) h (key i) a := by
    intro h i a up hk n1 n2
    obtain ⟨o, its, n, h1, h2, h3, h4⟩ := hk
    exact ⟨o, its, n, up a o n1 n2 h1, h2, h3, h4⟩
  -- what moves the iterator alone leaves the set
  have move : ∀ {h h' : Heap} {i : Nat}, i ≤ items.size → SetDone prog w items key S i h → (∀ b o, b ≠ I → h.get? b = some o → h'.get? b = some o) → SetDone prog w items key S i h' := by
    intro h h' i hi' ⟨es, D, d1, d2, d3⟩ up
    refine ⟨es, D.other fun b o e hm => up b o ?_ e, d1, fun j hj => ?_, d3⟩
    · rcases hm with ⟨y, hy, ey⟩ | rfl
      · obtain ⟨j, hj, ej⟩ := d1 y hy
        obtain ⟨a, ea, _, _, na⟩ := hi j y.2 ej
        rw [ey] at ea; cases ea; exact na
      · exact hSI
    · obtain ⟨y, hy, b, e1, o, its, n, h1, h2, h3, h4⟩ := d2 j hj
      refine ⟨y, hy, b, e1, o, its, n, up b o ?_ h1, h2, h3, h4⟩
      obtain ⟨j', hj', ej⟩ := d1 y hy
      obtain ⟨a, ea, _, _, na⟩ := hi j' y.2 ej
      rw [e1] at ea; cases ea; exact na
  intro k
  induction k with
  | zero =>
    intro i s hk hi' st D up hR
    have hin : i = items.size := by omega
    subst hin
    refine codeAny_builtin F.entry_set_update_loop ?_
    rw [Around.under_plainId F.plain_set_update_loop _]
    show wpAny _ A.in1 (pyNext (.ref I) >>= _) _ _ s
    refine wpAny_bind (W.done s _ _ st fun h' tk kp => ?_)
    show wpAny _ A.in1 (ret Value.none) _ _ _
    exact wpAny_pure (hR h' tk (move (Nat.le_refl _) D fun b o hb e => kp b o (wr hb) e) fun b o n1 n2 e => kp b o (wr n2) (up b o n1 n2 e))
  | succ k ih =>
    intro i s hk hi' st D up hR
    have hlt : i < items.size := by omega
    refine codeAny_builtin F.entry_set_update_loop ?_
    rw [Around.under_plainId F.plain_set_update_loop _]
    show wpAny _ A.in1 (pyNext (.ref I) >>= _) _ _ s
    refine wpAny_bind (W.item i s _ _ hlt st fun v h' tk hv st' kp => ?_)
    obtain ⟨a, rfl, hka, na1, na2⟩ := hi i v hv
    obtain ⟨es, D1, d1, d2, d3⟩ := move hi' D (fun b o hb e => kp b o (wr hb) e)
    have up' : ∀ b o, b ≠ S → b ≠ I → h0.get? b = some o → h'.get? b = some o := fun b o n1 n2 e => kp b o (wr n2) (up b o n1 n2 e)
    show wpAny _ A.in1 (holding [Value.ref a] (setAdd S (.ref a)) >>= _) _ _ _
    refine wpAny_bind (wpAny_holding ?_)
    refine setAdd_tup (s := { s with heap := h', toks := tk }) hu D1 (keyAt up' hka na1 na2) (by omega) fun _ h2 tk2 es2 D2 m1 m2 m3 m4 up2 z2 _ => ?_
    refine wpAny_pure ⟨plainId_quiet F.plain_set_update_loop _, ih (i + 1) _ (by omega) hlt ⟨st'.1.at fun o e => up2 _ o (Ne.symm hSI) e, st'.2.at fun o e => up2 _ o (Ne.symm hSl) e⟩ ?_ (fun b o n1 n2 e => up2 b o n1 (up' b o n1 n2 e)) fun h3 tk3 D3 up3 => hR h3 tk3 D3 up3⟩
    refine ⟨es2, D2, fun y hy => ?_, fun j hj => ?_, by omega⟩
    · rcases m1 y hy with h | h
      · obtain ⟨j, hj, ej⟩ := d1 y h
        exact ⟨j, by omega, ej⟩
      · exact ⟨i, by omega, by rw [h]; exact hv⟩
    · by_cases hji : j = i
      · subst hji; exact m3
      · obtain ⟨y, hy, b, e1, o, its, n, h1, h2', h3, h4⟩ := d2 j (by omega)
        refine ⟨y, m2 y hy, b, e1, o, its, n, up2 b o ?_ h1, h2', h3, h4⟩
        obtain ⟨j', hj', ej⟩ := d1 y hy
        obtain ⟨a', ea, _, na, _⟩ := hi j' y.2 ej
        rw [e1] at ea; cases ea; exact na

theorem set_new_led (a : Value) {Q₁ : Value → Shared → Prop} (h : Q₁ (.ref s.heap.objs.size) { s with heap := s.heap.push (setRec #[] 0 (.fresh 0 0 (!byText w))) }) :
    codeAny (model prog w) A (.call (.builtin "set.__new__") ⟨[.type "set", a], []⟩) (wants Q₁ E) s := by
  apply codeAny_of_tree
  show wpAny _ A.in1 (checkBuiltinCall "set.__new__" ⟨[.type "set", a], []⟩ >>= fun _ => again (.builtin "set.__new__" ⟨[.type "set", a], []⟩)) _ _ s
  apply wpAny_bind; refine wpAny_of_eq (PySem.F.newCall_set_1 a) (wpAny_pure ⟨plainId_quiet PySem.F.plain_set_new _, codeAny_builtin PySem.F.entry_set_new ?_⟩)
  rw [Around.under_plainId PySem.F.plain_set_new _]; unfold Builtin.«set.__new__» Builtin.Frozenset.newClass
  have hsub := sub_set_self
  obtain ⟨hp, g, d, tk, os⟩ := s; dsimp only; wp_walk
  refine wpAny_askSetting (wpAny_pure ?_); dsimp only; simp only [newObj]
  apply wpAny_bind; refine wpAny_alloc (wpAny_pure ?_)
  exact wpAny_pure h

theorem tab_fresh (b : Bool) : TabOk (.fresh 0 0 b) 0 := ⟨rfl, rfl, Nat.zero_le _, round8, List.Pairwise.nil⟩

def litOf (l : Addr) : Obj := { cls := .type "list_iterator", data := .fields #[.ref l, .int 0 0] }
theorem call_set_tups {l : Addr} {items : Array Value} {key : Nat → List Int} {Q : Value → Shared → Prop} (hh : A.handled = none) (hu : A.units + 8 < cLine) (hl : s.heap.IsList l items)
    (hi : ∀ i v, items[i]? = some v → ∃ a, v = .ref a ∧ IsTupleKey (intKind prog w) s.heap (key i) a) (hb : items.size ≤ 76)
    (q : ∀ h' tk, SetDone prog w items key s.heap.objs.size items.size h' → (∀ b o, s.heap.get? b = some o → h'.get? b = some o) → Q (.ref s.heap.objs.size) { s with heap := h', toks := tk }) :
    wpAny (model prog w) A (call (.type "set") [.ref l]) Q E s := by
  obtain ⟨c, tl, hmro⟩ := PySem.F.called_set.mro
  have hmade := PySem.F.called_set.made; have hsub := PySem.F.called_set.sub
  apply wpAny_call; apply codeAny_of_tree
  show wpAny _ _ (callAny (.type "set") _) _ _ _
  refine wpAny_pure ⟨Code.quiet_builtin _ (by decide +kernel), codeAny_builtin PySem.F.entry_type_call ?_⟩; rw [Around.under_plain (weight_type_call_type "set" [.ref l] []) rfl]
  have h1 := PySem.F.called_set.notType; have h2 := PySem.F.called_set.canCreate; have hct := PySem.F.typeCall_set_1 (.ref l)
  repeat (any_goals (first | assumption | wp_step))
  refine codeAny_mono (set_new_led (.ref l) (E := E) (Q₁ := fun obj s₁ => obj = .ref s.heap.objs.size ∧ s₁ = { s with heap := s.heap.push (setRec #[] 0 (.fresh 0 0 (!byText w))) }) ⟨rfl, rfl⟩) fun r s₁ hr => ?_
  match r, hr with
  | .error e, hr => exact hr
  | .ok (.ret obj), hr =>
    obtain ⟨rfl, rfl⟩ := hr
    have hS : (s.heap.push (setRec #[] 0 (.fresh 0 0 (!byText w)))).get? s.heap.objs.size = some (setRec #[] 0 (.fresh 0 0 (!byText w))) := Heap.get?_push_size _ rfl
    have zS : (s.heap.push (setRec #[] 0 (.fresh 0 0 (!byText w)))).objs.size = s.heap.objs.size + 1 := Heap.size_push ..
    have kS : ∀ b o, s.heap.get? b = some o → (s.heap.push (setRec #[] 0 (.fresh 0 0 (!byText w)))).get? b = some o := fun b o e => Heap.get?_push_of_some _ e
    have hT : Shared.TypeIs { s with heap := s.heap.push (setRec #[] 0 (.fresh 0 0 (!byText w))) } (.ref s.heap.objs.size) "set" := ⟨_, hS, rfl⟩
    have hli := PySem.F.called_set.init.lookup; have hbi := PySem.F.called_set.init.bind (.ref s.heap.objs.size)
    repeat (any_goals (first | assumption | wp_step))
    generalize s.heap.push (setRec #[] 0 (.fresh 0 0 (!byText w))) = h2 at hS zS kS hT
    refine codeAny_mono (codeAny_call_builtin (R := wants (fun r s₂ => r = .none ∧ ∃ h' tk, s₂ = { s with heap := h', toks := tk } ∧ SetDone prog w items key s.heap.objs.size items.size h' ∧ (∀ b o, s.heap.get? b = some o → h'.get? b = some o)) E) PySem.F.called_set.init.plain PySem.F.entry_set_init (check_set_init_1 hT ?_)) fun r₂ s₂ hr₂ => ?_
    · obtain ⟨ol, hol, hcl, nl, hdl⟩ := hl
      obtain ⟨ocls, odict, odata, oslots⟩ := ol
      simp only at hcl hdl; subst hcl; subst hdl
      have hol2 := kS _ _ hol
      have hsls := PySem.F.sub_list_set; have hslf := PySem.F.sub_list_frozenset
      have hne : (Value.type "list" == Value.type "dict") = false := by decide
      have hl1 : h2.IsList l items := ⟨_, hol2, rfl, nl, rfl⟩
      have lt : l < s.heap.objs.size := Heap.lt_size hol
      unfold Builtin.«set.__init__» noKeywords Builtin.Frozenset.updateFrom; generalize hPI : pyIter = PI
      unfold setRec at hS
      wp_walk
      subst hPI
      refine wpAny_pyIter_list hl1 ?_
      apply wpAny_bind; apply wpAny_runValue; rw [zS]
      have zI : (h2.push (litOf l)).get? (s.heap.objs.size + 1) = some (litOf l) := by rw [← zS]; exact Heap.get?_push_size _ rfl
      have kI : ∀ b o, h2.get? b = some o → (h2.push (litOf l)).get? b = some o := fun b o e => Heap.get?_push_of_some _ e
      show codeAny _ _ _ _ { s with heap := h2.push (litOf l) }
      generalize h2.push (litOf l) = h3 at zI kI
      have ne1 : ∀ {b : Addr} {o : Obj}, s.heap.get? b = some o → b ≠ s.heap.objs.size ∧ b ≠ s.heap.objs.size + 1 := fun e => ⟨Nat.ne_of_lt (Heap.lt_size e), Nat.ne_of_lt (Nat.lt_succ_of_lt (Heap.lt_size e))⟩
      refine set_loop (A := A.in1.in1) (s := { s with heap := h3 }) (key := key) (h0 := s.heap) (by simp [hh]) (Nat.ne_of_lt (Nat.lt_succ_of_lt lt)) (by show A.units + 3 < cLine; omega) s.heap.objs.size (Nat.ne_of_lt (Nat.lt_succ_self _)) (Nat.ne_of_gt lt) (fun i v e => ?_) hb items.size 0 (Nat.sub_zero _) (Nat.zero_le _) ⟨⟨_, zI, rfl, rfl⟩, hl1.at fun o e => kI _ o e⟩ ?_ (fun b o _ _ e => kI b o (kS b o e)) fun h' tk D up => ?_
      · obtain ⟨a, rfl, hk⟩ := hi i v e
        refine ⟨a, rfl, hk, ?_⟩
        obtain ⟨o, _, _, ho, _⟩ := hk
        exact ne1 ho
      · exact ⟨#[], ⟨⟨0, _, kI _ _ hS, tab_fresh _, Or.inl ⟨rfl, Nat.zero_le _⟩, rfl, rfl⟩, fun e he => by simp at he⟩, fun y hy => by simp at hy, fun j hj => absurd hj (Nat.not_lt_zero _), Nat.zero_le _⟩
      · show wpAny _ _ _ _ _ _
        apply wpAny_pure
        show wpAny _ _ (ret Value.none) _ _ _
        exact wpAny_pure ⟨rfl, h', tk, rfl, D, fun b o e => up b o (ne1 e).1 (ne1 e).2 e⟩
    · match r₂, hr₂ with
      | .error e, hr₂ => exact hr₂
      | .ok (.ret r), hr₂ =>
        obtain ⟨rfl, h', tk, rfl, D, up⟩ := hr₂
        repeat (any_goals (first | assumption | wp_step))
        exact q _ _ D up
end
end L2.R2

set_option Elab.async false
set_option linter.all false
set_option maxRecDepth 100000
set_option maxHeartbeats 3200000
namespace L2.R2
open PySem PySem.SetTable PyProof.Rows
/-! ## walking over such a set -/
theorem pick_go {α : Type} (next : Nat → Nat) : ∀ (fuel k : Nat) (left : List α) (out : Array α), left.length ≤ fuel → (pickOrder.go next fuel k left out).toList.Perm (out.toList ++ left)
  | 0, k, left, out, h => by
    have : left = [] := List.eq_nil_of_length_eq_zero (by omega)
    subst this
    simp [pickOrder.go]
  | fuel + 1, k, left, out, h => by
    unfold pickOrder.go
    cases e : left[next k % left.length]? with
    | none =>
      dsimp only
      have : left = [] := by
        cases left with
        | nil => rfl
        | cons x r =>
          have := List.getElem?_eq_none_iff.mp e
          have := Nat.mod_lt (next k) (show 0 < (x :: r).length by simp)
          omega
      subst this; simp
    | some x =>
      dsimp only
      have hi : next k % left.length < left.length := (List.getElem?_eq_some_iff.mp e).1
      refine (pick_go next fuel (k + 1) (left.eraseIdx (next k % left.length)) (out.push x) (by rw [List.length_eraseIdx_of_lt hi]; omega)).trans ?_
      rw [Array.toList_push, List.append_assoc]
      refine List.Perm.append_left _ ?_
      have ex : left[next k % left.length] = x := (List.getElem?_eq_some_iff.mp e).2
      have el : left = left.take (next k % left.length) ++ x :: left.drop (next k % left.length + 1) := by
        rw [← ex, ← List.drop_eq_getElem_cons hi, List.take_append_drop]
      rw [List.eraseIdx_eq_take_drop_succ]
      conv => rhs; rw [el]
      rw [List.singleton_append]; exact (List.perm_middle (a := x)).symm
theorem pick_perm {α : Type} (next : Nat → Nat) (xs : Array α) : (pickOrder next xs).toList.Perm xs.toList := by
  have := pick_go next xs.size 0 xs.toList #[] (by simp)
  simpa [pickOrder] using this

theorem owner_si : Manifest.owners.lookup (String.ofList ['r', 'o', 't', 'a', 'r', 'e', 't', 'i', '_', 't', 'e', 's'].reverse) = some Manifest.sig_set_iterator := by kernel_rfl
theorem slot_si_next : Slot "set_iterator" "__next__" "set_iterator.__next__" :=
  .of (owner := "set_iterator") (n := "__next__") (by rw [typeLookup_type, builtinLookup_eq_fast]; kernel_rfl) (by decide +kernel) (by decide +kernel) (by decide +kernel) (by first | exact .inl (by decide +kernel) | exact .inr (by decide +kernel)) (by rw [isSubtype_type]; kernel_rfl)
theorem entry_si_next : entryFor table "set_iterator.__next__" = some Builtin.«set_iterator.__next__» := entryFor_of_tree (by kernel_rfl)
theorem args_si_next (a : Value) : argsOk "set_iterator.__next__" ⟨[a], []⟩ := by
  unfold argsOk; rw [signature?_of (id := "set_iterator.__next__") (n := ['_', '_', 't', 'x', 'e', 'n', '_', '_']) (o := ['r', 'o', 't', 'a', 'r', 'e', 't', 'i', '_', 't', 'e', 's']) (by kernel_rfl) owner_si]; kernel_rfl
theorem entry_s_iter : entryFor table "set.__iter__" = some Builtin.«frozenset.__iter__» := entryFor_alias (id' := "frozenset.__iter__") (by kernel_rfl) rfl (by decide +kernel) (by kernel_rfl)

section
variable {prog : Program} {w : World} {A : Around} {E : Value → Shared → Prop} {s : Shared}
def walkOf (w : World) (S : Addr) (ep : Nat) (es : Array (Int × Value)) : Array (Int × Value) := if byText w = true then pickOrder (w.params.setOrder S ep) es else es
theorem walk_perm (S : Addr) (ep : Nat) (es : Array (Int × Value)) : (walkOf w S ep es).toList.Perm es.toList := by
  unfold walkOf; split
  · exact pick_perm _ _
  · exact List.Perm.refl _
def slotAt (w : World) (t : SetTable) (k : Nat) : Nat := if byText w = true then 0 else placeAt t k
def sitRec (w : World) (S : Addr) (n ep : Nat) (t : SetTable) (k : Nat) : Obj := { cls := .type "set_iterator", data := .fields #[rawInt (slotAt w t k), rawInt k, .ref S, rawInt n, rawInt ep] }

theorem set_next {S : Addr} {es : Array (Int × Value)} {ep k : Nat} {t : SetTable} {Q : Option (Value × Nat) → Shared → Prop} (ho : s.heap.get? S = some (setRec es ep t)) (T : TabOk t es.size) (hl : t.led = !byText w) (hp : t.plain = true) (hk : k ≤ es.size)
    (q : Q ((walkOf w S ep es)[k]?.map fun e => (e.2, slotAt w t (k + 1))) s) : wpAny (model prog w) A (setNext S (slotAt w t k) k ep) Q E s := by
  unfold setNext
  apply wpAny_bind; refine wpAny_setState_of ho rfl T.fits ?_
  unfold setsByText
  apply wpAny_bind; apply wpAny_bind; refine wpAny_askSetting (wpAny_pure ?_)
  show wpAny _ _ (if byText w = true then _ else _) _ _ _
  by_cases hb : byText w = true
  · rw [if_pos hb, if_neg (by simp)]
    apply wpAny_bind; unfold setWalk
    apply wpAny_bind; refine wpAny_setState_of ho rfl T.fits ?_
    unfold setsByText
    apply wpAny_bind; apply wpAny_bind; refine wpAny_askSetting (wpAny_pure ?_)
    show wpAny _ _ (if byText w = true then _ else _) _ _ _
    rw [if_pos hb]
    apply wpAny_bind; refine wpAny_askSetting (wpAny_pure (wpAny_pure ?_))
    unfold walkOf slotAt at q
    simp only [if_pos hb] at q
    unfold slotAt
    simp only [if_pos hb]
    exact q
  · have hb0 : byText w = false := by simpa using hb
    rw [if_neg hb]
    show wpAny _ _ (if (!t.plain && decide (es.size > 1)) = true then _ else _) _ _ _
    rw [hp]
    simp only [Bool.not_true, Bool.false_and, Bool.false_eq_true, if_false]
    show wpAny _ _ ((if (!t.led && !es.isEmpty) = true then unsupported "set:maker-not-led" else pure ()) >>= _) _ _ _
    rw [hl, hb0]
    simp only [Bool.not_false, Bool.not_true, Bool.false_and, Bool.false_eq_true, if_false]
    apply wpAny_bind; apply wpAny_pure; apply wpAny_pure
    have np := next_place T hk
    unfold walkOf slotAt at q
    simp only [if_neg hb] at q
    unfold slotAt
    simp only [if_neg hb]
    rw [np]
    by_cases hlt : k < es.size
    · have e1 : es[k]? = some es[k] := Array.getElem?_eq_getElem hlt
      have e2 : t.place[k]? = some (t.place.getD k 0) := by
        have : k < t.place.size := by rw [T.size]; exact hlt
        rw [Array.getElem?_eq_getElem this]; simp [Array.getD, this]
      rw [e1] at q
      rw [e1, e2]
      have e3 : placeAt t (k + 1) = t.place.getD k 0 + 1 := by unfold placeAt; rw [if_neg (by omega)]; simp
      rw [e3] at q
      exact q
    · have e1 : es[k]? = none := Array.getElem?_eq_none (by omega)
      rw [e1] at q
      rw [e1]
      exact q

theorem setField_at {I : Addr} {c : Value} {d : Option Addr} {sl : Array (Option Value)} {vs : Array Value} {i : Nat} {x : Value} {Q : Unit → Shared → Prop} (ho : s.heap.get? I = some { cls := c, dict := d, data := .fields vs, slots := sl }) (hi : i < vs.size)
    (q : ∀ h', h'.get? I = some { cls := c, dict := d, data := .fields (vs.setIfInBounds i x), slots := sl } → Heap.SameBut I s.heap h' → Q () { s with heap := h' }) : wpAny (model prog w) A (setField (.ref I) i x) Q E s := by
  refine wpAny_setField ho rfl hi (q _ ?_ (Heap.SameBut.update ..))
  have := Heap.get?_update_self (Obj.mapFields fun vs => vs.setIfInBounds i x) ho rfl
  rw [this]; rfl

structure SetIt (w : World) (S I : Addr) (es : Array (Int × Value)) (ep : Nat) (t : SetTable) (k : Nat) (h : Heap) : Prop where
  set : h.get? S = some (setRec es ep t)
  it : h.get? I = some (sitRec w S es.size ep t k)

theorem next_item {S I : Addr} {es : Array (Int × Value)} {ep k : Nat} {t : SetTable} {x : Int × Value} {Q : Option Value → Shared → Prop} (D : SetIt w S I es ep t k s.heap) (ne : S ≠ I) (T : TabOk t es.size) (hl : t.led = !byText w) (hp : t.plain = true) (hk : k < es.size) (hx : (walkOf w S ep es)[k]? = some x)
    (q : ∀ h', SetIt w S I es ep t (k + 1) h' → Heap.SameBut I s.heap h' → Q (some x.2) { s with heap := h' }) : wpAny (model prog w) A (pyNext (.ref I)) Q E s := by
  have ty : s.TypeIs (.ref I) "set_iterator" := ⟨_, D.it, rfl⟩
  unfold pyNext
  apply wpAny_bind; apply wpAny_attempt; refine wpAny_callSpecial?_slot (name := Str.ofString "__next__") ty slot_si_next (wpAny_call_entry slot_si_next ty entry_si_next ?_ (args_si_next _))
  unfold Builtin.«set_iterator.__next__»
  apply wpAny_bind; refine wpAny_of_eq (a := (Value.ref I, [])) rfl ?_
  apply wpAny_bind; refine wpAny_fieldsOf D.it rfl ?_
  dsimp only [rawInt]
  apply wpAny_bind; refine wpAny_setEntries_of D.set rfl T.fits ?_
  rw [if_neg (by simp)]
  apply wpAny_bind
  show wpAny _ _ (setNext S ((slotAt w t k : Nat) : Int).toNat ((k : Nat) : Int).toNat ((ep : Nat) : Int).toNat) _ _ _
  simp only [Int.toNat_natCast]
  refine set_next D.set T hl hp (Nat.le_of_lt hk) ?_
  rw [hx]
  dsimp only [Option.map]
  have dit := D.it; unfold sitRec at dit
  apply wpAny_bind; refine setField_at dit (by simp) fun h1 g1 s1 => ?_
  apply wpAny_bind; refine setField_at (s := { s with heap := h1 }) g1 (by simp) fun h2 g2 s2 => ?_
  refine wpAny_pure ⟨x.2, rfl, wpAny_pure (q h2 ⟨?_, ?_⟩ (s1.trans s2))⟩
  · rw [s2.2 S ne, s1.2 S ne]; exact D.set
  · rw [g2]; rfl

theorem next_end {S I : Addr} {es : Array (Int × Value)} {ep : Nat} {t : SetTable} {Q : Option Value → Shared → Prop} (hh : A.handled = none) (D : SetIt w S I es ep t es.size s.heap) (ne : S ≠ I) (T : TabOk t es.size) (hl : t.led = !byText w) (hp : t.plain = true)
    (q : ∀ h', Heap.ExtBut I s.heap h' → Q none { s with heap := h' }) : wpAny (model prog w) A (pyNext (.ref I)) Q E s := by
  have ty : s.TypeIs (.ref I) "set_iterator" := ⟨_, D.it, rfl⟩
  have hx : (walkOf w S ep es)[es.size]? = none := by
    apply Array.getElem?_eq_none
    rw [← Array.length_toList, (walk_perm S ep es).length_eq, Array.length_toList]; exact Nat.le_refl _
  unfold pyNext
  apply wpAny_bind; apply wpAny_attempt; refine wpAny_callSpecial?_slot (name := Str.ofString "__next__") ty slot_si_next (wpAny_call_entry slot_si_next ty entry_si_next ?_ (args_si_next _))
  unfold Builtin.«set_iterator.__next__»
  apply wpAny_bind; refine wpAny_of_eq (a := (Value.ref I, [])) rfl ?_
  apply wpAny_bind; refine wpAny_fieldsOf D.it rfl ?_
  dsimp only [rawInt]
  apply wpAny_bind; refine wpAny_setEntries_of D.set rfl T.fits ?_
  rw [if_neg (by simp)]
  apply wpAny_bind
  show wpAny _ _ (setNext S ((slotAt w t es.size : Nat) : Int).toNat ((es.size : Nat) : Int).toNat ((ep : Nat) : Int).toNat) _ _ _
  simp only [Int.toNat_natCast]
  refine set_next D.set T hl hp (Nat.le_refl _) ?_
  rw [hx]
  dsimp only [Option.map]
  have dit := D.it; unfold sitRec at dit
  apply wpAny_bind; refine setField_at dit (by simp) fun h1 g1 s1 => ?_
  show wpAny _ _ (newExc (.type "StopIteration") [] >>= _) _ _ _
  apply wpAny_bind; simp only [newExc, newTuple]
  apply wpAny_bind; refine wpAny_newObj_type ?_ (by size_fits)
  refine wpAny_bind (m := firstArgMember _ _) ?_
  refine wpAny_of_eq (a := Value.none) (by first | rfl | (simp only [firstArgMember]; rfl)) ?_
  refine wpAny_newObj_type ?_ (by size_fits)
  simp only [raiseNew]
  apply wpAny_bind; apply wpAny_handled
  first | rw [show A.in1.handled = none from hh] | rw [hh]
  refine wpAny_bind (wpAny_pure (wpAny_throw ?_))
  apply wpAny_bind; refine wpAny_isInstance (T := "StopIteration") (b := true) ⟨_, Heap.get?_push_size _ rfl, rfl⟩ isSubtype_stop ?_
  exact wpAny_pure (q _ ((s1.extBut.push _).push _))

theorem iter_set {S : Addr} {es : Array (Int × Value)} {ep : Nat} {t : SetTable} {Q : Value → Shared → Prop} (ho : s.heap.get? S = some (setRec es ep t)) (T : TabOk t es.size) (hp : t.plain = true)
    (q : Q (.ref s.heap.objs.size) { s with heap := s.heap.push (sitRec w S es.size ep t 0) }) : wpAny (model prog w) A (pyIter (.ref S)) Q E s := by
  have ty : s.TypeIs (.ref S) "set" := ⟨_, ho, rfl⟩
  refine wpAny_pyIter_slot ty F.slot_set_iter (wpAny_call_entry F.slot_set_iter ty entry_s_iter ?_ (F.args_set_iter_1 _))
  unfold Builtin.«frozenset.__iter__» Builtin.Frozenset.slot0 Builtin.Frozenset.sizeOf
  apply wpAny_bind; refine wpAny_of_eq (a := S) rfl ?_
  apply wpAny_bind; apply wpAny_bind; refine wpAny_setEntries_of ho rfl T.fits (wpAny_pure ?_)
  apply wpAny_bind; unfold setDrawn
  apply wpAny_bind; refine wpAny_setState_of ho rfl T.fits ?_
  unfold setsByText
  apply wpAny_bind; apply wpAny_bind; refine wpAny_askSetting (wpAny_pure (wpAny_pure ?_))
  have dr : (!(model prog w).w.params.followText "set-order" && (!t.plain && decide (es.size > 1))) = false := by rw [hp]; simp
  show wpAny _ _ (if (!(model prog w).w.params.followText "set-order" && (!t.plain && decide (es.size > 1))) = true then _ else _) _ _ _
  rw [dr]
  simp only [Bool.false_eq_true, if_false]
  apply wpAny_bind; apply wpAny_pure
  apply wpAny_bind; refine wpAny_setEpoch_of ho rfl T.fits ?_
  apply wpAny_bind; unfold newFields; refine wpAny_newObj_type ?_
  have e0 : slotAt w t 0 = 0 := by unfold slotAt placeAt; split <;> rfl
  refine wpAny_pure ⟨_, rfl, "set_iterator", _, ⟨_, Heap.get?_push_size _ rfl, rfl⟩, slot_si_next.lookup, ?_⟩
  unfold sitRec at q
  rw [e0] at q
  exact q
end
end L2.R2

set_option Elab.async false
set_option linter.all false
set_option maxRecDepth 100000
set_option maxHeartbeats 3200000
namespace L2.R2
open PySem PySem.SetTable PyProof.Rows
section
variable {prog : Program} {w : World} {A : Around} {E : Value → Shared → Prop} {s : Shared}
theorem set_hint {S : Addr} {Q : Bool → Shared → Prop} (ty : s.TypeIs (.ref S) "set") (q : Q false s) : wpAny (model prog w) A (Builtin.List.listLengthHint (.ref S)) Q E s := by
  unfold Builtin.List.listLengthHint
  apply wpAny_bind; refine wpAny_specialOf ty F.slot_set_len.lookup ?_
  dsimp only
  have sp : splitId "set.__len__" = some ("set", "__len__") := by decide +kernel
  rw [sp]
  dsimp only
  apply wpAny_bind; refine wpAny_isInstance (b := true) ty sub_set_self ?_
  simp only [Bool.not_true, Bool.false_eq_true, if_false]
  have key : ∀ (c : Bool) (X Y : Sem Bool), c = true → wpAny (model prog w) A X Q E s → wpAny (model prog w) A (if c = true then X else Y) Q E s := fun c X Y hc h => by rw [if_pos hc]; exact h
  refine key _ _ _ (by decide +kernel) ?_
  apply wpAny_bind; refine wpAny_typeOf ty ?_
  exact wpAny_pure q

theorem setIt_other {S I : Addr} {es : Array (Int × Value)} {ep k : Nat} {t : SetTable} {h h' : Heap} (D : SetIt w S I es ep t k h) (up : ∀ b o, b = S ∨ b = I → h.get? b = some o → h'.get? b = some o) : SetIt w S I es ep t k h' :=
  ⟨up _ _ (Or.inl rfl) D.set, up _ _ (Or.inr rfl) D.it⟩

theorem collect_set {S : Addr} {es : Array (Int × Value)} {ep : Nat} {t : SetTable} {Q : List Value → Shared → Prop} (hh : A.handled = none) (ho : s.heap.get? S = some (setRec es ep t)) (T : TabOk t es.size) (hl : t.led = !byText w) (hp : t.plain = true) (hz : es.size ≤ 100)
    (q : ∀ h', (∀ b o, s.heap.get? b = some o → h'.get? b = some o) → s.heap.objs.size ≤ h'.objs.size → Q ((walkOf w S ep es).toList.map (·.2)) { s with heap := h' }) : wpAny (model prog w) A (collect (.ref S)) Q E s := by
  have ltS : S < s.heap.objs.size := Heap.lt_size ho
  have wl : (walkOf w S ep es).size = es.size := by rw [← Array.length_toList, (walk_perm S ep es).length_eq, Array.length_toList]
  unfold collect
  apply wpAny_bind; apply wpAny_runValue; refine codeAny_builtin F.entry_proto_collect ?_
  rw [Around.under_plainId F.plain_proto_collect _]
  show wpAny _ A.in1 (newList [] >>= fun l => again (.builtin "list.__iadd__" ⟨[l, .ref S], []⟩)) _ _ s
  apply wpAny_bind; refine wpAny_newObj_type ?_
  refine wpAny_pure ⟨plainId_quiet F.plain_list_iadd _, codeAny_builtin F.entry_list_iadd ?_⟩
  rw [Around.under_plainId F.plain_list_iadd _]
  show wpAny _ A.in1 (Builtin.List.listExtendWith (.ref s.heap.objs.size) (.ref S) (.ref s.heap.objs.size)) _ _ { s with heap := s.heap.push { cls := .type "list", data := .seq ([] : List Value).toArray } }
  have z1 : (s.heap.push { cls := .type "list", data := .seq ([] : List Value).toArray }).objs.size = s.heap.objs.size + 1 := Heap.size_push ..
  have hL : (s.heap.push { cls := .type "list", data := .seq ([] : List Value).toArray }).get? s.heap.objs.size = some { cls := .type "list", data := .seq ([] : List Value).toArray } := Heap.get?_push_size _ rfl
  have k1 : ∀ b o, s.heap.get? b = some o → (s.heap.push { cls := .type "list", data := .seq ([] : List Value).toArray }).get? b = some o := fun b o e => Heap.get?_push_of_some _ e
  generalize s.heap.push { cls := .type "list", data := .seq ([] : List Value).toArray } = h1 at z1 hL k1
  have ty : ∀ {h : Heap} {g d t os}, (∀ b o, s.heap.get? b = some o → h.get? b = some o) → Shared.TypeIs ⟨h, g, d, t, os⟩ (.ref S) "set" := fun up => ⟨_, up _ _ ho, rfl⟩
  unfold Builtin.List.listExtendWith
  apply wpAny_bind; refine wpAny_typeOf (T := "set") (ty k1) ?_
  have g1 : Builtin.List.listSameRef (.ref s.heap.objs.size) (.ref S) = false := by simp [Builtin.List.listSameRef, Nat.ne_of_gt ltS]
  have g2 : (Value.type "set" == Value.type "list") = false := by decide
  have g3 : (Value.type "set" == Value.type "tuple") = false := by decide
  simp only [g1, g2, g3, Bool.or_false, Bool.false_eq_true, if_false]
  apply wpAny_bind; refine iter_set (s := { s with heap := h1 }) (k1 _ _ ho) T hp ?_
  show wpAny _ _ _ _ _ { s with heap := h1.push (sitRec w S es.size ep t 0) }
  have hI : (h1.push (sitRec w S es.size ep t 0)).get? (s.heap.objs.size + 1) = some (sitRec w S es.size ep t 0) := by rw [← z1]; exact Heap.get?_push_size _ rfl
  have k2 : ∀ b o, h1.get? b = some o → (h1.push (sitRec w S es.size ep t 0)).get? b = some o := fun b o e => Heap.get?_push_of_some _ e
  rw [z1]
  generalize h1.push (sitRec w S es.size ep t 0) = h2 at hI k2
  apply wpAny_bind; apply wpAny_holding; refine set_hint (ty fun b o e => k2 b o (k1 b o e)) ?_
  have key : ∀ (c : Bool) (X Y : Sem Fin) {Q' : Fin → Shared → Prop} {E' : Value → Shared → Prop} {s' : Shared}, c = true → wpAny (model prog w) A.in1 X Q' E' s' → wpAny (model prog w) A.in1 (if c = true then X else Y) Q' E' s' := fun c X Y _ _ _ hc h => by rw [if_pos hc]; exact h
  refine key _ _ _ (by decide +kernel) ?_
  have hL2 := k2 _ _ hL
  apply wpAny_bind; apply wpAny_rule; apply wpAny_bind
  show wpAny _ _ (updateSeq s.heap.objs.size (·.push .none) >>= fun _ => updateSeq s.heap.objs.size (·.pop)) _ _ _
  apply wpAny_bind; refine wpAny_updateSeq hL2 rfl ?_
  have hL3 := Heap.get?_update_self (Obj.mapSeq (·.push Value.none)) hL2 rfl
  refine wpAny_updateSeq (hz := by seq_fits) hL3 rfl ?_
  have hL4 := Heap.get?_update_self (Obj.mapSeq (·.pop)) hL3 rfl
  have up4 : ∀ b o, b ≠ s.heap.objs.size → h2.get? b = some o → ((h2.update s.heap.objs.size (Obj.mapSeq (·.push Value.none))).update s.heap.objs.size (Obj.mapSeq (·.pop))).get? b = some o :=
    fun b o hb e => (Heap.get?_update_other _ _ (Ne.symm hb)).trans ((Heap.get?_update_other _ _ (Ne.symm hb)).trans e)
  generalize (h2.update s.heap.objs.size (Obj.mapSeq (·.push Value.none))).update s.heap.objs.size (Obj.mapSeq (·.pop)) = h4 at hL4 up4
  apply wpAny_pure; refine ⟨plainId_quiet PySem.F.plain_extend_loop _, ?_⟩
  have neSI : S ≠ s.heap.objs.size + 1 := Nat.ne_of_lt (Nat.lt_succ_of_lt ltS)
  have neS : S ≠ s.heap.objs.size := Nat.ne_of_lt ltS
  have neI : s.heap.objs.size + 1 ≠ s.heap.objs.size := Nat.succ_ne_self _
  have old : ∀ {b : Addr} {o : Obj}, s.heap.get? b = some o → b ≠ s.heap.objs.size ∧ b ≠ s.heap.objs.size + 1 := fun e => ⟨Nat.ne_of_lt (Heap.lt_size e), Nat.ne_of_lt (Nat.lt_succ_of_lt (Heap.lt_size e))⟩
  refine ext_loop (A := A) (s0 := s) (n := es.size) (J := fun acc h => SetIt w S (s.heap.objs.size + 1) es ep t acc.length h ∧ acc = ((walkOf w S ep es).toList.map (·.2)).take acc.length ∧ ∀ b o, s.heap.get? b = some o → h.get? b = some o)
    (F := fun acc h => acc = (walkOf w S ep es).toList.map (·.2) ∧ ∀ b o, s.heap.get? b = some o → h.get? b = some o) (.ref s.heap.objs.size) (by rw [sizeLine_eq]; omega) ?_ ?_ ?_ (fun h' acc c hsz hF hS' => ?_) es.size #[] h4 _ rfl (Nat.zero_le _) ?_ hL4
  · rintro acc h h' ⟨J1, J2, J3⟩ hSo hz up
    refine ⟨setIt_other J1 fun b o hb e => up b o ?_ e, J2, fun b o e => up b o (old e).1 (J3 b o e)⟩
    rcases hb with rfl | rfl
    · exact neS
    · exact neI
  · rintro acc s' o Q' E' hlt ⟨J1, J2, J3⟩ hSo k
    have hw : acc.length < (walkOf w S ep es).size := by omega
    refine next_item J1 neSI T hl hp hlt (Array.getElem?_eq_getElem hw) fun h' D' sb => k _ h' ⟨by simpa using D', ?_, fun b o e => ?_⟩ ?_
    · rw [List.length_append, List.length_singleton, List.take_succ, ← J2]
      simp [hw]
    · rw [sb.2 b (old e).2]; exact J3 b o e
    · rw [sb.2 _ (Ne.symm neI)]; exact hSo
  · rintro acc s' o Q' E' hlen ⟨J1, J2, J3⟩ hSo k
    rw [hlen] at J1 J2
    refine next_end (A := A.in1) (by simp [hh]) J1 neSI T hl hp fun h' eb => k h' ⟨?_, fun b o e => eb b o (old e).2 (J3 b o e)⟩ (eb _ _ (Ne.symm neI) hSo)
    rw [J2, List.take_of_length_le]
    simp [wl]
  · show wpAny _ A (load s.heap.objs.size >>= _) _ _ _
    apply wpAny_bind; refine wpAny_load hS' ?_
    refine wpAny_pure ?_
    rw [hF.1]
    exact q h' hF.2 (Nat.le_of_lt (Heap.lt_size hS'))
  · refine ⟨⟨up4 _ _ neS (k2 _ _ (k1 _ _ ho)), up4 _ _ neI hI⟩, rfl, fun b o e => up4 b o (old e).1 (k2 b o (k1 b o e))⟩
end
end L2.R2

set_option Elab.async false
set_option linter.all false
set_option maxRecDepth 100000
set_option maxHeartbeats 1000000
namespace L2.R2
open PySem PySem.W PyProof.Rows
/-! ## the sort of the library's trees puts in order -/
def kRun {α : Type} (lt : Nat → Nat → Bool) : KasT α → α
  | .ret a => a
  | .ask i j k => kRun lt (k (lt i j))
theorem kRun_bind {α β : Type} {lt : Nat → Nat → Bool} {f : α → KasT β} : ∀ t : KasT α, kRun lt (t.bind f) = kRun lt (f (kRun lt t))
  | .ret _ => rfl
  | .ask i j k => kRun_bind (k (lt i j))
def kIn {α : Type} (lt : Nat → Nat → Bool) (n : Nat) : KasT α → Prop
  | .ret _ => True
  | .ask i j k => i < n ∧ j < n ∧ kIn lt n (k (lt i j))
theorem kIn_bind {α β : Type} {lt : Nat → Nat → Bool} {n : Nat} {f : α → KasT β} : ∀ t : KasT α, kIn lt n t → kIn lt n (f (kRun lt t)) → kIn lt n (t.bind f)
  | .ret _, _, h => h
  | .ask i j k, ⟨h1, h2, h3⟩, h => ⟨h1, h2, kIn_bind (k (lt i j)) h3 h⟩
theorem kas_wp_run {α : Type} {cmp : Nat → Nat → (Bool → Shared → Prop) → Shared → Prop} {lt : Nat → Nat → Bool} {n : Nat} {s : Shared} {Q : α → Shared → Prop} (hc : ∀ i j (C : Bool → Shared → Prop), i < n → j < n → C (lt i j) s → cmp i j C s) :
    ∀ t : KasT α, kIn lt n t → Q (kRun lt t) s → t.kasWp cmp Q s
  | .ret _, _, h => h
  | .ask i j k, ⟨h1, h2, h3⟩, h => hc i j _ h1 h2 (kas_wp_run hc (k (lt i j)) h3 h)

section
variable {O : KeyOrd} {key : Nat → O.α} {N : Nat}
def ltK (O : KeyOrd) (key : Nat → O.α) (i j : Nat) : Bool := O.blt (key i) (key j)
def kk (O : KeyOrd) (key : Nat → O.α) (p : Array Nat) (i : Nat) : O.α := key (p.getD i 0)
def Up (O : KeyOrd) (key : Nat → O.α) (p : Array Nat) (n : Nat) : Prop := ∀ i j, i ≤ j → j < n → O.kle (kk O key p i) (kk O key p j)
def Dn (O : KeyOrd) (key : Nat → O.α) (p : Array Nat) (n : Nat) : Prop := ∀ i j, i ≤ j → j < n → O.kle (kk O key p j) (kk O key p i)
def Lo (p : Array Nat) (N : Nat) : Prop := ∀ i, p.getD i 0 < N
theorem lo_perm {p q : Array Nat} (h : p.Perm q) (hq : Lo q N) : Lo p N := by
  intro i
  by_cases hi : i < p.size
  · have m : p[i] ∈ p := Array.getElem_mem hi
    have m2 : p[i] ∈ q := h.mem_iff.mp m
    obtain ⟨j, hj, e⟩ := Array.getElem_of_mem m2
    have := hq j
    simp [Array.getD, hj] at this
    simp [Array.getD, hi]
    rw [← e]; exact this
  · have h0 := hq q.size
    simp [Array.getD] at h0
    simp [Array.getD, hi]; exact h0
theorem kk_congr {p q : Array Nat} {i j : Nat} (h : p[i]? = q[j]?) : kk O key p i = kk O key q j := by
  unfold kk; rw [Array.getD_eq_getD_getElem?, Array.getD_eq_getD_getElem?, h]
theorem kk_rev {p : Array Nat} {i j : Nat} (hj : j ≤ p.size) (k : Nat) : kk O key (kas_rev p i j) k = if i ≤ k ∧ k < j then kk O key p (i + j - 1 - k) else kk O key p k := by
  have e := getElem?_mirror_all (i := i) hj k
  unfold kas_rev
  by_cases h1 : i ≤ k ∧ k < j
  · rw [if_pos h1] at e ⊢; exact kk_congr e
  · rw [if_neg h1] at e ⊢; exact kk_congr e
theorem kk_rev_eq {p : Array Nat} {i j : Nat} (hj : j ≤ p.size) (h : ∀ k, i ≤ k → k < j → kk O key p k = kk O key p (j - 1)) (k : Nat) : kk O key (kas_rev p i j) k = kk O key p k := by
  rw [kk_rev hj]
  split
  · rw [h _ (by omega) (by omega), h k (by omega) (by omega)]
  · rfl
theorem kk_bubble {p : Array Nat} {src d : Nat} (hs : src < p.size) (hd : d ≤ src) (k : Nat) :
    kk O key (bubble p src d) k = if k = src - d then kk O key p src else if src - d < k ∧ k ≤ src then kk O key p (k - 1) else kk O key p k := by
  have e := getElem?_bubble hs d hd k
  by_cases h1 : k = src - d
  · rw [if_pos h1] at e ⊢; exact kk_congr e
  · rw [if_neg h1] at e ⊢
    by_cases h2 : src - d < k ∧ k ≤ src
    · rw [if_pos h2] at e ⊢; exact kk_congr e
    · rw [if_neg h2] at e ⊢; exact kk_congr e
theorem rev_perm (p : Array Nat) (i j : Nat) : (kas_rev p i j).Perm p := mirror_perm _ _ _ _

theorem up_succ {p : Array Nat} {n : Nat} (h1 : 1 ≤ n) (h : Up O key p n) (hl : O.kle (kk O key p (n - 1)) (kk O key p n)) : Up O key p (n + 1) := by
  intro i j hij hj
  by_cases hjx : j < n
  · exact h i j hij hjx
  · have hj' : j = n := by omega
    subst hj'
    by_cases hi' : i = j
    · subst hi'; exact KeyOrd.kle_refl _
    · exact KeyOrd.kle_trans (h i (j - 1) (by omega) (by omega)) hl
theorem dn_succ {p : Array Nat} {n : Nat} (h1 : 1 ≤ n) (h : Dn O key p n) (hl : O.kle (kk O key p n) (kk O key p (n - 1))) : Dn O key p (n + 1) := by
  intro i j hij hj
  by_cases hjx : j < n
  · exact h i j hij hjx
  · have hj' : j = n := by omega
    subst hj'
    by_cases hi' : i = j
    · subst hi'; exact KeyOrd.kle_refl _
    · exact KeyOrd.kle_trans hl (h i (j - 1) (by omega) (by omega))

theorem asc_ok {p : Array Nat} (lo : Lo p N) : ∀ (f n : Nat), 1 ≤ n → Up O key p n → kIn (ltK O key) N (kas_asc p f n) ∧ n ≤ kRun (ltK O key) (kas_asc p f n) ∧ kRun (ltK O key) (kas_asc p f n) ≤ n + f ∧ Up O key p (kRun (ltK O key) (kas_asc p f n)) ∧
    (kRun (ltK O key) (kas_asc p f n) = n + f ∨ O.klt (kk O key p (kRun (ltK O key) (kas_asc p f n))) (kk O key p (kRun (ltK O key) (kas_asc p f n) - 1)))
  | 0, n, _, h => ⟨trivial, Nat.le_refl _, Nat.le_refl _, h, Or.inl rfl⟩
  | f + 1, n, h1, h => by
    simp only [kas_asc, kRun, kIn]
    cases hb : ltK O key (p.getD n 0) (p.getD (n - 1) 0) with
    | true =>
      simp only [if_true]
      exact ⟨⟨lo _, lo _, trivial⟩, Nat.le_refl _, by simp only [kRun]; omega, h, Or.inr hb⟩
    | false =>
      simp only [Bool.false_eq_true, if_false]
      obtain ⟨i1, i2, i3, i4, i5⟩ := asc_ok lo f (n + 1) (by omega) (up_succ h1 h hb)
      refine ⟨⟨lo _, lo _, i1⟩, by omega, by omega, i4, ?_⟩
      rcases i5 with e | e
      · exact Or.inl (by omega)
      · exact Or.inr e

theorem tail3_ok {p : Array Nat} (lo : Lo p N) {n nrem : Nat} (h1 : 1 ≤ n) (hn : n ≤ nrem) (hz : nrem ≤ p.size) (h : Dn O key p n) :
    kIn (ltK O key) N (kas_tail3 n nrem p) ∧ 1 ≤ (kRun (ltK O key) (kas_tail3 n nrem p)).1 ∧ (kRun (ltK O key) (kas_tail3 n nrem p)).1 ≤ nrem ∧ (kRun (ltK O key) (kas_tail3 n nrem p)).2.Perm p ∧ Up O key (kRun (ltK O key) (kas_tail3 n nrem p)).2 (kRun (ltK O key) (kas_tail3 n nrem p)).1 := by
  unfold kas_tail3
  have up : Up O key (kas_rev p 0 n) n := by
    intro i j hij hj
    rw [kk_rev (by omega), kk_rev (by omega), if_pos (by omega), if_pos (by omega)]
    exact h _ _ (by omega) (by omega)
  obtain ⟨i1, i2, i3, i4, _⟩ := asc_ok (lo_perm (rev_perm p 0 n) lo) (nrem - n) n h1 up
  rw [kRun_bind]
  refine ⟨kIn_bind _ i1 trivial, ?_, ?_, rev_perm p 0 n, i4⟩
  · show 1 ≤ _; simp only [kRun]; omega
  · simp only [kRun]; omega

theorem desc_ok : ∀ (f : Nat) (p : Array Nat) (n q : Nat), Lo p N → 1 ≤ n → n + f ≤ p.size → Dn O key p n → q + 1 ≤ n → (∀ i, n - (q + 1) ≤ i → i < n → kk O key p i = kk O key p (n - 1)) →
    kIn (ltK O key) N (kas_desc f p n q) ∧ (kRun (ltK O key) (kas_desc f p n q)).1.Perm p ∧ n ≤ (kRun (ltK O key) (kas_desc f p n q)).2.1 ∧ (kRun (ltK O key) (kas_desc f p n q)).2.1 ≤ n + f ∧
    Dn O key (kRun (ltK O key) (kas_desc f p n q)).1 (kRun (ltK O key) (kas_desc f p n q)).2.1 ∧ (kRun (ltK O key) (kas_desc f p n q)).2.2 + 1 ≤ (kRun (ltK O key) (kas_desc f p n q)).2.1 ∧
    (∀ i, (kRun (ltK O key) (kas_desc f p n q)).2.1 - ((kRun (ltK O key) (kas_desc f p n q)).2.2 + 1) ≤ i → i < (kRun (ltK O key) (kas_desc f p n q)).2.1 → kk O key (kRun (ltK O key) (kas_desc f p n q)).1 i = kk O key (kRun (ltK O key) (kas_desc f p n q)).1 ((kRun (ltK O key) (kas_desc f p n q)).2.1 - 1))
  | 0, p, n, q, lo, h1, hz, h, hq, he => ⟨trivial, Array.Perm.refl _, Nat.le_refl _, Nat.le_refl _, h, hq, he⟩
  | f + 1, p, n, q, lo, h1, hz, h, hq, he => by
    simp only [kas_desc, kRun, kIn]
    cases hb : ltK O key (p.getD n 0) (p.getD (n - 1) 0) with
    | true =>
      simp only [if_true]
      by_cases h0 : q > 0
      · simp only [if_pos h0]
        have hk := kk_rev_eq (O := O) (key := key) (p := p) (i := n - (q + 1)) (j := n) (by omega) he
        have pm := rev_perm p (n - (q + 1)) n
        have dn : Dn O key (kas_rev p (n - (q + 1)) n) (n + 1) := by
          have d0 := dn_succ h1 h (KeyOrd.kle_of_klt hb)
          intro i j hij hj
          rw [hk, hk]; exact d0 i j hij hj
        obtain ⟨i1, i2, i3, i4, i5, i6, i7⟩ := desc_ok f (kas_rev p (n - (q + 1)) n) (n + 1) 0 (lo_perm pm lo) (by omega) (by rw [pm.size_eq]; omega) dn (by omega) (fun i a b => by congr 1; omega)
        exact ⟨⟨lo _, lo _, i1⟩, i2.trans pm, by omega, by omega, i5, i6, i7⟩
      · simp only [if_neg h0]
        obtain ⟨i1, i2, i3, i4, i5, i6, i7⟩ := desc_ok f p (n + 1) 0 lo (by omega) (by omega) (dn_succ h1 h (KeyOrd.kle_of_klt hb)) (by omega) (fun i a b => by congr 1; omega)
        exact ⟨⟨lo _, lo _, i1⟩, i2, by omega, by omega, i5, i6, i7⟩
    | false =>
      simp only [Bool.false_eq_true, if_false, kRun, kIn]
      cases hc : ltK O key (p.getD (n - 1) 0) (p.getD n 0) with
      | true =>
        simp only [if_true]
        exact ⟨⟨lo _, lo _, lo _, lo _, trivial⟩, Array.Perm.refl _, Nat.le_refl _, by simp only [kRun]; omega, h, hq, he⟩
      | false =>
        simp only [Bool.false_eq_true, if_false]
        have e : kk O key p n = kk O key p (n - 1) := KeyOrd.kle_antisymm hc hb
        obtain ⟨i1, i2, i3, i4, i5, i6, i7⟩ := desc_ok f p (n + 1) (q + 1) lo (by omega) (by omega) (dn_succ h1 h (by rw [e]; exact KeyOrd.kle_refl _)) (by omega) (fun i a b => by
          rw [show n + 1 - 1 = n by omega]
          by_cases hi : i = n
          · subst hi; rfl
          · rw [e]; exact he i (by omega) (by omega))
        exact ⟨⟨lo _, lo _, lo _, lo _, i1⟩, i2, by omega, by omega, i5, i6, i7⟩

theorem descPart_ok {p : Array Nat} (lo : Lo p N) {n nrem : Nat} (hn : n + 1 ≤ nrem) (hz : nrem ≤ p.size) (h : Dn O key p (n + 1)) :
    kIn (ltK O key) N (kas_descPart n nrem p) ∧ 1 ≤ (kRun (ltK O key) (kas_descPart n nrem p)).1 ∧ (kRun (ltK O key) (kas_descPart n nrem p)).1 ≤ nrem ∧ (kRun (ltK O key) (kas_descPart n nrem p)).2.Perm p ∧ Up O key (kRun (ltK O key) (kas_descPart n nrem p)).2 (kRun (ltK O key) (kas_descPart n nrem p)).1 := by
  unfold kas_descPart
  obtain ⟨i1, i2, i3, i4, i5, i6, i7⟩ := desc_ok (N := N) (nrem - (n + 1)) p (n + 1) 0 lo (by omega) (by omega) h (by omega) (fun i a b => by congr 1; omega)
  rw [kRun_bind]
  generalize hr : kRun (ltK O key) (kas_desc (nrem - (n + 1)) p (n + 1) 0) = r at *
  by_cases h0 : r.2.2 > 0
  · have sz : r.1.size = p.size := i2.size_eq
    have hk := kk_rev_eq (O := O) (key := key) (p := r.1) (i := r.2.1 - (r.2.2 + 1)) (j := r.2.1) (by omega) i7
    have pm := (rev_perm r.1 (r.2.1 - (r.2.2 + 1)) r.2.1).trans i2
    have t := tail3_ok (O := O) (key := key) (N := N) (lo_perm pm lo) (n := r.2.1) (nrem := nrem) (by omega) (by omega) (by rw [pm.size_eq]; omega) (fun i j hij hj => by rw [hk, hk]; exact i5 i j hij hj)
    rw [if_pos h0]
    refine ⟨kIn_bind _ i1 ?_, t.2.1, t.2.2.1, t.2.2.2.1.trans pm, t.2.2.2.2⟩
    rw [hr, if_pos h0]; exact t.1
  · have t := tail3_ok (O := O) (key := key) (N := N) (lo_perm i2 lo) (n := r.2.1) (nrem := nrem) (by omega) (by omega) (by rw [i2.size_eq]; omega) i5
    rw [if_neg h0]
    refine ⟨kIn_bind _ i1 ?_, t.2.1, t.2.2.1, t.2.2.2.1.trans i2, t.2.2.2.2⟩
    rw [hr, if_neg h0]; exact t.1

theorem count_ok {p : Array Nat} (lo : Lo p N) {nrem : Nat} (h1 : 1 ≤ nrem) (hz : nrem ≤ p.size) :
    kIn (ltK O key) N (kas_count nrem p) ∧ 1 ≤ (kRun (ltK O key) (kas_count nrem p)).1 ∧ (kRun (ltK O key) (kas_count nrem p)).1 ≤ nrem ∧ (kRun (ltK O key) (kas_count nrem p)).2.Perm p ∧ Up O key (kRun (ltK O key) (kas_count nrem p)).2 (kRun (ltK O key) (kas_count nrem p)).1 := by
  unfold kas_count
  obtain ⟨i1, i2, i3, i4, i5⟩ := asc_ok (O := O) (key := key) lo (nrem - 1) 1 (Nat.le_refl _) (fun i j hij hj => by have : i = j := (by omega); subst this; exact KeyOrd.kle_refl _)
  rw [kRun_bind]
  generalize hr : kRun (ltK O key) (kas_asc p (nrem - 1) 1) = n at *
  by_cases hn : n = nrem
  · rw [if_pos (by simpa using hn)]
    exact ⟨kIn_bind _ i1 (by rw [hr, if_pos (by simpa using hn)]; trivial), i2, by show n ≤ nrem; omega, Array.Perm.refl _, i4⟩
  · rw [if_neg (by simpa using hn)]
    have hlt : O.klt (kk O key p n) (kk O key p (n - 1)) := i5.resolve_left (by omega)
    by_cases hg : n > 1
    · rw [if_pos hg]
      simp only [kRun]
      cases hb : ltK O key (p.getD 0 0) (p.getD (n - 1) 0) with
      | true =>
        simp only [if_true]
        exact ⟨kIn_bind _ i1 (by rw [hr, if_neg (by simpa using hn), if_pos hg]; exact ⟨lo _, lo _, by rw [hb]; trivial⟩), by show 1 ≤ n; omega, by show n ≤ nrem; omega, Array.Perm.refl _, i4⟩
      | false =>
        simp only [Bool.false_eq_true, if_false]
        have hall : ∀ k, 0 ≤ k → k < n → kk O key p k = kk O key p (n - 1) := by
          intro k _ hk
          have a1 := i4 0 k (by omega) hk
          have a2 := i4 k (n - 1) (by omega) (by omega)
          exact KeyOrd.kle_antisymm a2 (KeyOrd.kle_trans hb a1)
        have hk := kk_rev_eq (O := O) (key := key) (p := p) (i := 0) (j := n) (by omega) hall
        have pm := rev_perm p 0 n
        have t := descPart_ok (O := O) (key := key) (N := N) (lo_perm pm lo) (n := n) (nrem := nrem) (by omega) (by rw [pm.size_eq]; omega) (fun i j hij hj => by
          rw [hk, hk]
          by_cases hjn : j < n
          · rw [hall i (by omega) (by omega), hall j (by omega) hjn]; exact KeyOrd.kle_refl _
          · have hj' : j = n := by omega
            subst hj'
            by_cases hi' : i = j
            · subst hi'; exact KeyOrd.kle_refl _
            · rw [hall i (by omega) (by omega)]; exact KeyOrd.kle_of_klt hlt)
        exact ⟨kIn_bind _ i1 (by rw [hr, if_neg (by simpa using hn), if_pos hg]; exact ⟨lo _, lo _, by rw [hb]; exact t.1⟩), t.2.1, t.2.2.1, t.2.2.2.1.trans pm, t.2.2.2.2⟩
    · rw [if_neg hg]
      have n1 : n = 1 := by omega
      have t := descPart_ok (O := O) (key := key) (N := N) lo (n := n) (nrem := nrem) (by omega) hz (fun i j hij hj => by
        by_cases hi' : i = j
        · subst hi'; exact KeyOrd.kle_refl _
        · have e1 : i = n - 1 := by omega
          have e2 : j = n := by omega
          rw [e1, e2]; exact KeyOrd.kle_of_klt hlt)
      exact ⟨kIn_bind _ i1 (by rw [hr, if_neg (by simpa using hn), if_neg hg]; exact t.1), t.2⟩

theorem place_ok {p : Array Nat} (lo : Lo p N) {k : Nat} (hs : Up O key p k) : ∀ (f l r : Nat), l ≤ r → r ≤ k → r - l ≤ f → (∀ i, i < l → O.kle (kk O key p i) (kk O key p k)) → (∀ i, r ≤ i → i < k → O.klt (kk O key p k) (kk O key p i)) →
    kIn (ltK O key) N (kas_place p k f l r) ∧ kRun (ltK O key) (kas_place p k f l r) ≤ k ∧ (∀ i, i < kRun (ltK O key) (kas_place p k f l r) → O.kle (kk O key p i) (kk O key p k)) ∧ (∀ i, kRun (ltK O key) (kas_place p k f l r) ≤ i → i < k → O.klt (kk O key p k) (kk O key p i))
  | 0, l, r, hlr, hrk, hf, a, b => by
    have : l = r := by omega
    subst this
    exact ⟨trivial, hrk, a, b⟩
  | f + 1, l, r, hlr, hrk, hf, a, b => by
    simp only [kas_place]
    by_cases hge : l ≥ r
    · have : l = r := by omega
      subst this
      rw [if_pos hge]
      exact ⟨trivial, hrk, a, b⟩
    · rw [if_neg hge]
      simp only [kRun, kIn]
      cases hb : ltK O key (p.getD k 0) (p.getD ((l + r) / 2) 0) with
      | true =>
        simp only [if_true]
        have t := place_ok lo hs f l ((l + r) / 2) (by omega) (by omega) (by omega) a (fun i h1 h2 => KeyOrd.klt_of_klt_of_kle hb (hs _ _ h1 h2))
        exact ⟨⟨lo _, lo _, t.1⟩, t.2⟩
      | false =>
        simp only [Bool.false_eq_true, if_false]
        have t := place_ok lo hs f ((l + r) / 2 + 1) r (by omega) hrk (by omega) (fun i h1 => KeyOrd.kle_trans (hs i ((l + r) / 2) (by omega) (by omega)) hb) b
        exact ⟨⟨lo _, lo _, t.1⟩, t.2⟩

theorem bin_ok : ∀ (f : Nat) (p : Array Nat) (k : Nat), Lo p N → k + f ≤ p.size → Up O key p k → kIn (ltK O key) N (kas_bin f p k) ∧ (kRun (ltK O key) (kas_bin f p k)).Perm p ∧ Up O key (kRun (ltK O key) (kas_bin f p k)) (k + f)
  | 0, p, k, lo, hz, h => ⟨trivial, Array.Perm.refl _, h⟩
  | f + 1, p, k, lo, hz, h => by
    simp only [kas_bin]
    obtain ⟨i1, i2, i3, i4⟩ := place_ok lo h k 0 k (by omega) (by omega) (by omega) (fun i hi => absurd hi (by omega)) (fun i h1 h2 => absurd h2 (by omega))
    rw [kRun_bind]
    generalize hr : kRun (ltK O key) (kas_place p k k 0 k) = l at *
    have pm := bubble_perm p k (k - l)
    have hb := fun i => kk_bubble (O := O) (key := key) (p := p) (src := k) (d := k - l) (by omega) (by omega) i
    have up : Up O key (bubble p k (k - l)) (k + 1) := by
      intro i j hij hj
      rw [hb, hb, show k - (k - l) = l by omega]
      by_cases e1 : i = l
      · rw [if_pos e1]
        by_cases e2 : j = l
        · rw [if_pos e2]; exact KeyOrd.kle_refl _
        · rw [if_neg e2, if_pos (by omega)]; exact KeyOrd.kle_of_klt (i4 _ (by omega) (by omega))
      · rw [if_neg e1]
        by_cases e2 : j = l
        · rw [if_pos e2, if_neg (by omega)]; exact i3 _ (by omega)
        · rw [if_neg e2]
          by_cases e3 : l < i ∧ i ≤ k
          · rw [if_pos e3, if_pos (by omega)]; exact h _ _ (by omega) (by omega)
          · rw [if_neg e3]
            by_cases e4 : l < j ∧ j ≤ k
            · rw [if_pos e4]; exact h _ _ (by omega) (by omega)
            · rw [if_neg e4]; exact h _ _ (by omega) (by omega)
    obtain ⟨t1, t2, t3⟩ := bin_ok f (bubble p k (k - l)) (k + 1) (lo_perm pm lo) (by rw [pm.size_eq]; omega) up
    refine ⟨kIn_bind _ i1 (by rw [hr]; exact t1), t2.trans pm, ?_⟩
    rw [show k + (f + 1) = k + 1 + f by omega]; exact t3

theorem sort_ok {n : Nat} (h1 : 1 ≤ n) : kIn (ltK O key) n (kas_sort n) ∧ (kRun (ltK O key) (kas_sort n)).Perm (List.toArray (List.range n)) ∧ Up O key (kRun (ltK O key) (kas_sort n)) n := by
  have lo : Lo (List.toArray (List.range n)) n := by
    intro i
    by_cases hi : i < n
    · simp [Array.getD, hi]
    · simp [Array.getD, hi]; omega
  unfold kas_sort
  obtain ⟨i1, i2, i3, i4, i5⟩ := count_ok (O := O) (key := key) lo (nrem := n) h1 (by simp)
  rw [kRun_bind]
  generalize hr : kRun (ltK O key) (kas_count n (List.toArray (List.range n))) = r at *
  have sz : r.2.size = n := by rw [i4.size_eq]; simp
  by_cases h : r.1 < n
  · have t := bin_ok (O := O) (key := key) (N := n) (n - max r.1 1) r.2 (max r.1 1) (lo_perm i4 lo) (by omega) (by rw [show max r.1 1 = r.1 by omega]; exact i5)
    rw [if_pos h]
    refine ⟨kIn_bind _ i1 (by rw [hr, if_pos h]; exact t.1), t.2.1.trans i4, ?_⟩
    have := t.2.2
    rwa [show max r.1 1 + (n - max r.1 1) = n by omega] at this
  · rw [if_neg h]
    refine ⟨kIn_bind _ i1 (by rw [hr, if_neg h]; trivial), i4, ?_⟩
    rw [show n = r.1 by omega]; exact i5
end
end L2.R2

set_option Elab.async false
set_option linter.all false
set_option maxRecDepth 100000
set_option maxHeartbeats 3200000
namespace L2.R2
open PySem PySem.W PySem.SetTable PyProof.Rows
/-! ## sorted(set(..)) of tuples of ints -/
def lexB : List Int → List Int → Bool
  | [], [] => false
  | [], _ :: _ => true
  | _ :: _, [] => false
  | a :: as, b :: bs => if a = b then lexB as bs else decide (a < b)
theorem lexB_irr : ∀ a, lexB a a = false
  | [] => rfl
  | a :: as => by simp only [lexB, if_true]; exact lexB_irr as
theorem lexB_trans : ∀ a b c, lexB a b = true → lexB b c = true → lexB a c = true
  | [], [], c, h, _ => by simp [lexB] at h
  | [], _ :: _, [], _, h => by simp [lexB] at h
  | [], _ :: _, _ :: _, _, _ => rfl
  | _ :: _, [], _, h, _ => by simp [lexB] at h
  | _ :: _, _ :: _, [], _, h => by simp [lexB] at h
  | a :: as, b :: bs, c :: cs, h, k => by
    simp only [lexB] at h k ⊢
    by_cases e1 : a = b
    · subst e1
      rw [if_pos rfl] at h
      by_cases e2 : a = c
      · subst e2; rw [if_pos rfl] at k ⊢; exact lexB_trans as bs cs h k
      · rw [if_neg e2] at k ⊢; exact k
    · rw [if_neg e1] at h
      by_cases e2 : b = c
      · subst e2; rw [if_neg e1]; exact h
      · rw [if_neg e2] at k
        simp only [decide_eq_true_eq] at h k
        rw [if_neg (by omega)]
        simp only [decide_eq_true_eq]; omega
theorem lexB_total : ∀ a b, lexB a b = false → lexB b a = false → a = b
  | [], [], _, _ => rfl
  | [], _ :: _, h, _ => by simp [lexB] at h
  | _ :: _, [], _, h => by simp [lexB] at h
  | a :: as, b :: bs, h, k => by
    simp only [lexB] at h k
    by_cases e : a = b
    · subst e; rw [if_pos rfl] at h k; rw [lexB_total as bs h k]
    · rw [if_neg e] at h; rw [if_neg (Ne.symm e)] at k
      simp only [decide_eq_false_iff_not] at h k; omega
theorem lexB_neg (a b c : List Int) (h : lexB a c = true) : lexB a b = true ∨ lexB b c = true := by
  cases h1 : lexB a b with
  | true => exact Or.inl rfl
  | false =>
    right
    cases h2 : lexB b a with
    | true => exact lexB_trans b a c h2 h
    | false => rw [← lexB_total a b h1 h2]; exact h
def lexO : KeyOrd := ⟨List Int, lexB, lexB_irr, lexB_trans, lexB_neg, lexB_total⟩

section
variable {prog : Program} {w : World} {A : Around} {E : Value → Shared → Prop} {s : Shared}
theorem int_inv {k : Int} {v : Value} (h : (intKind prog w).is k v = true) : ∃ t, v = .int k t := by
  cases v <;> simp [intKind, Value.isInt] at h
  exact ⟨_, by rw [h]⟩
theorem lex_ask {fin : Bool} {Q : Bool → Shared → Prop} : ∀ (ns ms : List Int) (vs us : List Value) (i : Nat), ItemsAre (intKind prog w) ns vs → ItemsAre (intKind prog w) ms us → fin = decide (vs.length < us.length) → Q (lexB ns ms) s → KatLex prog w A true fin Q (vs.zip us) i s
  | [], [], _, _, i, .nil, .nil, hf, q => by simp at hf; subst hf; exact kat_nil q
  | [], _ :: _, _, _, i, .nil, .cons _ _, hf, q => by simp at hf; subst hf; exact kat_nil q
  | _ :: _, [], _, _, i, .cons _ _, .nil, hf, q => by simp at hf; subst hf; exact kat_nil q
  | n :: ns, m :: ms, _, _, i, .cons (v := v) (vs := vs) h1 t1, .cons (v := u) (vs := us) h2 t2, hf, q => by
    rw [List.zip_cons_cons]
    refine kat_cons ((intKind prog w).eqBool h1 h2 ?_)
    by_cases e : n = m
    · subst e
      rw [decide_eq_true rfl]
      exact kat_yes (lex_ask ns ms vs us (i + 1) t1 t2 (by simpa using hf) (by simpa [lexB] using q))
    · rw [decide_eq_false e]
      obtain ⟨tn, rfl⟩ := int_inv h1
      obtain ⟨tm, rfl⟩ := int_inv h2
      have q' : Q (decide (n < m)) s := by simpa [lexB, e] using q
      refine kat_no ?_
      cases hi : (i == 0) with
      | true => exact oneLt_int q'
      | false => exact kat_one _ _ (PySem.wpAny_lt_int (by exact q'))

/-- where the keys of a list's items lie -/
def KeysAt (prog : Program) (w : World) (h : Heap) (vs : List Value) (nss : List (List Int)) : Prop := vs.length = nss.length ∧ ∀ i v, vs[i]? = some v → ∃ a, v = .ref a ∧ IsTupleKey (intKind prog w) h (nss.getD i []) a
theorem katTups_of {h : Heap} : ∀ (vs : List Value) (nss : List (List Int)), KeysAt prog w h vs nss → (∀ ns ∈ nss, ns ≠ []) → ∃ fs : List Value, KatTups h vs fs ∧ fs.length = vs.length ∧ ∀ f ∈ fs, ∃ k t, f = .int k t
  | [], nss, _, _ => ⟨[], trivial, rfl, fun f hf => by cases hf⟩
  | v :: vs, nss, H, hn => by
    match nss, H with
    | [], H => exact absurd H.1 (by simp)
    | ns :: nss, H =>
      obtain ⟨a, rfl, o, items, n, ho, hc, hd, hi⟩ := H.2 0 v rfl
      obtain ⟨fs, f1, f2, f3⟩ := katTups_of vs nss ⟨by have := H.1; simpa using this, fun i v e => H.2 (i + 1) v e⟩ fun ms hm => hn ms (List.mem_cons_of_mem _ hm)
      simp only [List.getD_cons_zero] at hi
      match ns, hi, hn ns (List.mem_cons_self ..) with
      | [], _, h => exact absurd rfl h
      | k :: ks, hi, _ =>
        generalize e : items.toList = its at hi
        cases hi with
        | cons h1 h2 =>
          obtain ⟨t, rfl⟩ := int_inv h1
          refine ⟨.int k t :: fs, ⟨⟨a, o, items, n, rfl, ho, hc, hd, ?_⟩, f1⟩, by simp [f2], fun f hf => ?_⟩
          · rw [← Array.getElem?_toList, e]; rfl
          · rcases List.mem_cons.mp hf with rfl | hf
            · exact ⟨k, t, rfl⟩
            · exact f3 f hf

theorem KeysAt.other {h h' : Heap} {vs : List Value} {nss : List (List Int)} {a : Addr} {xs : Array Value} {n : Nat} (K : KeysAt prog w h vs nss) (ho : h.get? a = some (seqObj "list" xs n)) (up : ∀ b o, b ≠ a → h.get? b = some o → h'.get? b = some o) : KeysAt prog w h' vs nss := by
  refine ⟨K.1, fun i v e => ?_⟩
  obtain ⟨b, rfl, o, its, m, h1, h2, h3, h4⟩ := K.2 i v e
  refine ⟨b, rfl, o, its, m, up b o ?_ h1, h2, h3, h4⟩
  rintro rfl
  rw [ho] at h1; cases h1
  exact absurd h2 (by simp [seqObj])

theorem range_getD {α : Type} (d : α) (xs : List α) : (List.range xs.length).map (fun i => xs.getD i d) = xs := by
  apply List.ext_getElem (by simp)
  intro i h1 h2
  simp [h2]

theorem sort_keys {a : Addr} {vs : List Value} {nss : List (List Int)} {n : Nat} {P : PySem.Fin → Shared → Prop} (ho : s.heap.get? a = some (seqObj "list" vs.toArray n)) (K : KeysAt prog w s.heap vs nss) (hn : ∀ ns ∈ nss, ns ≠ []) (h64 : vs.length < 64)
    (q : ∀ h' out mss c, h'.get? a = some (seqObj "list" (List.toArray out) c) → KeysAt prog w h' out mss → (∀ v ∈ out, v ∈ vs) → mss.Perm nss → mss.Pairwise (fun x y => lexB y x = false) → (∀ b o, b ≠ a → s.heap.get? b = some o → h'.get? b = some o) → P (.done (.ret .none)) { s with heap := h' }) :
    wpAny (model prog w) A (Builtin.«list.sort» ⟨[.ref a], []⟩) P E s := by
  have lt : a < s.heap.objs.size := Heap.lt_size ho
  rw [list_sort_plain]
  apply wpAny_bind; refine listItems_at ho rfl ?_
  apply wpAny_bind; refine listUpdate_at ho rfl ?_ (by rw [List.size_toArray, sizeLine_eq]; omega) (Nat.zero_le _)
  obtain ⟨e1, ho1⟩ : ∃ e1, (s.heap.update a (Obj.mapSeq fun _ => (#[] : Array Value))).get? a = some (seqObj "list" #[] e1) := ⟨_, get?_update_seq ho fun _ => #[]⟩
  have up1 : ∀ b o, b ≠ a → s.heap.get? b = some o → (s.heap.update a (Obj.mapSeq fun _ => (#[] : Array Value))).get? b = some o := fun b o hb e => (Heap.get?_update_other _ _ (Ne.symm hb)).trans e
  generalize s.heap.update a (Obj.mapSeq fun _ => (#[] : Array Value)) = h1 at ho1 up1
  apply wpAny_bind; refine seqEpoch_at ho1 rfl ?_
  apply wpAny_bind; refine wpAny_newTuple ?_ (by show vs.length ≤ _; rw [sizeLine_eq]; omega)
  apply wpAny_bind; refine wpAny_newList ?_ (Nat.zero_le _)
  apply wpAny_holding
  show wpAny (model prog w) A _ P E { s with heap := (h1.push (seqObj "tuple" vs.toArray 0)).push (seqObj "list" #[] 0) }
  have up2 : ∀ b o, b ≠ a → s.heap.get? b = some o → ((h1.push (seqObj "tuple" vs.toArray 0)).push (seqObj "list" #[] 0)).get? b = some o := fun b o hb e => Heap.get?_push_of_some _ (Heap.get?_push_of_some _ (up1 b o hb e))
  have ho2 : ((h1.push (seqObj "tuple" vs.toArray 0)).push (seqObj "list" #[] 0)).get? a = some (seqObj "list" #[] e1) := Heap.get?_push_of_some _ (Heap.get?_push_of_some _ ho1)
  generalize (h1.push (seqObj "tuple" vs.toArray 0)).push (seqObj "list" #[] 0) = h2 at up2 ho2
  have K2 := K.other ho up2
  have fin : ∀ (out : List Value) (mss : List (List Int)) (st' : SortSt), (arrOf st').map (·.2) = out.toArray → failedOf st' = none → KeysAt prog w h2 out mss → (∀ v ∈ out, v ∈ vs) → mss.Perm nss → mss.Pairwise (fun x y => lexB y x = false) → out.length ≤ 64 →
      wpAny (model prog w) A (do
        let sorted := (arrOf st').map (·.2)
        let touched := (← seqEpoch a) != e1
        Builtin.List.listUpdate (.ref a) fun _ => sorted
        if let some e := failedOf st' then rule "list.sort.comparison-raised"; throw e
        if touched then rule "list.sort.modified"; raiseError "ValueError" "list modified during sort"
        ret .none) P E { s with heap := h2 } := by
    intro out mss st' h1 hf KO hv hp hs hlen
    dsimp only
    apply wpAny_bind; refine seqEpoch_at (s := { s with heap := h2 }) ho2 rfl ?_
    rw [h1]
    apply wpAny_bind; refine listUpdate_at (s := { s with heap := h2 }) ho2 rfl ?_ (Nat.zero_le _) (by show out.toArray.size ≤ _; rw [List.size_toArray, sizeLine_eq]; omega)
    obtain ⟨c, hc⟩ : ∃ c, (h2.update a (Obj.mapSeq fun _ => out.toArray)).get? a = some (seqObj "list" out.toArray c) := ⟨_, get?_update_seq ho2 fun _ => out.toArray⟩
    have up3 : ∀ b o, b ≠ a → h2.get? b = some o → (h2.update a (Obj.mapSeq fun _ => out.toArray)).get? b = some o := fun b o hb e => (Heap.get?_update_other _ _ (Ne.symm hb)).trans e
    generalize h2.update a (Obj.mapSeq fun _ => out.toArray) = h3 at hc up3
    rw [hf]
    simp only [bne_self_eq_false, Bool.false_eq_true, if_false]
    exact wpAny_pure (q h3 out mss c hc (KO.other ho2 up3) hv hp hs fun b o hb e => up3 b o hb (up2 b o hb e))
  have ln := K.1
  dsimp only
  by_cases h2' : vs.length < 2
  · have c2 : vs.toArray.size < 2 := by rw [List.size_toArray]; exact h2'
    rw [if_pos c2, if_pos c2]
    apply wpAny_bind; apply wpAny_pure
    apply wpAny_bind
    show wpAny _ _ (pure ((), SortSt.mk' general' (vs.toArray.zip vs.toArray) #[] 7 none)) _ _ _
    apply wpAny_pure
    refine fin vs nss _ ?_ rfl K2 (fun _ h => h) (List.Perm.refl _) ?_ (by omega)
    · show (vs.toArray.zip vs.toArray).map (·.2) = vs.toArray
      apply Array.toList_inj.mp
      simp [List.map_snd_zip]
    · match nss, ln with
      | [], _ => exact List.Pairwise.nil
      | [x], _ => exact List.pairwise_singleton _ _
      | _ :: _ :: _, ln => simp at ln; omega
  · have c2 : ¬ vs.toArray.size < 2 := by rw [List.size_toArray]; exact h2'
    rw [if_neg c2, if_neg c2]
    obtain ⟨fs, f1, f2, f3⟩ := katTups_of vs nss K2 hn
    apply wpAny_bind
    refine kat_kind (s := { s with heap := h2 }) (T := .type "int") f1 (by omega) (fun v hv => ?_) (by decide) ?_
    · obtain ⟨k, t, rfl⟩ := f3 v hv
      exact Looks.now
    have hT : (Value.type "int" != Value.type "tuple") = true := by decide
    rw [hT]
    obtain ⟨i1, i2, i3⟩ := sort_ok (O := lexO) (key := fun i => nss.getD i []) (n := vs.length) (by omega)
    have psz : (kRun (ltK lexO fun i => nss.getD i []) (kas_sort vs.length)).size = vs.length := by rw [i2.size_eq]; simp
    generalize hp : kRun (ltK lexO fun i => nss.getD i []) (kas_sort vs.length) = p at i2 i3 psz
    apply wpAny_bind
    refine wpAny_mono (kat_run (ks := vs) (vs := vs) (Q := fun st' s' => s' = { s with heap := h2 } ∧ arrOf st' = p.map (kas_item (vs.toArray.zip vs.toArray)) ∧ failedOf st' = none) (G := fun p' s' => p' = p ∧ s' = { s with heap := h2 }) rfl (by omega) h64 (fun p' st' s' a1 a2 a3 a4 => ⟨a4.2, by rw [a2, a4.1], a3⟩) ?_) ?_ fun _ _ e => e
    · refine kas_wp_run (lt := ltK lexO fun i => nss.getD i []) (n := vs.length) (s := { s with heap := h2 }) (fun i j C hi hj c => ?_) _ i1 ⟨hp, rfl⟩
      unfold kas_ask
      obtain ⟨x, ex, ox, xs, nx, hx1, hx2, hx3, hx4⟩ := K2.2 i (vs.getD i Value.none) (by simp [hi])
      obtain ⟨y, ey, oy, ys, ny, hy1, hy2, hy3, hy4⟩ := K2.2 j (vs.getD j Value.none) (by simp [hj])
      rw [ex, ey]
      refine kat_lt (s := { s with heap := h2 }) hx1 hx3 hy1 hy3 (lex_ask _ _ _ _ 0 hx4 hy4 (by simp) ?_)
      exact c
    · rintro ⟨⟨⟩, st'⟩ s' ⟨rfl, har, hf⟩
      have hout := kat_snds (ks := vs) (vs := vs) rfl har
      refine fin (p.toList.map fun i => vs.getD i Value.none) (p.toList.map fun i => nss.getD i []) st' hout hf ⟨by simp, fun i v e => ?_⟩ (fun v hv => ?_) ?_ ?_ (by simp [psz]; omega)
      · rw [List.getElem?_map] at e
        cases e2 : p.toList[i]? with
        | none => rw [e2] at e; simp at e
        | some j =>
          rw [e2] at e
          simp only [Option.map_some, Option.some.injEq] at e
          have hj : j < vs.length := by
            have m : j ∈ p.toList := List.mem_of_getElem? e2
            have := (Array.Perm.mem_iff i2).mp (Array.mem_toList_iff.mp m)
            simpa using this
          obtain ⟨b, hb1, hb2⟩ := K2.2 j v (by rw [← e]; simp [hj])
          refine ⟨b, hb1, ?_⟩
          have g : (p.toList.map fun i => nss.getD i []).getD i [] = nss.getD j [] := by
            rw [List.getD_eq_getElem?_getD, List.getElem?_map, e2]; rfl
          rw [g]; exact hb2
      · obtain ⟨j, m, rfl⟩ := List.mem_map.mp hv
        have hj : j < vs.length := by
          have := (Array.Perm.mem_iff i2).mp (Array.mem_toList_iff.mp m)
          simpa using this
        simp [hj]
      · have pl : p.toList.Perm (List.range vs.length) := by simpa using i2.toList
        refine (pl.map _).trans ?_
        rw [ln, range_getD]
      · refine List.pairwise_map.mpr (List.pairwise_iff_getElem.mpr fun i j hi hj hij => ?_)
        have := i3 i j (by omega) (by simp at hj; omega)
        unfold kk at this
        simp only [Array.length_toList] at hi hj
        have e1 : p.getD i 0 = p[i] := by simp [Array.getD, hi]
        have e2 : p.getD j 0 = p[j] := by simp [Array.getD, hj]
        rw [e1, e2] at this
        exact this

theorem call_sorted_set {S : Addr} {es : Array (Int × Value)} {Q : Value → Shared → Prop} (hh : A.handled = none) (H : SetTup prog w s.heap S es) (h64 : es.size < 64) {nss : List (List Int)} (hn : ∀ ns ∈ nss, ns ≠ [])
    (hk : ∀ e ∈ es.toList, ∃ ns ∈ nss, ∃ a, e.2 = .ref a ∧ IsTupleKey (intKind prog w) s.heap ns a)
    (q : ∀ h' D out mss c, s.heap.objs.size ≤ D → h'.get? D = some (seqObj "list" (List.toArray out) c) → KeysAt prog w h' out mss → (∀ v ∈ out, ∃ e ∈ es.toList, e.2 = v) → (∀ ns, ns ∈ mss ↔ ∃ e ∈ es.toList, ∃ a, e.2 = .ref a ∧ IsTupleKey (intKind prog w) s.heap ns a) → mss.Pairwise (fun x y => lexB y x = false) →
      mss.length = es.size → (∀ b o, s.heap.get? b = some o → h'.get? b = some o) → Q (.ref D) { s with heap := h' }) :
    wpAny (model prog w) A (call (.builtin "sorted") [.ref S]) Q E s := by
  obtain ⟨⟨ep, t, ho, T, hf, hl, hp⟩, els⟩ := H
  have wp := walk_perm (w := w) S ep es
  have wl : (walkOf w S ep es).toList.length = es.size := by rw [wp.length_eq, Array.length_toList]
  refine Calls.call_function_entry kind_sorted plain_sorted entry_sorted (args_sorted1 _) ?_
  unfold Builtin.«sorted»
  refine wpAny_bind (m := checkCount "sorted" 1 1 _) (wpAny_pure ?_)
  apply wpAny_bind; refine collect_set (A := A.in1) (by simp [hh]) ho T hl hp (by omega) fun h1 k1 big => ?_
  apply wpAny_bind; refine wpAny_newList ?_ (by rw [List.length_map, wl, sizeLine_eq]; omega)
  show wpAny _ _ _ _ _ { s with heap := h1.push (seqObj "list" (List.toArray ((walkOf w S ep es).toList.map (·.2))) 0) }
  have hL : (h1.push (seqObj "list" (List.toArray ((walkOf w S ep es).toList.map (·.2))) 0)).get? h1.objs.size = some (seqObj "list" (List.toArray ((walkOf w S ep es).toList.map (·.2))) 0) := Heap.get?_push_size _ rfl
  have k2 : ∀ b o, s.heap.get? b = some o → (h1.push (seqObj "list" (List.toArray ((walkOf w S ep es).toList.map (·.2))) 0)).get? b = some o := fun b o e => Heap.get?_push_of_some _ (k1 b o e)
  generalize h1.push (seqObj "list" (List.toArray ((walkOf w S ep es).toList.map (·.2))) 0) = h2 at hL k2
  -- the keys, one for each element in the walk's order
  have ex : ∀ (i : Nat) (v : Value), ((walkOf w S ep es).toList.map (·.2))[i]? = some v → ∃ ns ∈ nss, ∃ a, v = .ref a ∧ IsTupleKey (intKind prog w) s.heap ns a := by
    intro i v e
    rw [List.getElem?_map] at e
    cases e2 : (walkOf w S ep es).toList[i]? with
    | none => rw [e2] at e; simp at e
    | some x =>
      rw [e2] at e
      simp only [Option.map_some, Option.some.injEq] at e
      have m : x ∈ es.toList := wp.mem_iff.mp (List.mem_of_getElem? e2)
      obtain ⟨ns, h1, a, h2, h3⟩ := hk x m
      exact ⟨ns, h1, a, by rw [← e]; exact h2, h3⟩
  obtain ⟨kss, kl, kk⟩ : ∃ kss : List (List Int), kss.length = ((walkOf w S ep es).toList.map (·.2)).length ∧ ∀ (i : Nat) (v : Value), ((walkOf w S ep es).toList.map (·.2))[i]? = some v → kss.getD i [] ∈ nss ∧ ∃ a, v = .ref a ∧ IsTupleKey (intKind prog w) s.heap (kss.getD i []) a := by
    generalize ((walkOf w S ep es).toList.map (·.2)) = vs at ex
    clear hL
    induction vs with
    | nil => exact ⟨[], rfl, fun i v e => by simp at e⟩
    | cons v vs ih =>
      obtain ⟨kss, k1, k2⟩ := ih fun i v e => ex (i + 1) v (by simpa using e)
      obtain ⟨ns, h1, a, h2, h3⟩ := ex 0 v rfl
      refine ⟨ns :: kss, by simp [k1], fun i u e => ?_⟩
      cases i with
      | zero => simp at e; subst e; exact ⟨h1, a, h2, h3⟩
      | succ i => exact k2 i u (by simpa using e)
  have KA : KeysAt prog w h2 ((walkOf w S ep es).toList.map (·.2)) kss := by
    refine ⟨kl.symm, fun i v e => ?_⟩
    obtain ⟨_, a, h1, o, its, m, g1, g2⟩ := kk i v e
    exact ⟨a, h1, o, its, m, k2 _ _ g1, g2⟩
  have kmem : ∀ ns, ns ∈ kss ↔ ∃ e ∈ es.toList, ∃ a, e.2 = .ref a ∧ IsTupleKey (intKind prog w) s.heap ns a := by
    intro ns
    constructor
    · intro h
      obtain ⟨i, hi, e⟩ := List.getElem_of_mem h
      have hi' : i < ((walkOf w S ep es).toList.map (·.2)).length := by omega
      obtain ⟨_, a, h1, h2⟩ := kk i _ (List.getElem?_eq_getElem hi')
      have g : kss.getD i [] = ns := by simp [hi, e]
      rw [g] at h2
      simp only [List.getElem_map] at h1
      exact ⟨_, wp.mem_iff.mp (List.getElem_mem _), a, h1, h2⟩
    · rintro ⟨e, he, a, h1, h2⟩
      obtain ⟨i, hi, e'⟩ := List.getElem_of_mem (wp.mem_iff.mpr he)
      obtain ⟨_, b, g1, g2⟩ := kk i e.2 (by rw [List.getElem?_map, List.getElem?_eq_getElem hi, e']; rfl)
      rw [h1] at g1; cases g1
      have := g2.inj h2
      rw [← this]
      have hi' : i < kss.length := by rw [kl]; simpa using hi
      simp [hi']
  refine wpAny_bind (wpAny_holding (wpAny_call_entry slot_list_sort ⟨_, hL, rfl⟩ entry_list_sort ?body (args_list_sort _)))
  case body =>
    refine sort_keys (s := { s with heap := h2 }) hL KA (fun ns h => ?_) (by rw [List.length_map, wl]; exact h64) fun h3 out mss c g1 g2 g3 g4 g5 g6 => ?_
    · obtain ⟨e, he, a, e1, e2⟩ := (kmem ns).mp h
      obtain ⟨ms, m1, b, e3, e4⟩ := hk e he
      rw [e1] at e3; cases e3
      rw [e2.inj e4]; exact hn ms m1
    · refine ⟨_, rfl, wpAny_pure ⟨_, rfl, q h3 h1.objs.size out mss c big g1 g2 (fun v hv => ?_) (fun ns => (g4.mem_iff).trans (kmem ns)) g5 ?_ fun b o e => ?_⟩⟩
      · obtain ⟨e, he, rfl⟩ := List.mem_map.mp (g3 v hv)
        exact ⟨e, wp.mem_iff.mp he, rfl⟩
      · rw [g4.length_eq, kl, List.length_map, wl]
      · have := Heap.lt_size e
        exact g6 b o (by intro z; simp only [Addr] at *; omega) (k2 b o e)
end
end L2.R2

set_option Elab.async false
set_option linter.all false
set_option maxRecDepth 100000
set_option maxHeartbeats 3200000
namespace L2.R2
open PySem PySem.W PyProof.Rows
/-! ## list(reversed(a list)) -/
theorem lri_no_len : typeLookup (.type "list_reverseiterator") "__len__" = pure none := by rw [typeLookup_type, builtinLookup_eq_fast]; kernel_rfl
theorem lri_hint : typeLookup (.type "list_reverseiterator") "__length_hint__" = pure (some (.builtin "list_reverseiterator.__length_hint__")) := by rw [typeLookup_type, builtinLookup_eq_fast]; kernel_rfl
theorem sub_lri_self : isSubtype (.type "list_reverseiterator") (.type "list_reverseiterator") = pure true := by rw [isSubtype_type]; kernel_rfl
section
variable {prog : Program} {w : World} {A : Around} {E : Value → Shared → Prop} {s : Shared}
theorem rev_hint {I : Addr} {Q : Bool → Shared → Prop} (ty : s.TypeIs (.ref I) "list_reverseiterator") (q : Q false s) : wpAny (model prog w) A (Builtin.List.listLengthHint (.ref I)) Q E s := by
  unfold Builtin.List.listLengthHint
  apply wpAny_bind; refine wpAny_specialOf ty lri_no_len ?_
  show wpAny _ _ (specialOf (Value.ref I) (Str.ofString "__length_hint__") >>= _) _ _ _
  apply wpAny_bind; refine wpAny_specialOf ty lri_hint ?_
  dsimp only
  have sp : splitId "list_reverseiterator.__length_hint__" = some ("list_reverseiterator", "__length_hint__") := by decide +kernel
  rw [sp]
  dsimp only
  apply wpAny_bind; refine wpAny_isInstance (b := true) ty sub_lri_self ?_
  simp only [Bool.not_true, Bool.false_eq_true, if_false]
  have key : ∀ (c : Bool) (X Y : Sem Bool), c = true → wpAny (model prog w) A X Q E s → wpAny (model prog w) A (if c = true then X else Y) Q E s := fun c X Y hc h => by rw [if_pos hc]; exact h
  refine key _ _ _ (by decide +kernel) ?_
  rw [if_neg (by decide +kernel)]
  exact wpAny_pure q

theorem call_list_rev {I l : Addr} {items : Array Value} {Q : Value → Shared → Prop} (hh : A.handled = none) (ne : l ≠ I) (hz : items.size ≤ sizeLine) (hi : s.heap.IsRevIter I l ((items.size : Int) - 1)) (hl : s.heap.IsList l items)
    (q : ∀ h' c, h'.get? s.heap.objs.size = some (seqObj "list" items.toList.reverse.toArray c) → (∀ b o, b ≠ I → s.heap.get? b = some o → h'.get? b = some o) → Q (.ref s.heap.objs.size) { s with heap := h' }) :
    wpAny (model prog w) A (call (.type "list") [.ref I]) Q E s := by
  have ltI : I < s.heap.objs.size := by obtain ⟨o, e, _⟩ := hi; exact Heap.lt_size e
  have ltl : l < s.heap.objs.size := by obtain ⟨o, e, _⟩ := hl; exact Heap.lt_size e
  refine callType_codes (Q₁ := fun obj s₁ => obj = .ref s.heap.objs.size ∧ s₁ = { s with heap := s.heap.push { cls := .type "list", data := .seq #[] } }) F.called_list (F.typeCall_list_1 _) F.entry_list_init (code_list_new _ ⟨rfl, rfl⟩) fun obj s₁ h₁ => ?_
  obtain ⟨rfl, rfl⟩ := h₁
  have hS : (s.heap.push { cls := .type "list", data := .seq #[] }).get? s.heap.objs.size = some { cls := .type "list", data := .seq #[] } := Heap.get?_push_size _ rfl
  refine ⟨⟨_, hS, rfl⟩, F.args_list_init_2 _ _, ?_⟩
  show wpAny _ _ (do let old ← Builtin.List.listItems (.ref s.heap.objs.size); Builtin.List.listUpdate (.ref s.heap.objs.size) (fun _ => #[]); letGo old.toList.reverse; Builtin.List.listExtendWith (.ref s.heap.objs.size) (.ref I) .none) _ _ _
  apply wpAny_bind; unfold Builtin.List.listItems
  apply wpAny_bind; apply wpAny_seqItems hS rfl; apply wpAny_pure
  show wpAny _ _ (updateSeq s.heap.objs.size (fun _ => #[]) >>= fun _ => letGo (#[] : Array Value).toList.reverse >>= fun _ => Builtin.List.listExtendWith (.ref s.heap.objs.size) (.ref I) .none) _ _ _
  apply wpAny_bind; refine wpAny_updateSeq hS rfl ?_
  have hS2 := Heap.get?_update_self (Obj.mapSeq (fun _ => (#[] : Array Value))) hS rfl
  have up2 : ∀ b o, b ≠ s.heap.objs.size → s.heap.get? b = some o → ((s.heap.push { cls := .type "list", data := .seq #[] }).update s.heap.objs.size (Obj.mapSeq (fun _ => (#[] : Array Value)))).get? b = some o :=
    fun b o hb e => (Heap.get?_update_other _ _ (Ne.symm hb)).trans (Heap.get?_push_of_some _ e)
  generalize (s.heap.push { cls := .type "list", data := .seq #[] }).update s.heap.objs.size (Obj.mapSeq (fun _ => (#[] : Array Value))) = h2 at hS2 up2
  apply wpAny_bind; apply wpAny_letGo
  have neI : I ≠ s.heap.objs.size := Nat.ne_of_lt ltI
  have nel : l ≠ s.heap.objs.size := Nat.ne_of_lt ltl
  have hi2 : h2.IsRevIter I l ((items.size : Int) - 1) := hi.at fun o e => up2 _ o neI e
  have hl2 : h2.IsList l items := hl.at fun o e => up2 _ o nel e
  unfold Builtin.List.listExtendWith
  apply wpAny_bind; refine wpAny_typeOf (T := "list_reverseiterator") hi2.typeIs ?_
  have g1 : Builtin.List.listSameRef (.ref s.heap.objs.size) (.ref I) = false := by simp [Builtin.List.listSameRef, Nat.ne_of_gt ltI]
  have g2 : (Value.type "list_reverseiterator" == Value.type "list") = false := by decide
  have g3 : (Value.type "list_reverseiterator" == Value.type "tuple") = false := by decide
  simp only [g1, g2, g3, Bool.or_false, Bool.false_eq_true, if_false]
  apply wpAny_bind; refine wpAny_pyIter_revIter hi2 ?_
  apply wpAny_bind; apply wpAny_holding; refine rev_hint hi2.typeIs ?_
  have key : ∀ (c : Bool) (X Y : Sem Fin) {Q' : Fin → Shared → Prop} {E' : Value → Shared → Prop} {s' : Shared} {A' : Around}, c = false → wpAny (model prog w) A' Y Q' E' s' → wpAny (model prog w) A' (if c = true then X else Y) Q' E' s' := fun c X Y _ _ _ _ hc h => by rw [hc, if_neg Bool.false_ne_true]; exact h
  refine key _ _ _ (by decide +kernel) ?_
  apply wpAny_pure; refine ⟨plainId_quiet PySem.F.plain_extend_loop _, ?_⟩
  refine ext_loop (s0 := s) (n := items.size) (J := fun acc h => h.IsRevIter I l ((items.size : Int) - 1 - (acc.length : Int)) ∧ h.IsList l items ∧ acc = items.toList.reverse.take acc.length ∧ ∀ b o, b ≠ I → b ≠ s.heap.objs.size → s.heap.get? b = some o → h.get? b = some o)
    (F := fun acc h => acc = items.toList.reverse ∧ ∀ b o, b ≠ I → b ≠ s.heap.objs.size → s.heap.get? b = some o → h.get? b = some o) .none hz ?_ ?_ ?_ (fun h' acc c hsz hF hS' => ⟨rfl, ?_⟩) items.size #[] h2 _ rfl (Nat.zero_le _) ?_ hS2
  · rintro acc h h' ⟨J1, J2, J3, J4⟩ hSo hz up
    exact ⟨J1.at fun o e => up _ o neI e, J2.at fun o e => up _ o nel e, J3, fun b o n1 n2 e => up b o n2 (J4 b o n1 n2 e)⟩
  · rintro acc s' o Q' E' hlt ⟨J1, J2, J3, J4⟩ hSo k
    have e : items[items.size - 1 - acc.length]? = some (items[items.size - 1 - acc.length]'(by omega)) := Array.getElem?_eq_getElem _
    refine wpAny_pyNext_rev_item (i := items.size - 1 - acc.length) (by rw [show ((items.size - 1 - acc.length : Nat) : Int) = (items.size : Int) - 1 - (acc.length : Int) by omega]; exact J1) J2 e fun h' it' sb => k _ h' ⟨?_, J2.at fun o e => ?_, ?_, fun b o n1 n2 e => ?_⟩ ?_
    · rw [show ((items.size - 1 - acc.length : Nat) : Int) - 1 = (items.size : Int) - 1 - ((acc ++ [items[items.size - 1 - acc.length]'(by omega)]).length : Int) by simp; omega] at it'
      exact it'
    · rw [sb.2 _ ne]; exact e
    · rw [List.length_append, List.length_singleton, List.take_succ, ← J3]
      congr 1
      rw [List.getElem?_eq_getElem (by simp; omega), List.getElem_reverse]
      simp
    · rw [sb.2 b n1]; exact J4 b o n1 n2 e
    · rw [sb.2 _ (Ne.symm neI)]; exact hSo
  · rintro acc s' o Q' E' hlen ⟨J1, J2, J3, J4⟩ hSo k
    rw [hlen] at J3
    refine wpAny_pyNext_rev_end (l := l) (by simp [hh]) (by rw [show (-1 : Int) = (items.size : Int) - 1 - (acc.length : Int) by omega]; exact J1) fun h' eb => k h' ⟨?_, fun b o n1 n2 e => eb b o n1 (J4 b o n1 n2 e)⟩ (eb _ _ (Ne.symm neI) hSo)
    rw [J3, List.take_of_length_le]
    simp
  · exact ⟨by simpa using hi2, hl2, rfl, fun b o _ n2 e => up2 b o n2 e⟩
  · refine q h' c ?_ fun b o n1 e => hF.2 b o n1 (Nat.ne_of_lt (Heap.lt_size e)) e
    rw [hS', ← hF.1]
end
end L2.R2

set_option Elab.async false
set_option linter.all false
set_option maxRecDepth 100000
set_option maxHeartbeats 1000000
namespace L2.R2
open PySem PySem.Spec PyProof.Rows L2
/-! ## sorted(set(..)) and list(reversed(..)) over plain data -/
theorem boot_sorted : bootBuiltins "sorted" = some (.builtin "sorted") := by decide +kernel
theorem boot_set : bootBuiltins "set" = some (.type "set") := by decide +kernel
theorem items_of {prog : Program} {w : World} : ∀ {ns : List Int} {us : List Value}, Vals (ns.map V.int) us → ItemsAre (intKind prog w) ns us
  | [], _, h => by cases h; exact .nil
  | n :: ns, _, h => by
    cases h with
    | cons h1 t =>
      obtain ⟨t', rfl⟩ := h1
      exact .cons (intKind_is _ _ _ _) (items_of t)
def rSortSet (te : RE) : RA := fun ρ Q => te ρ fun x => ∃ nss : List (List Int), x = .lst (nss.map tupI) ∧ nss.length < 64 ∧ (∀ ns ∈ nss, ns ≠ []) ∧ ∀ mss : List (List Int), mss.Pairwise (fun x y => lexB y x = false) → (∀ ns, ns ∈ mss ↔ ns ∈ nss) → mss.length ≤ nss.length → Q (mss.map tupI)
def rListRev (te : RE) : RA := fun ρ Q => te ρ fun x => ∃ ds : List D, x = .lst ds ∧ Q ds.reverse
theorem reps_out {K : PySem.W.Frag} {H : Hp} : ∀ (out : List Value) (mss : List (List Int)), out.length = mss.length → (∀ (i : Nat) (v : Value), out[i]? = some v → ∃ a, v = .ref a ∧ H a = some (.tup ((mss.getD i []).map V.int))) → ∃ ws : List V, Vals ws out ∧ Reps K H (mss.map tupI) ws
  | [], [], _, _ => ⟨[], .nil, .nil⟩
  | [], _ :: _, h, _ => by simp at h
  | _ :: _, [], h, _ => by simp at h
  | v :: out, ms :: mss, h, k => by
    obtain ⟨ws, h1, h2⟩ := reps_out (K := K) (H := H) out mss (by simpa using h) fun i v e => k (i + 1) v (by simpa using e)
    obtain ⟨a, rfl, ha⟩ := k 0 v rfl
    exact ⟨.ref a :: ws, .cons rfl h1, .cons (.tup ha Reps.ints) h2⟩
section
variable {X : Cx} {e : Expr} {te : RE} {p pz pos posz : Pos}
theorem do_sortSet {k : Nat} (hr : Room k X.A) (hms : X.mg "sorted" = none) (hmz : X.mg "set" = none) (hc : X.calm = true) (h : DB X e te) (hgs : Gl X "sorted" := by rfl) (hgz : Gl X "set" := by rfl)
    (hs : starEach [.Call (.Name "set" pz) [e] [] posz] X.env = [(false, eval (.Call (.Name "set" pz) [e] [] posz) X.env)] := by rfl) (hn : starEach [] X.env = [] := by rfl) (h1 : starEach [e] X.env = [(false, eval e X.env)] := by rfl) :
    DO X (.Call (.Name "sorted" p) [.Call (.Name "set" pz) [e] [] posz] [] pos) (rSortSet te) := by
  intro pins s σ H Q I ⟨ρ, P, st, q, kq⟩
  refine wpAny_Call_Name_kw (ld_blt I hgs hms boot_sorted ?_)
  refine PyProof.Rows.callWith_builtin1 ?_ (by rw [hs, hn]) (by rw [hn]; rfl)
  rw [hs]
  show wpAny _ _ (spliced ((false, eval (.Call (.Name "set" pz) [e] [] posz) X.env) :: backTo pos [])) _ _ s
  refine Calls.spliced_cons (wpAny_Call_Name_kw (ld_blt I hgz hmz boot_set ?_))
  refine PyProof.Rows.callWith_type1 (thn (pa_one h h1 hn posz pins s σ H (fun vs H1 => ∃ (nss : List (List Int)) (v : V), vs = [v] ∧ Same H H1 ∧ RepB X.K H1 (.lst (nss.map tupI)) v ∧ nss.length < 64 ∧ (∀ ns ∈ nss, ns ≠ []) ∧ ∀ mss : List (List Int), mss.Pairwise (fun x y => lexB y x = false) → (∀ ns, ns ∈ mss ↔ ns ∈ nss) → mss.length ≤ nss.length → P (mss.map tupI)) I
    ⟨ρ, _, st, q, fun x v H1 hx s1 r1 => ?_⟩) fun us s1 ⟨vs, H1, I1, r1, q1⟩ => ?_) (by rw [h1, hn]) (by rw [hn]; rfl)
  · obtain ⟨nss, rfl, a1, a2, a3⟩ := hx
    exact ⟨nss, v, rfl, s1, r1, a1, a2, a3⟩
  obtain ⟨nss, v, rfl, s01, rb, h64, hne, hP⟩ := q1
  obtain ⟨l, vs, rfl, hq, rr⟩ := rb.lst
  obtain ⟨u, rfl, rx⟩ := vals1 r1
  cases rx
  obtain ⟨its, rv, pl, hz⟩ := I1.list hq
  have l1 := rr.length
  have l2 := rv.length
  rw [List.length_map] at l1
  have each : ∀ (i : Nat) (u : Value), its[i]? = some u → ∃ ns a, nss[i]? = some ns ∧ vs[i]? = some (.ref a) ∧ u = .ref a ∧ IsTupleKey (intKind X.prog X.w) s1.heap ns a := fun i u e => by
    have hi : i < nss.length := by have := (List.getElem?_eq_some_iff.mp e).1; omega
    obtain ⟨v, e1, e2⟩ := rr.get (i := i) (d := tupI nss[i]) (by rw [List.getElem?_map, List.getElem?_eq_getElem hi]; rfl)
    obtain ⟨a, rfl, ha⟩ := Reps.tupI_inv e2
    obtain ⟨u', f1, f2⟩ := rv.get e1
    rw [e] at f1; cases f1
    cases f2
    obtain ⟨ts, g1, g2, _⟩ := I1.tuple (SqT.of (K := X.K) ha)
    obtain ⟨o, go, gc, n, gd⟩ := g2
    exact ⟨_, a, List.getElem?_eq_getElem hi, e1, rfl, o, ts.toArray, n, go, gc, gd, by simpa using items_of g1⟩
  have hu := hr.un
  refine call_set_tups (key := fun i => nss.getD i []) (I1.ok.hd hc) (by omega) pl.isList (fun i u e => ?_) (by simp; omega) fun h2 tk D up => ?_
  · obtain ⟨ns, a, n1, _, rfl, hk⟩ := each i u (by simpa using e)
    refine ⟨a, rfl, ?_⟩
    have : nss.getD i [] = ns := by rw [List.getD_eq_getElem?_getD, n1]; rfl
    rw [this]; exact hk
  refine Calls.spliced_nil ?_
  obtain ⟨es, ST, d1, d2, d3⟩ := D
  have keyAt : ∀ {ns : List Int} {a : Addr}, IsTupleKey (intKind X.prog X.w) s1.heap ns a → IsTupleKey (intKind X.prog X.w) h2 ns a := fun ⟨o, its, n, g1, g2⟩ => ⟨o, its, n, up _ _ g1, g2⟩
  have elem : ∀ e ∈ es.toList, ∃ (i : Nat) (ns : List Int) (a : Addr), nss[i]? = some ns ∧ vs[i]? = some (.ref a) ∧ e.2 = .ref a ∧ IsTupleKey (intKind X.prog X.w) h2 ns a := fun e he => by
    obtain ⟨j, hj, ej⟩ := d1 e he
    obtain ⟨ns, a, n1, n2, n3, hk⟩ := each j e.2 (by simpa using ej)
    exact ⟨j, ns, a, n1, n2, n3, keyAt hk⟩
  refine call_sorted_set (s := { s1 with heap := h2, toks := tk }) (A := X.A) (I1.ok.hd hc) ST (by simp at d3; omega) (nss := nss) hne (fun e he => ?_) fun h3 Dd out mss c big g1 g2 g3 g4 g5 g6 up3 => ?_
  · obtain ⟨i, ns, a, n1, n2, n3, hk⟩ := elem e he
    exact ⟨ns, List.mem_of_getElem? n1, a, n3, hk⟩
  have kp : ∀ b o, s1.heap.get? b = some o → h3.get? b = some o := fun b o e => up3 b o (up b o e)
  have I3 : Inv X pins σ H1 { s1 with heap := h3, toks := tk } := I1.kept kp
  have szS : s1.heap.objs.size < h2.objs.size := by obtain ⟨⟨ep, t, ho, _⟩, _⟩ := ST; exact Heap.lt_size ho
  have big2 : s1.heap.objs.size ≤ Dd := by have : h2.objs.size ≤ Dd := big; omega
  have hS0 : H1 Dd = none := I1.hok.fresh big2
  have tupAt : ∀ {i : Nat} {ns : List Int} {a : Addr}, nss[i]? = some ns → vs[i]? = some (.ref a) → H1 a = some (.tup (ns.map V.int)) := fun {i ns a} n1 n2 => by
    obtain ⟨w, f1, f2⟩ := rr.get (i := i) (d := tupI ns) (by rw [List.getElem?_map, n1]; rfl)
    rw [n2] at f1; cases f1
    obtain ⟨b, e, hb⟩ := Reps.tupI_inv f2
    cases e; exact hb
  obtain ⟨ws, VV, RR⟩ := reps_out (K := X.K) (H := H1) out mss g2.1 fun i v e => by
    obtain ⟨x, hx, ex⟩ := g3 v (List.mem_of_getElem? e)
    obtain ⟨j, ns, a, n1, n2, n3, hk⟩ := elem x hx
    obtain ⟨b, eb, hb⟩ := g2.2 i v e
    rw [← ex, n3] at eb; cases eb
    refine ⟨a, by rw [← ex, n3], ?_⟩
    have hk3 : IsTupleKey (intKind X.prog X.w) h3 ns a := by obtain ⟨o, its, n, q1, q2⟩ := hk; exact ⟨o, its, n, up3 _ _ q1, q2⟩
    rw [hb.inj hk3]
    exact tupAt n1 n2
  have lo : out.length ≤ 64 := by rw [g2.1, g6]; simp at d3; omega
  have lw := VV.length
  have I4 := I1.trackO (a := Dd) (w := .lst ws) I3 big2 hS0 ⟨by rw [sizeLine_eq]; omega, out, c, VV, g1⟩
  refine ⟨.ref Dd, _, I4, rfl, kq _ _ _ H1 (hP mss g5 (fun ns => ?_) (by rw [g6]; simp at d3; omega)) s01 hS0 RR⟩
  rw [g4 ns]
  constructor
  · rintro ⟨x, hx, a, e1, e2⟩
    obtain ⟨j, ms, b, n1, n2, n3, hk⟩ := elem x hx
    rw [e1] at n3; cases n3
    rw [e2.inj hk]; exact List.mem_of_getElem? n1
  · intro h
    obtain ⟨j, hj, rfl⟩ := List.getElem_of_mem h
    obtain ⟨y, hy, b, e1, e2⟩ := d2 j (by simp; omega)
    refine ⟨y, hy, b, e1, ?_⟩
    have : nss.getD j [] = nss[j] := by simp [hj]
    rw [this] at e2; exact e2

theorem do_listRev (hml : X.mg "list" = none) (hmz : X.mg "reversed" = none) (hc : X.calm = true) (h : DB X e te) (hgl : Gl X "list" := by rfl) (hgz : Gl X "reversed" := by rfl)
    (hs : starEach [.Call (.Name "reversed" pz) [e] [] posz] X.env = [(false, eval (.Call (.Name "reversed" pz) [e] [] posz) X.env)] := by rfl) (hn : starEach [] X.env = [] := by rfl) (h1 : starEach [e] X.env = [(false, eval e X.env)] := by rfl) :
    DO X (.Call (.Name "list" p) [.Call (.Name "reversed" pz) [e] [] posz] [] pos) (rListRev te) := by
  intro pins s σ H Q I ⟨ρ, P, st, q, kq⟩
  refine wpAny_Call_Name_kw (ld_blt I hgl hml boot_list ?_)
  refine PyProof.Rows.callWith_type1 ?_ (by rw [hs, hn]) (by rw [hn]; rfl)
  rw [hs]
  show wpAny _ _ (spliced ((false, eval (.Call (.Name "reversed" pz) [e] [] posz) X.env) :: backTo pos [])) _ _ s
  refine Calls.spliced_cons (wpAny_Call_Name_kw (ld_blt I hgz hmz boot_reversed ?_))
  refine PyProof.Rows.callWith_type1 (thn (pa_one h h1 hn posz pins s σ H (fun vs H1 => ∃ (ds : List D) (v : V), vs = [v] ∧ Same H H1 ∧ RepB X.K H1 (.lst ds) v ∧ P ds.reverse) I
    ⟨ρ, _, st, q, fun x v H1 hx s1 r1 => ?_⟩) fun us s1 ⟨vs, H1, I1, r1, q1⟩ => ?_) (by rw [h1, hn]) (by rw [hn]; rfl)
  · obtain ⟨ds, rfl, a1⟩ := hx
    exact ⟨ds, v, rfl, s1, r1, a1⟩
  obtain ⟨ds, v, rfl, s01, rb, hP⟩ := q1
  obtain ⟨l, vs, rfl, hq, rr⟩ := rb.lst
  obtain ⟨u, rfl, rx⟩ := vals1 r1
  cases rx
  obtain ⟨its, rv, pl, hz⟩ := I1.list hq
  have l1 := rr.length
  have l2 := rv.length
  have lt : l < s1.heap.objs.size := by obtain ⟨o, e, _⟩ := pl.isList; exact Heap.lt_size e
  refine call_reversed_list pl.isList ?_
  refine Calls.spliced_nil ?_
  have g0 : (s1.heap.push (revObj l ((its.toArray.size : Int) - 1))).get? s1.heap.objs.size = some (revObj l ((its.toArray.size : Int) - 1)) := Heap.get?_push_size _ rfl
  have k1 : ∀ b o, s1.heap.get? b = some o → (s1.heap.push (revObj l ((its.toArray.size : Int) - 1))).get? b = some o := fun b o e => Heap.get?_push_of_some _ e
  have z1 : (s1.heap.push (revObj l ((its.toArray.size : Int) - 1))).objs.size = s1.heap.objs.size + 1 := Heap.size_push ..
  generalize s1.heap.push (revObj l ((its.toArray.size : Int) - 1)) = h2 at g0 k1 z1
  refine call_list_rev (s := { s1 with heap := h2 }) (A := X.A) (l := l) (I1.ok.hd hc) (Nat.ne_of_lt lt) (by simp; omega) ⟨_, g0, rfl, rfl⟩ (pl.isList.at fun o e => k1 _ o e) fun h3 c g1 up => ?_
  show EP X pins σ Q (.ref h2.objs.size) _
  rw [show (Shared.heap { s1 with heap := h2 }).objs.size = s1.heap.objs.size + 1 from z1] at g1
  rw [z1]
  have kp : ∀ b o, s1.heap.get? b = some o → h3.get? b = some o := fun b o e => up b o (Nat.ne_of_lt (Heap.lt_size e)) (k1 b o e)
  have I3 : Inv X pins σ H1 { s1 with heap := h3 } := I1.kept (t' := s1.toks) kp
  have hS0 : H1 (s1.heap.objs.size + 1) = none := I1.hok.fresh (Nat.le_succ _)
  have VV : Vals vs.reverse its.reverse := by
    clear hq pl hz l1 l2 rr g1 g0
    induction rv with
    | nil => exact .nil
    | cons r t ih =>
      simp only [List.reverse_cons]
      exact Vals.append ih (.cons r .nil)
  have I4 := I1.trackO (a := s1.heap.objs.size + 1) (w := .lst vs.reverse) I3 (Nat.le_succ _) hS0 ⟨by simp; omega, its.reverse, c, VV, by simpa using g1⟩
  exact ⟨.ref (s1.heap.objs.size + 1), _, I4, rfl, kq _ _ _ H1 hP s01 hS0 rr.reverse⟩
end
end L2.R2

set_option Elab.async false
set_option linter.all false
set_option maxRecDepth 100000
namespace L2.R2
open PySem PySem.Spec PyProof.Rows L2
/-- shared_divisor ["one", "other", "larger", "smaller", "rest"] -/
def rd_shared_divisor_b1 : RS :=
  rSeq (rSet 4 (r2 dMod (rVarB 2) (rVarB 3)))
  (rSeq (rSet 2 (rVar 3))
  (rSet 3 (rVar 4)))
def rd_shared_divisor : RS :=
  rSeq (rSet 2 (rCB dAbs (raCons (rVar 0) (raNil))))
  (rSeq (rSet 3 (rCB dAbs (raCons (rVar 1) (raNil))))
  (rSeq (rWhile (rTest (r2 (dEqS true) (rVarB 3) (rC (.int 0)))) (rd_shared_divisor_b1))
  (rRet (rVar 2))))

/-- _law_whole ["_law_found"] -/
def rd__law_whole : RS :=
  rRet (rAndV (r1 (dIsi "int") (rVar 0)) (rNotV (r1 (dIsi "bool") (rVar 0))))

/-- _law_divisor ["_law_one", "_law_other"] -/
def rd__law_divisor_b1 : RS :=
  rPar 0 1 (raCons (rVar 1) (raCons (r2 dMod (rVarB 0) (rVarB 1)) (raNil)))
def rd__law_divisor : RS :=
  rSeq (rSet 0 (rCB dAbs (raCons (rVar 0) (raNil))))
  (rSeq (rSet 1 (rCB dAbs (raCons (rVar 1) (raNil))))
  (rSeq (rWhile (rTest (r2 (dCmp fun i j => decide (j < i)) (rVarB 1) (rC (.int 0)))) (rd__law_divisor_b1))
  (rRet (rVar 0))))

/-- shared_multiple ["one", "other"] -/
def rd_shared_multiple (F_shared_divisor : FD) : RS :=
  rRet (r2 dMul (rVarB 0) (r2 dFdiv (rVarB 1) (rCall F_shared_divisor (raCons (rVar 0) (raCons (rVar 1) (raNil))))))

/-- turn ["one", "middle", "other", "along", "across"] -/
def rd_turn : RS :=
  rSeq (rSet 3 (r2 dMul (r2 dSub (r2 dIx (rVarB 1) (rC (.int 0))) (r2 dIx (rVarB 0) (rC (.int 0)))) (r2 dSub (r2 dIx (rVarB 2) (rC (.int 1))) (r2 dIx (rVarB 0) (rC (.int 1))))))
  (rSeq (rSet 4 (r2 dMul (r2 dSub (r2 dIx (rVarB 1) (rC (.int 1))) (r2 dIx (rVarB 0) (rC (.int 1)))) (r2 dSub (r2 dIx (rVarB 2) (rC (.int 0))) (r2 dIx (rVarB 0) (rC (.int 0))))))
  (rRet (r2 dSub (rVarB 3) (rVarB 4))))

/-- half_round ["points", "chain", "point"] -/
def rd_half_round_b1 : RS :=
  rPopD 1
def rd_half_round_b2 (F_turn : FD) : RS :=
  rSeq (rWhile (rAnd (rTest (r2 (dCmp fun i j => decide (j < i)) (r1 dLen (rVarB 1)) (rC (.int 1)))) (rTest (r2 (dCmp fun i j => decide (i ≤ j)) (rCall F_turn (raCons (r2 dIx (rVarB 1) (r1 dNeg (rC (.int 2)))) (raCons (r2 dIx (rVarB 1) (r1 dNeg (rC (.int 1)))) (raCons (rVar 2) (raNil))))) (rC (.int 0))))) (rd_half_round_b1))
  (rAppD 1 (rVar 2))
def rd_half_round (F_turn : FD) : RS :=
  rSeq (rSetO 1 (rLst (raNil)))
  (rSeq (rFor (riL (rVar 0)) (rgName 2) (rd_half_round_b2 F_turn))
  (rRet (rSlA (rVarB 1) (rNoPart) (rPart (r1 dNeg (rC (.int 1)))))))

/-- outline ["points", "rising"] -/
def rd_outline (F_half_round : FD) : RS :=
  rSeq (rSet 1 ((fun ρ Q => (rSortSet (rVarB 0)) ρ fun ds => Q (.lst ds))))
  (rRet (r2 dAddA (rCall F_half_round (raCons (rVar 1) (raNil))) (rCall F_half_round (raCons ((fun ρ Q => (rListRev (rVarB 1)) ρ fun ds => Q (.lst ds))) (raNil)))))

/-- settled ["share", "points", "corners", "divisor", "x", "y"] -/
def rd_settled_b1 (F_shared_divisor : FD) : RS :=
  rSet 3 (rCall F_shared_divisor (raCons (rCall F_shared_divisor (raCons (rVar 3) (raCons (rVar 4) (raNil)))) (raCons (rVar 5) (raNil))))
def rd_settled (F_outline : FD) (F_shared_divisor : FD) : RS :=
  rSeq (rSet 2 (rCall F_outline (raCons (rVar 1) (raNil))))
  (rSeq (rIfS (rTest (r2 (dCmp fun i j => decide (i < j)) (r1 dLen (rVarB 2)) (rC (.int 3)))) (rRet (rC .non)) (rNext))
  (rSeq (rSet 3 (rVar 0))
  (rSeq (rFor (riL (rVar 2)) (rgTup 2 (rgCons (rgName 4) (rgCons (rgName 5) (rgNil)))) (rd_settled_b1 F_shared_divisor))
  (rRet (rTup (raCons (r2 dFdiv (rVarB 0) (rVarB 3)) (raCons (r1 dTupOf ((fun ρ Q => (rComp (riL (rVar 2)) 2 [3] (rgTup 2 (rgCons (rgName 0) (rgCons (rgName 1) (rgNil)))) (rTup (raCons (r2 dFdiv (rVarB 0) (rVarB 2)) (raCons (r2 dFdiv (rVarB 1) (rVarB 2)) (raNil))))) ρ fun ds => Q (.lst ds)))) (raNil))))))))

/-- _law_numbers ["_law_script", "_law_many", "_law_found", "_law_k", "_law_cell", "_law_at"] -/
def rd__law_numbers_b1 : RS :=
  rSeq (rSet 4 (rC (.int 0)))
  (rSeq (rIfS (rTest (r2 (dCmp fun i j => decide (j < i)) (r1 dLen (rVarB 0)) (rC (.int 0)))) (rSet 4 (r2 dMod (r2 dIx (rVarB 0) (r2 dMod (rVarB 3) (rCB dMin2 (raCons (r1 dLen (rVarB 0)) (raCons (rC (.int 63)) (raNil)))))) (r2 dAdd (r2 dPow (rC (.int 10)) (rC (.int 60))) (rC (.int 7))))) (rNext))
  (rSeq (rSet 5 (r2 dMod (rVarB 3) (rVarB 1)))
  (rSetIx 2 (r2 dMod (r2 dAdd (r2 dAdd (r2 dMul (r2 dIx (rVarB 2) (rVarB 5)) (rC (.int 48271))) (rVarB 4)) (r2 dMul (rVarB 3) (rVarB 3))) (r2 dAdd (r2 dPow (rC (.int 10)) (rC (.int 60))) (rC (.int 7)))) (rVar 5))))
def rd__law_numbers : RS :=
  rSeq (rSetO 2 (rComp (riR1 (raCons (rVar 1) (raNil))) 1 [] (rgName 0) (rC (.int 0))))
  (rSeq (rFor (riR1 (raCons (rCB dMax2 (raCons (rVar 1) (raCons (rCB dMin2 (raCons (r1 dLen (rVarB 0)) (raCons (rC (.int 63)) (raNil)))) (raNil)))) (raNil))) (rgName 3) (rd__law_numbers_b1))
  ((fun E ρ => (rRet (rVar 2)) E (fzAt 2 ρ))))

/-- _law_fraction ["_law_top", "_law_bottom", "_law_most"] -/
def rd__law_fraction (F__law_divisor : FD) : RS :=
  rSeq (rSet 2 (rCall F__law_divisor (raCons (rVar 0) (raCons (rVar 1) (raNil)))))
  (rRet (rTup (raCons (r2 dFdiv (rVarB 0) (rVarB 2)) (raCons (r2 dFdiv (rVarB 1) (rVarB 2)) (raNil)))))

/-- _law_rises ["_law_number", "_law_many", "_law_found", "_law_k"] -/
def rd__law_rises_b1 : RS :=
  rAppD 2 (r2 dAdd (r2 dAdd (r2 dIx (rVarB 2) (r1 dNeg (rC (.int 1)))) (rC (.int 1))) (r2 dMod (r2 dFdiv (rVarB 0) (r2 dAdd (rC (.int 4)) (r2 dMul (rC (.int 3)) (rVarB 3)))) (rC (.int 3))))
def rd__law_rises : RS :=
  rSeq (rSetO 2 (rLst (raCons (r2 dSub (r2 dMod (rVarB 0) (rC (.int 4))) (rC (.int 4))) (raNil))))
  (rSeq (rFor (riR1 (raCons (r2 dSub (rVarB 1) (rC (.int 1))) (raNil))) (rgName 3) (rd__law_rises_b1))
  ((fun E ρ => (rRet (rVar 2)) E (fzAt 2 ρ))))

/-- _law_share ["_law_number"] -/
def rd__law_share_2 : RS :=
  rRet (r2 dIx ((fun ρ Q => (rLst (raCons (rC (.int 1)) (raCons (r2 dAdd (rC (.int 1)) (r2 dMod (r2 dFdiv (rVarB 0) (rC (.int 3))) (rC (.int 12)))) (raCons (r2 dAdd (rC (.int 1)) (r2 dMod (r2 dFdiv (rVarB 0) (rC (.int 3))) (r2 dPow (rC (.int 10)) (rC (.int 9))))) (raNil))))) ρ fun ds => Q (.lst ds))) (r2 dMod (rVarB 0) (rC (.int 3))))

/-- _law_due ["_law_share_here", "_law_ring_here", "_law_most", "_law_x", "_law_y", "_law_corners", "_law_at"] -/
def rd__law_due_b1 (F__law_divisor : FD) : RS :=
  rSet 2 (rCall F__law_divisor (raCons (rCall F__law_divisor (raCons (rVar 2) (raCons (rVar 3) (raNil)))) (raCons (rVar 4) (raNil))))
def rd__law_due (F__law_divisor : FD) : RS :=
  rSeq (rSet 2 (rVar 0))
  (rSeq (rFor (riL (rVar 1)) (rgTup 2 (rgCons (rgName 3) (rgCons (rgName 4) (rgNil)))) (rd__law_due_b1 F__law_divisor))
  (rSeq (rSetO 5 (rComp (riL (rVar 1)) 2 [2] (rgTup 2 (rgCons (rgName 0) (rgCons (rgName 1) (rgNil)))) (rTup (raCons (r2 dFdiv (rVarB 0) (rVarB 2)) (raCons (r2 dFdiv (rVarB 1) (rVarB 2)) (raNil))))))
  (rSeq (rSet 6 (rIndex (rVarB 5) (r1 dMinT (rVarB 5))))
  (rRet (rTup (raCons (r2 dFdiv (rVarB 0) (rVarB 2)) (raCons (r1 dTupOf (r2 dAddA (rSlA (rVarB 5) (rPart (rVar 6)) (rNoPart)) (rSlA (rVarB 5) (rNoPart) (rPart (rVar 6))))) (raNil))))))))

/-- law ["_law_script", "_law_head", "_law_ring_here", "_law_share_here", "_law_corners", "_law_found", "_law_x", "_law_y", "_law_total", "_law_k"] -/
def rd_law_k12_b1 : RS :=
  rSeq (rSet 8 (r2 dAdd (rVarB 8) (r2 dMul (r2 dSub (r2 dIx (r2 dIx (rVarB 4) (r2 dSub (rVarB 9) (rC (.int 1)))) (rC (.int 0))) (rVarB 6)) (r2 dSub (r2 dIx (r2 dIx (rVarB 4) (rVarB 9)) (rC (.int 1))) (rVarB 7)))))
  (rSet 8 (r2 dSub (rVarB 8) (r2 dMul (r2 dSub (r2 dIx (r2 dIx (rVarB 4) (r2 dSub (rVarB 9) (rC (.int 1)))) (rC (.int 1))) (rVarB 7)) (r2 dSub (r2 dIx (r2 dIx (rVarB 4) (rVarB 9)) (rC (.int 0))) (rVarB 6)))))
def rd_law_k12 (F__law_due : FD) (F__law_fraction : FD) (F__law_numbers : FD) (F__law_ring : FD) (F__law_share : FD) (F__law_whole : FD) (F_doubled : FD) : RS :=
  rSeq (rSet 1 (rCall F__law_numbers (raCons (rVar 0) (raCons (rC (.int 8)) (raNil)))))
  (rSeq (rSet 2 (rCall F__law_ring (raCons (rVar 1) (raCons (r2 dIx ((fun ρ Q => (rLst (raCons (rC (.int 10)) (raCons (r2 dPow (rC (.int 10)) (rC (.int 60))) (raNil)))) ρ fun ds => Q (.lst ds))) (r2 dMod (r2 dIx (rVarB 1) (rC (.int 7))) (rC (.int 2)))) (raNil)))))
  (rSeq (rAsg (rCall F__law_due (raCons (rCall F__law_share (raCons (r2 dFdiv (r2 dIx (rVarB 1) (rC (.int 7))) (rC (.int 2))) (raNil))) (raCons (rVar 2) (raNil)))) (rgTup 2 (rgCons (rgName 3) (rgCons (rgName 4) (rgNil)))))
  (rSeq (rSet 5 (rCall F_doubled (raCons (rTup (raCons (rVar 3) (raCons (rVar 4) (raNil)))) (raNil))))
  (rSeq (rAsg (r2 dIx (rVarB 4) (rC (.int 0))) (rgTup 2 (rgCons (rgName 6) (rgCons (rgName 7) (rgNil)))))
  (rSeq (rSet 8 (rC (.int 0)))
  (rSeq (rFor (riR2 (raCons (rC (.int 2)) (raCons (r1 dLen (rVarB 4)) (raNil)))) (rgName 9) (rd_law_k12_b1))
  (rSeq (rIfS (rOr (rNot (rTest (r1 (dIsi "tuple") (rVar 5)))) (rTest (r2 (dNe) (rVarB 5) (rCall F__law_fraction (raCons (rVar 8) (raCons (r2 dMul (rVarB 3) (rVarB 3)) (raNil))))))) (rRet (rC (.bl false))) (rNext))
  (rRet (rAndV (rCall F__law_whole (raCons (r2 dIx (rVarB 5) (rC (.int 0))) (raNil))) (rCall F__law_whole (raCons (r2 dIx (rVarB 5) (rC (.int 1))) (raNil))))))))))))

/-- _law_ring ["_law_head", "_law_far", "_law_lows", "_law_highs", "_law_top", "_law_ring_here", "_law_p", "_law_q", "_law_r", "_law_s", "_law_off"] -/
def rd__law_ring_2 (F__law_rises : FD) : RS :=
  rSeq (rSet 2 (rCall F__law_rises (raCons (r2 dFdiv (r2 dIx (rVarB 0) (rC (.int 0))) (rC (.int 4))) (raCons (r2 dAdd (rC (.int 2)) (r2 dMod (r2 dIx (rVarB 0) (rC (.int 0))) (rC (.int 3)))) (raNil)))))
  (rSeq (rSet 3 (rCall F__law_rises (raCons (r2 dFdiv (r2 dIx (rVarB 0) (rC (.int 1))) (rC (.int 4))) (raCons (r2 dAdd (rC (.int 1)) (r2 dMod (r2 dIx (rVarB 0) (rC (.int 1))) (rC (.int 3)))) (raNil)))))
  (rSeq (rSet 4 (r2 dAdd (r2 dAdd (r2 dMul (rC (.int 2)) (r1 dMaxL ((fun ρ Q => (rComp (riL (r2 dAddA (rVarB 2) (rVarB 3))) 1 [] (rgName 0) (r2 dMul (rVarB 0) (rVarB 0))) ρ fun ds => Q (.lst ds))))) (rC (.int 1))) (r2 dMod (r2 dIx (rVarB 0) (rC (.int 2))) (rC (.int 9)))))
  (rSeq (rSet 5 (r2 dAddA ((fun ρ Q => (rComp (riL (rVar 2)) 1 [] (rgName 0) (rTup (raCons (rVar 0) (raCons (r2 dMul (rVarB 0) (rVarB 0)) (raNil))))) ρ fun ds => Q (.lst ds))) ((fun ρ Q => (rComp (riRev (rVar 3)) 1 [4] (rgName 0) (rTup (raCons (rVar 0) (raCons (r2 dSub (rVarB 1) (r2 dMul (rVarB 0) (rVarB 0))) (raNil))))) ρ fun ds => Q (.lst ds)))))
  (rSeq (rSet 6 (r2 dAdd (rC (.int 1)) (r2 dMod (r2 dIx (rVarB 0) (rC (.int 3))) (rC (.int 3)))))
  (rSeq (rSet 7 (r2 dSub (r2 dMod (r2 dFdiv (r2 dIx (rVarB 0) (rC (.int 3))) (rC (.int 3))) (rC (.int 7))) (rC (.int 3))))
  (rSeq (rSet 8 (r2 dSub (r2 dMod (r2 dIx (rVarB 0) (rC (.int 4))) (rC (.int 7))) (rC (.int 3))))
  (rSeq (rSet 9 (r2 dAdd (r2 dAdd (r2 dFdiv (r2 dMul (rVarB 7) (rVarB 8)) (rVarB 6)) (rC (.int 1))) (r2 dMod (r2 dFdiv (r2 dIx (rVarB 0) (rC (.int 4))) (rC (.int 7))) (rC (.int 3)))))
  (rSeq (rSet 10 (rTup (raCons (r2 dSub (r2 dMod (r2 dIx (rVarB 0) (rC (.int 5))) (r2 dAdd (r2 dMul (rC (.int 2)) (rVarB 1)) (rC (.int 1)))) (rVarB 1)) (raCons (r2 dSub (r2 dMod (r2 dIx (rVarB 0) (rC (.int 6))) (r2 dAdd (r2 dMul (rC (.int 2)) (rVarB 1)) (rC (.int 1)))) (rVarB 1)) (raNil)))))
  (rRet ((fun ρ Q => (rComp (riL (rVar 5)) 2 [6, 7, 10, 8, 9] (rgTup 2 (rgCons (rgName 0) (rgCons (rgName 1) (rgNil)))) (rTup (raCons (r2 dAdd (r2 dAdd (r2 dMul (rVarB 2) (rVarB 0)) (r2 dMul (rVarB 3) (rVarB 1))) (r2 dIx (rVarB 4) (rC (.int 0)))) (raCons (r2 dAdd (r2 dAdd (r2 dMul (rVarB 5) (rVarB 0)) (r2 dMul (rVarB 6) (rVarB 1))) (r2 dIx (rVarB 4) (rC (.int 1)))) (raNil))))) ρ fun ds => Q (.lst ds))))))))))))

/-- pushed ["piece", "move", "dx", "dy", "share", "scale", "right", "up"] -/
def rd_pushed (F_settled : FD) (F_shared_multiple : FD) : RS :=
  rSeq (rSet 2 (r2 dIx (rVarB 1) (rC (.int 1))))
  (rSeq (rSet 3 (r2 dIx (rVarB 1) (rC (.int 2))))
  (rSeq (rSet 4 (rCall F_shared_multiple (raCons (rCall F_shared_multiple (raCons (r2 dIx (rVarB 0) (rC (.int 0))) (raCons (r2 dIx (rVarB 2) (rC (.int 1))) (raNil)))) (raCons (r2 dIx (rVarB 3) (rC (.int 1))) (raNil)))))
  (rSeq (rSet 5 (r2 dMul (r2 dIx (rVarB 1) (rC (.int 0))) (r2 dFdiv (rVarB 4) (r2 dIx (rVarB 0) (rC (.int 0))))))
  (rSeq (rSet 6 (r2 dMul (r2 dIx (rVarB 2) (rC (.int 0))) (r2 dFdiv (rVarB 4) (r2 dIx (rVarB 2) (rC (.int 1))))))
  (rSeq (rSet 7 (r2 dMul (r2 dIx (rVarB 3) (rC (.int 0))) (r2 dFdiv (rVarB 4) (r2 dIx (rVarB 3) (rC (.int 1))))))
  (rRet (rCall F_settled (raCons (rVar 4) (raCons ((fun ρ Q => (rComp (riT (r2 dIx (rVarB 0) (rC (.int 1)))) 2 [5, 6, 7] (rgTup 2 (rgCons (rgName 0) (rgCons (rgName 1) (rgNil)))) (rTup (raCons (r2 dAdd (r2 dMul (rVarB 2) (rVarB 0)) (rVarB 3)) (raCons (r2 dAdd (r2 dMul (rVarB 2) (rVarB 1)) (rVarB 4)) (raNil))))) ρ fun ds => Q (.lst ds))) (raNil))))))))))

/-- _law_way ["_law_number", "_law_top"] -/
def rd__law_way (F__law_fraction : FD) (F__law_share : FD) : RS :=
  rSeq (rSet 1 (r2 dSub (r2 dMod (rVarB 0) (r2 dAdd (r2 dMul (rC (.int 2)) (r2 dPow (rC (.int 10)) (rC (.int 60)))) (rC (.int 1)))) (r2 dPow (rC (.int 10)) (rC (.int 60)))))
  (rSeq (rIfS (rTest (r2 (dEqS false) (r2 dMod (r2 dFdiv (rVarB 0) (rC (.int 3))) (rC (.int 2))) (rC (.int 1)))) (rSet 1 (r2 dSub (r2 dMod (r2 dMod (r2 dMul (rVarB 0) (rC (.int 69621))) (rC (.int 1000003))) (rC (.int 19))) (rC (.int 9)))) (rNext))
  (rRet (rCall F__law_fraction (raCons (rVar 1) (raCons (rCall F__law_share (raCons (r2 dMod (r2 dMul (rVarB 0) (rC (.int 48271))) (rC (.int 1000000007))) (raNil))) (raNil))))))

/-- _law_same ["_law_found", "_law_due_here", "_law_corner"] -/
def rd__law_same_2_b1 (F__law_whole : FD) : RS :=
  rIfS (rOr (rNot (rTest (r1 (dIsi "tuple") (rVar 2)))) (rOr (rNot (rTest (rCall F__law_whole (raCons (r2 dIx (rVarB 2) (rC (.int 0))) (raNil))))) (rNot (rTest (rCall F__law_whole (raCons (r2 dIx (rVarB 2) (rC (.int 1))) (raNil))))))) (rRet (rC (.bl false))) (rNext)
def rd__law_same_2 (F__law_whole : FD) : RS :=
  rSeq (rIfS (rOr (rNot (rTest (r1 (dIsi "tuple") (rVar 0)))) (rOr (rTest (r2 (dNe) (rVarB 0) (rVarB 1))) (rOr (rNot (rTest (rCall F__law_whole (raCons (r2 dIx (rVarB 0) (rC (.int 0))) (raNil))))) (rNot (rTest (r1 (dIsi "tuple") (r2 dIx (rVarB 0) (rC (.int 1))))))))) (rRet (rC (.bl false))) (rNext))
  (rSeq (rFor (riT (r2 dIx (rVarB 0) (rC (.int 1)))) (rgName 2) (rd__law_same_2_b1 F__law_whole))
  (rRet (rC (.bl true))))

/-- law ["_law_script", "_law_head", "_law_ring_here", "_law_share_here", "_law_sign", "_law_dx", "_law_dy", "_law_by", "_law_there", "_law_x", "_law_y", "_law_piece", "_law_found"] -/
def rd_law_k16_b1 : RS :=
  rAppD 8 (rTup (raCons (r2 dAdd (r2 dMul (r2 dMul (rVarB 4) (rVarB 9)) (rVarB 7)) (r2 dMul (r2 dMul (r2 dIx (rVarB 5) (rC (.int 0))) (r2 dIx (rVarB 6) (rC (.int 1)))) (rVarB 3))) (raCons (r2 dAdd (r2 dMul (r2 dMul (rVarB 4) (rVarB 10)) (rVarB 7)) (r2 dMul (r2 dMul (r2 dIx (rVarB 6) (rC (.int 0))) (r2 dIx (rVarB 5) (rC (.int 1)))) (rVarB 3))) (raNil))))
def rd_law_k16 (F__law_due : FD) (F__law_numbers : FD) (F__law_ring : FD) (F__law_same : FD) (F__law_share : FD) (F__law_way : FD) (F_pushed : FD) : RS :=
  rSeq (rSet 1 (rCall F__law_numbers (raCons (rVar 0) (raCons (rC (.int 11)) (raNil)))))
  (rSeq (rSet 2 (rCall F__law_ring (raCons (rVar 1) (raCons (r2 dIx ((fun ρ Q => (rLst (raCons (rC (.int 10)) (raCons (r2 dPow (rC (.int 10)) (rC (.int 60))) (raNil)))) ρ fun ds => Q (.lst ds))) (r2 dMod (r2 dIx (rVarB 1) (rC (.int 7))) (rC (.int 2)))) (raNil)))))
  (rSeq (rSet 3 (rCall F__law_share (raCons (r2 dFdiv (r2 dIx (rVarB 1) (rC (.int 7))) (rC (.int 2))) (raNil))))
  (rSeq (rSet 4 (r2 dSub (rC (.int 1)) (r2 dMul (rC (.int 2)) (r2 dMod (r2 dIx (rVarB 1) (rC (.int 8))) (rC (.int 2))))))
  (rSeq (rSet 5 (rCall F__law_way (raCons (r2 dIx (rVarB 1) (rC (.int 9))) (raNil))))
  (rSeq (rSet 6 (rCall F__law_way (raCons (r2 dIx (rVarB 1) (rC (.int 10))) (raNil))))
  (rSeq (rSet 7 (r2 dMul (r2 dIx (rVarB 5) (rC (.int 1))) (r2 dIx (rVarB 6) (rC (.int 1)))))
  (rSeq (rSetO 8 (rLst (raNil)))
  (rSeq (rFor (riL (rVar 2)) (rgTup 2 (rgCons (rgName 9) (rgCons (rgName 10) (rgNil)))) (rd_law_k16_b1))
  (rSeq (rSet 11 (rCall F__law_due (raCons (rVar 3) (raCons (rVar 2) (raNil)))))
  (rSeq (rSet 12 (rCall F_pushed (raCons (rVar 11) (raCons (rTup (raCons (rVar 4) (raCons (rVar 5) (raCons (rVar 6) (raNil))))) (raNil)))))
  (rSeq ((fun E ρ => (rIfS (rNot (rTest (rCall F__law_same (raCons (rVar 12) (raCons (rCall F__law_due (raCons (r2 dMul (rVarB 3) (rVarB 7)) (raCons (rVar 8) (raNil)))) (raNil)))))) (rRet (rC (.bl false))) (rNext)) E (fzAt 8 ρ)))
  (rRet (rCall F__law_same (raCons (rCall F_pushed (raCons (rVar 12) (raCons (rTup (raCons (rVar 4) (raCons (rTup (raCons (r2 dSub (rC (.int 0)) (r2 dMul (rVarB 4) (r2 dIx (rVarB 5) (rC (.int 0))))) (raCons (r2 dIx (rVarB 5) (rC (.int 1))) (raNil)))) (raCons (rTup (raCons (r2 dSub (rC (.int 0)) (r2 dMul (rVarB 4) (r2 dIx (rVarB 6) (rC (.int 0))))) (raCons (r2 dIx (rVarB 6) (rC (.int 1))) (raNil)))) (raNil))))) (raNil)))) (raCons (rVar 11) (raNil))))))))))))))))

end L2.R2

set_option Elab.async false
set_option linter.all false
set_option maxRecDepth 100000
namespace L2.R2
open PySem PySem.Spec PyProof.Rows L2
theorem atI_0 {α : Type} (x : α) (xs : List α) : atI (x :: xs) 0 = some x := by
  unfold atI ixN; simp
theorem atI_1 {α : Type} (x y : α) (xs : List α) : atI (x :: y :: xs) 1 = some y := by
  unfold atI ixN
  rw [if_pos (by decide), if_pos (by simp only [List.length_cons]; omega)]; rfl
theorem atI_2 {α : Type} (x y z : α) (xs : List α) : atI (x :: y :: z :: xs) 2 = some z := by
  unfold atI ixN
  rw [if_pos (by decide), if_pos (by simp only [List.length_cons]; omega)]; rfl
theorem atI_of {α : Type} {xs : List α} {i : Int} {j : Nat} {x : α} (h : i = (j : Int)) (e : xs[j]? = some x) : atI xs i = some x := by
  subst h; exact atI_nat e
theorem dEq_rd {x y : D} {Q : D → Prop} : dEq x y Q = (match eqF 6 x y with | some b => Q (.bl b) | none => False) := rfl
theorem BL.const {n : Nat} {i : Int} (h : i.natAbs < 2 ^ n := by decide) : BL n i := h
theorem pow_ok {i j : Int} (h : 0 ≤ j ∧ j ≤ 1000000 ∧ i.natAbs < 2 ^ 64 := by decide) : PowOk i j := ⟨h⟩
theorem mod_ok {j : Int} (h : j ≠ 0 := by decide) : ModOk j := ⟨h⟩
theorem le_size {n : Nat} (h : n ≤ 1000) : n ≤ sizeLine := Nat.le_trans h (by decide)
theorem dIx_tup0 {x : D} {xs : List D} {Q : D → Prop} : dIx (.tup (x :: xs)) (.int 0) Q = Q x := by simp only [dIx, atI_0]
theorem dIx_tup1 {x y : D} {xs : List D} {Q : D → Prop} : dIx (.tup (x :: y :: xs)) (.int 1) Q = Q y := by simp only [dIx, atI_1]
theorem dIx_tup2 {x y z : D} {xs : List D} {Q : D → Prop} : dIx (.tup (x :: y :: z :: xs)) (.int 2) Q = Q z := by simp only [dIx, atI_2]
theorem dIx_lst {xs : List D} {i : Int} {Q : D → Prop} {x : D} (e : atI xs i = some x) (h : Q x) : dIx (.lst xs) (.int i) Q := by simp only [dIx, e]; exact h
/-- one of a list's items -/
theorem dIx_any {xs : List D} {i : Int} {Q : D → Prop} (h0 : 0 ≤ i) (h1 : i < xs.length) (h : ∀ x, x ∈ xs → Q x) : dIx (.lst xs) (.int i) Q := by
  have hj : i.toNat < xs.length := by omega
  exact dIx_lst (atI_of (j := i.toNat) (by omega) (List.getElem?_eq_getElem hj)) (h _ (List.getElem_mem hj))
theorem dIx_lk {xs : List D} {k : Nat} {x : D} {Q : D → Prop} (e : xs[k]? = some x) : dIx (.lst xs) (.int (k : Int)) Q = Q x := by simp only [dIx, atI_nat e]
theorem dIx_lst0 {a0 : D} {r : List D} {Q : D → Prop} : dIx (.lst (a0 :: r)) (.int 0) Q = Q a0 := dIx_lk (k := 0) rfl
theorem dIx_lst1 {a0 a1 : D} {r : List D} {Q : D → Prop} : dIx (.lst (a0 :: a1 :: r)) (.int 1) Q = Q a1 := dIx_lk (k := 1) rfl
theorem dIx_lst2 {a0 a1 a2 : D} {r : List D} {Q : D → Prop} : dIx (.lst (a0 :: a1 :: a2 :: r)) (.int 2) Q = Q a2 := dIx_lk (k := 2) rfl
theorem dIx_lst3 {a0 a1 a2 a3 : D} {r : List D} {Q : D → Prop} : dIx (.lst (a0 :: a1 :: a2 :: a3 :: r)) (.int 3) Q = Q a3 := dIx_lk (k := 3) rfl
theorem dIx_lst4 {a0 a1 a2 a3 a4 : D} {r : List D} {Q : D → Prop} : dIx (.lst (a0 :: a1 :: a2 :: a3 :: a4 :: r)) (.int 4) Q = Q a4 := dIx_lk (k := 4) rfl
theorem dIx_lst5 {a0 a1 a2 a3 a4 a5 : D} {r : List D} {Q : D → Prop} : dIx (.lst (a0 :: a1 :: a2 :: a3 :: a4 :: a5 :: r)) (.int 5) Q = Q a5 := dIx_lk (k := 5) rfl
theorem dIx_lst6 {a0 a1 a2 a3 a4 a5 a6 : D} {r : List D} {Q : D → Prop} : dIx (.lst (a0 :: a1 :: a2 :: a3 :: a4 :: a5 :: a6 :: r)) (.int 6) Q = Q a6 := dIx_lk (k := 6) rfl
theorem dIx_lst7 {a0 a1 a2 a3 a4 a5 a6 a7 : D} {r : List D} {Q : D → Prop} : dIx (.lst (a0 :: a1 :: a2 :: a3 :: a4 :: a5 :: a6 :: a7 :: r)) (.int 7) Q = Q a7 := dIx_lk (k := 7) rfl
theorem dIx_lst8 {a0 a1 a2 a3 a4 a5 a6 a7 a8 : D} {r : List D} {Q : D → Prop} : dIx (.lst (a0 :: a1 :: a2 :: a3 :: a4 :: a5 :: a6 :: a7 :: a8 :: r)) (.int 8) Q = Q a8 := dIx_lk (k := 8) rfl
theorem dIx_lst9 {a0 a1 a2 a3 a4 a5 a6 a7 a8 a9 : D} {r : List D} {Q : D → Prop} : dIx (.lst (a0 :: a1 :: a2 :: a3 :: a4 :: a5 :: a6 :: a7 :: a8 :: a9 :: r)) (.int 9) Q = Q a9 := dIx_lk (k := 9) rfl
theorem dIx_lst10 {a0 a1 a2 a3 a4 a5 a6 a7 a8 a9 a10 : D} {r : List D} {Q : D → Prop} : dIx (.lst (a0 :: a1 :: a2 :: a3 :: a4 :: a5 :: a6 :: a7 :: a8 :: a9 :: a10 :: r)) (.int 10) Q = Q a10 := dIx_lk (k := 10) rfl
theorem dIx_lst11 {a0 a1 a2 a3 a4 a5 a6 a7 a8 a9 a10 a11 : D} {r : List D} {Q : D → Prop} : dIx (.lst (a0 :: a1 :: a2 :: a3 :: a4 :: a5 :: a6 :: a7 :: a8 :: a9 :: a10 :: a11 :: r)) (.int 11) Q = Q a11 := dIx_lk (k := 11) rfl
end L2.R2

set_option Elab.async false
set_option linter.all false
set_option maxRecDepth 100000
set_option maxHeartbeats 4000000
namespace L2.R2
open PySem PySem.Spec PyProof.Rows L2
def startN (n : Nat) (ds : List D) : En := ds.map (fun d => some (.d d)) ++ List.replicate n none
theorem startD_eq {N : List Str} {ds : List D} (n : Nat) (h : N.length = ds.length + n) : startD N ds = startN n ds := by
  unfold startD startN; rw [h, Nat.add_sub_cancel_left]
theorem isi_ii {i : Int} : isiD "int" (.int i) = some true := rfl
theorem isi_bi {i : Int} : isiD "bool" (.int i) = some false := rfl
theorem isi_ib {i : Bool} : isiD "int" (.bl i) = some true := rfl
theorem isi_bb {i : Bool} : isiD "bool" (.bl i) = some true := rfl
theorem isi_tt {xs : List D} : isiD "tuple" (.tup xs) = some true := rfl
theorem rep0 {α : Type} {x : α} : List.replicate 0 x = [] := rfl
theorem rep1 {α : Type} {x : α} : List.replicate 1 x = [x] := rfl
theorem rep2 {α : Type} {x : α} : List.replicate 2 x = [x, x] := rfl
theorem rep3 {α : Type} {x : α} : List.replicate 3 x = [x, x, x] := rfl
theorem rep4 {α : Type} {x : α} : List.replicate 4 x = [x, x, x, x] := rfl
theorem rep5 {α : Type} {x : α} : List.replicate 5 x = [x, x, x, x, x] := rfl
theorem rep6 {α : Type} {x : α} : List.replicate 6 x = [x, x, x, x, x, x] := rfl
theorem rep7 {α : Type} {x : α} : List.replicate 7 x = [x, x, x, x, x, x, x] := rfl
theorem rep8 {α : Type} {x : α} : List.replicate 8 x = [x, x, x, x, x, x, x, x] := rfl
theorem rep9 {α : Type} {x : α} : List.replicate 9 x = [x, x, x, x, x, x, x, x, x] := rfl
theorem rep10 {α : Type} {x : α} : List.replicate 10 x = [x, x, x, x, x, x, x, x, x, x] := rfl
theorem rep11 {α : Type} {x : α} : List.replicate 11 x = [x, x, x, x, x, x, x, x, x, x, x] := rfl
theorem rep12 {α : Type} {x : α} : List.replicate 12 x = [x, x, x, x, x, x, x, x, x, x, x, x] := rfl
theorem sz2 : Sz (0 + 1 + 1) := ⟨by decide⟩
theorem sz3 : Sz (0 + 1 + 1 + 1) := ⟨by decide⟩
theorem sz4 : Sz (0 + 1 + 1 + 1 + 1) := ⟨by decide⟩
theorem sz1 : Sz (0 + 1) := ⟨by decide⟩
theorem sz0 : Sz 0 := ⟨by decide⟩
local macro_rules | `(tactic| walk_at "rd") => `(tactic| simp only [rSeq, rNext, rRet, rDrop, rIfS, rSet, rSetO, rPar, rAsg, rgName, rgTup, rgCons, rgNil, rVar, rVarB, rC, r2, r1, rTest, rAnd, rOr, rNot, rAndV, rOrV, rNotV, rIf, raNil, raCons, rTup, rLst, rCall, rCB, rNoPart, rPart, rSlL', rFor, riEn, riL, riT, riR1, riR2,
  dAdd, dSub, dMul, dFdiv, dMod, dPow, dNeg, dCmp, dEqS, dIsN, isNon, dIx_tup0, dIx_tup1, dIx_tup2, dAbs, dInt, dMax2, dMin2, dLen, dIsi, isi_ii, isi_bi, isi_ib, isi_bb, isi_tt, S.val, startN, rep0, rep1, rep2, rep3, rep4, rep5, rep6, rep7, rep8,
  List.map_cons, List.map_nil, List.cons_append, List.nil_append, List.length_cons, List.length_nil, List.getElem?_cons_zero, List.getElem?_cons_succ, List.set_cons_zero, List.set_cons_succ, List.append_nil,
  Bool.or_false, Bool.or_true, Bool.false_or, Bool.true_or, Bool.not_true, Bool.not_false, if_true, if_false, Bool.false_eq_true, sz0, sz1, sz2, sz3, sz4, true_and, decide_eq_true_eq])

/-! ## gcd -/
theorem abs_cast (i : Int) : (if i < 0 then -i else i) = ((i.natAbs : Nat) : Int) := by split <;> omega
theorem fmod_cast (x y : Nat) : ((x : Nat) : Int).fmod (y : Nat) = ((x % y : Nat) : Int) := by
  rw [Int.fmod_eq_emod_of_nonneg _ (Int.natCast_nonneg y)]; exact (Int.natCast_emod x y).symm
def F_gcd : FD := fun ds Q => ∃ a b : Int, ds = [.int a, .int b] ∧ Q (.int (Int.gcd a b : Nat))
theorem len_gcd : ∀ ds Q, F_gcd ds Q → ds.length = 2 := by rintro ds Q ⟨a, b, rfl, _⟩; rfl
theorem loop_law_divisor (E : DEnds) : ∀ (y x : Nat), E.nx [some (.d (.int (Nat.gcd x y : Nat))), some (.d (.int (0 : Nat)))] →
    rWhile (rTest (r2 (dCmp fun i j => decide (j < i)) (rVarB 1) (rC (.int 0)))) rd__law_divisor_b1 E [some (.d (.int (x : Nat))), some (.d (.int (y : Nat)))] := by
  intro y
  induction y using Nat.strongRecOn with
  | ind y ih =>
    intro x h
    cases Nat.eq_zero_or_pos y with
    | inl hy =>
      subst hy
      refine ⟨1, ?_⟩
      unfold whileD
      walk_at "rd"
      rw [if_neg (by decide)]
      rw [Nat.gcd_zero_right] at h
      exact h
    | inr hy =>
      have h2 := ih (x % y) (Nat.mod_lt x hy) y (by
        rw [Nat.gcd_comm y, ← Nat.gcd_rec, Nat.gcd_comm]; exact h)
      obtain ⟨n, hn⟩ := h2
      refine ⟨n + 1, ?_⟩
      unfold whileD rd__law_divisor_b1
      walk_at "rd"
      rw [if_pos (by omega)]
      refine ⟨⟨by omega⟩, ?_⟩
      rw [fmod_cast]
      exact hn
theorem pure_law_divisor : ∀ ds Q, F_gcd ds Q → rd__law_divisor { nx := fun _ => Q .non, rt := Q } (startD ["_law_one", "_law_other"] ds) := by
  rintro ds Q ⟨a, b, rfl, q⟩
  rw [startD_eq 0 rfl]
  unfold rd__law_divisor
  walk_at "rd"
  rw [abs_cast, abs_cast]
  refine loop_law_divisor _ _ _ ?_
  walk_at "rd"
  exact q
theorem loop_shared_divisor (E : DEnds) (u v : Option S) : ∀ (y x : Nat) (r : Option S), (∀ r, E.nx [u, v, some (.d (.int (Nat.gcd x y : Nat))), some (.d (.int (0 : Nat))), r]) →
    rWhile (rTest (r2 (dEqS true) (rVarB 3) (rC (.int 0)))) rd_shared_divisor_b1 E [u, v, some (.d (.int (x : Nat))), some (.d (.int (y : Nat))), r] := by
  intro y
  induction y using Nat.strongRecOn with
  | ind y ih =>
    intro x r h
    cases Nat.eq_zero_or_pos y with
    | inl hy =>
      subst hy
      refine ⟨1, ?_⟩
      unfold whileD
      walk_at "rd"
      rw [if_neg (by simp)]
      rw [Nat.gcd_zero_right] at h
      exact h r
    | inr hy =>
      obtain ⟨n, hn⟩ := ih (x % y) (Nat.mod_lt x hy) y (some (.d (.int ((x % y : Nat))))) (by
        rw [Nat.gcd_comm y, ← Nat.gcd_rec, Nat.gcd_comm]; exact h)
      refine ⟨n + 1, ?_⟩
      unfold whileD rd_shared_divisor_b1
      walk_at "rd"
      rw [if_pos (by simp; omega)]
      refine ⟨⟨by omega⟩, ?_⟩
      rw [fmod_cast]
      exact hn
theorem pure_shared_divisor : ∀ ds Q, F_gcd ds Q → rd_shared_divisor { nx := fun _ => Q .non, rt := Q } (startD ["one", "other", "larger", "smaller", "rest"] ds) := by
  rintro ds Q ⟨a, b, rfl, q⟩
  rw [startD_eq 3 rfl]
  unfold rd_shared_divisor
  walk_at "rd"
  rw [abs_cast, abs_cast]
  refine loop_shared_divisor _ _ _ _ _ _ fun r => ?_
  walk_at "rd"
  exact q
end L2.R2

set_option Elab.async false
set_option linter.all false
set_option maxRecDepth 100000
set_option maxHeartbeats 4000000
namespace L2.R2
open PySem PySem.Spec PyProof.Rows L2
local macro_rules | `(tactic| walk_at "rd") => `(tactic| simp only [rSeq, rNext, rRet, rDrop, rIfS, rSet, rSetO, rPar, rAsg, rgName, rgTup, rgCons, rgNil, rVar, rVarB, rC, r2, r1, rTest, rAnd, rOr, rNot, rAndV, rOrV, rNotV, rIf, raNil, raCons, rTup, rLst, rCall, rCB, rNoPart, rPart, rSlL', rFor, riEn, riL, riT, riR1, riR2, rComp, compD, capE, capO, fzAt, rAppD, rPopD, rSetIx, rZip, seqD, rSlA, dAddA, dListOf, dTupOf, dSum, dNe, rIndex, riRev, riZip,
  dAdd, dSub, dMul, dFdiv, dMod, dPow, dNeg, dCmp, dEqS, dIsN, dEq_rd, isNon, dIx_tup0, dIx_tup1, dIx_tup2, dIx_lst0, dIx_lst1, dIx_lst2, dIx_lst3, dIx_lst4, dIx_lst5, dIx_lst6, dIx_lst7, dIx_lst8, dIx_lst9, dIx_lst10, dIx_lst11, dAbs, dInt, dMax2, dMin2, dLen, dIsi, isi_ii, isi_bi, isi_ib, isi_bb, isi_tt, S.val, startN, rep0, rep1, rep2, rep3, rep4, rep5, rep6, rep7, rep8, rep9, rep10, rep11, rep12,
  List.map_cons, List.map_nil, List.cons_append, List.nil_append, List.length_cons, List.length_nil, List.getElem?_cons_zero, List.getElem?_cons_succ, List.set_cons_zero, List.set_cons_succ, List.append_nil,
  Bool.or_false, Bool.or_true, Bool.false_or, Bool.true_or, Bool.not_true, Bool.not_false, if_true, if_false, Bool.false_eq_true, sz0, sz1, sz2, sz3, sz4, true_and, decide_eq_true_eq, Int.reduceToNat, Int.reducePow, Int.reduceMul, Int.reduceSub, Int.reduceAdd, Int.reduceNeg])
local macro_rules | `(tactic| walk_at "side") => `(tactic| first | exact pow_ok | exact mod_ok | exact (BL.const (n := 9000) (by decide)).divOk (by decide) | exact (BL.const (n := 300) (by decide)).mulOk (BL.const (n := 300) (by decide)))
local macro_rules | `(tactic| walk_at "sides") => `(tactic| repeat (refine And.intro (by walk_at "side") ?_))
/-! ## fractions -/
abbrev fr (a b : Int) : D := .tup [.int a, .int b]
theorem gcd_pos {a b : Int} (h : b ≠ 0) : 0 < (Int.gcd a b : Int) := by
  have : 0 < Int.gcd a b := Int.gcd_pos_of_ne_zero_right a h
  omega
theorem BL.gcd {n : Nat} {a b : Int} (hb : b ≠ 0) (h : BL n b) : BL n (Int.gcd a b : Int) := by
  refine h.le ?_
  rw [Int.natAbs_natCast]
  exact Nat.le_of_dvd (by omega) (Int.gcd_dvd_natAbs_right a b)
/-- the reduced fraction of a over b: what is left by the divisor g -/
structure Low (a b p q : Int) : Prop where
  pos : 0 < q
  cop : Int.gcd p q = 1
  worth : p * b = a * q
  lea : p.natAbs ≤ a.natAbs
  leb : q.natAbs ≤ b.natAbs
theorem low_pos {a b : Int} (hb : 0 < b) : Low a b (a.fdiv (Int.gcd a b : Nat)) (b.fdiv (Int.gcd a b : Nat)) := by
  have hg : 0 < (Int.gcd a b : Int) := gcd_pos (by omega)
  have ea : ((Int.gcd a b : Nat) : Int) ∣ a := Int.gcd_dvd_left ..
  have eb : ((Int.gcd a b : Nat) : Int) ∣ b := Int.gcd_dvd_right ..
  rw [Int.fdiv_eq_ediv_of_nonneg _ (by omega), Int.fdiv_eq_ediv_of_nonneg _ (by omega)]
  have e1 : a / (Int.gcd a b : Int) * (Int.gcd a b : Int) = a := Int.ediv_mul_cancel ea
  have e2 : b / (Int.gcd a b : Int) * (Int.gcd a b : Int) = b := Int.ediv_mul_cancel eb
  have hc : Int.gcd (a / (Int.gcd a b : Int)) (b / (Int.gcd a b : Int)) = 1 := Int.gcd_ediv_gcd_ediv_gcd (by omega)
  generalize (Int.gcd a b : Int) = g at *
  generalize a / g = p at *
  generalize b / g = q at *
  subst e1 e2
  refine ⟨?_, hc, by rw [Int.mul_assoc, Int.mul_comm q g], ?_, ?_⟩
  · exact Int.pos_of_mul_pos_left hb (by omega)
  · rw [Int.natAbs_mul]; exact Nat.le_mul_of_pos_right _ (by omega)
  · rw [Int.natAbs_mul]; exact Nat.le_mul_of_pos_right _ (by omega)
/-! ratio -/
/-! plus, minus, times -/
/-- a plain fraction of at most n bits, on both sides -/
structure Fr (n : Nat) (a b : Int) : Prop where
  pos : 0 < b
  top : BL n a
  bot : BL n b
  cop : Int.gcd a b = 1
/-! ## the laws' own helpers -/
def F_low : FD := fun ds Q => ∃ a b : Int, ds = [.int a, .int b] ∧ (0 < b ∧ BL 9000 b) ∧ ∀ p q, Low a b p q → Q (fr p q)
theorem len_low : ∀ ds Q, F_low ds Q → ds.length = 2 := by rintro ds Q ⟨a, b, rfl, _⟩; rfl
def F_whole : FD := fun ds Q => ∃ a : Int, ds = [.int a] ∧ Q (.bl true)
theorem len_whole : ∀ ds Q, F_whole ds Q → ds.length = 1 := by rintro ds Q ⟨a, rfl, _⟩; rfl
theorem pure_law_whole : ∀ ds Q, F_whole ds Q → rd__law_whole { nx := fun _ => Q .non, rt := Q } (startD ["_law_found"] ds) := by
  rintro ds Q ⟨a, rfl, q⟩
  rw [startD_eq 0 rfl]
  unfold rd__law_whole
  walk_at "rd"
  exact q
theorem fmod_range {a b : Int} (h : 0 < b) : 0 ≤ a.fmod b ∧ a.fmod b < b := ⟨Int.fmod_nonneg_of_pos a h, Int.fmod_lt_of_pos a h⟩
theorem len_law : ∀ ds Q, FLaw 63 ds Q → ds.length = 1 := by rintro ds Q ⟨a, rfl, _⟩; rfl
end L2.R2

set_option Elab.async false
set_option linter.all false
set_option maxRecDepth 100000
set_option maxHeartbeats 4000000
namespace L2.R2
open PySem PySem.Spec PyProof.Rows L2
/-! ## loops and comprehensions -/
theorem for_ind {g : RG} {t : RS} {E : DEnds} (J : List D → En → Prop)
    (step : ∀ x xs ρ, J (x :: xs) ρ → ∀ F : DEnds, F.rt = E.rt → F.bk = E.nx → (∀ ρ', J xs ρ' → F.nx ρ') → (∀ ρ', J xs ρ' → F.ct ρ') → g x ρ fun ρ1 => t F ρ1) (last : ∀ ρ, J [] ρ → E.nx ρ) : ∀ xs ρ, J xs ρ → forD g t xs E ρ
  | [], ρ, h => last ρ h
  | x :: xs, ρ, h => step x xs ρ h _ rfl rfl (fun ρ' h' => for_ind J step last xs ρ' h') fun ρ' h' => for_ind J step last xs ρ' h'
theorem comp_acc {α : Type} {g : RG} {te : RE} (R : En → Prop) (enc f : α → D) : ∀ (src : List α) {Q : List D → Prop}, (∀ a ∈ src, ∀ ρ, R ρ → ∀ K : En → D → Prop, (∀ ρ1, R ρ1 → K ρ1 (f a)) → g (enc a) ρ fun ρ1 => te ρ1 fun d => K ρ1 d) →
    ∀ (ρ : En) (acc : List D), R ρ → Q (acc ++ src.map f) → compD g te (src.map enc) ρ acc Q
  | [], Q, _, ρ, acc, _, q => by
    show Q acc
    simpa using q
  | a :: src, Q, step, ρ, acc, h, q => by
    show g (enc a) ρ fun ρ' => te ρ' fun d => compD g te (src.map enc) ρ' (acc ++ [d]) Q
    refine step a List.mem_cons_self ρ h (fun ρ1 d => compD g te (src.map enc) ρ1 (acc ++ [d]) Q) fun ρ1 h1 => ?_
    exact comp_acc R enc f src (fun b hb => step b (List.mem_cons_of_mem _ hb)) ρ1 _ h1 (by simpa using q)
theorem comp_src {α : Type} {g : RG} {te : RE} (R : En → Prop) (enc f : α → D) (src : List α) {Q : List D → Prop} {ρ : En} (step : ∀ a ∈ src, ∀ ρ, R ρ → ∀ K : En → D → Prop, (∀ ρ1, R ρ1 → K ρ1 (f a)) → g (enc a) ρ fun ρ1 => te ρ1 fun d => K ρ1 d)
    (h : R ρ) (q : Q (src.map f)) : compD g te (src.map enc) ρ [] Q := comp_acc R enc f src step ρ [] h (by simpa using q)
abbrev il (ns : List Int) : D := .lst (ns.map .int)
abbrev pt (p : Int × Int) : D := .tup [.int p.1, .int p.2]
abbrev pts (ps : List (Int × Int)) : D := .lst (ps.map pt)
theorem dIx_il {ns : List Int} {i : Int} {Q : D → Prop} (h0 : 0 ≤ i) (h1 : i < ns.length) (q : ∀ n ∈ ns, Q (.int n)) : dIx (il ns) (.int i) Q := by
  refine dIx_any h0 (by simpa using h1) fun x hx => ?_
  obtain ⟨n, hn, rfl⟩ := List.mem_map.mp hx
  exact q n hn
theorem sz_le {n : Nat} (h : n ≤ 100000) : Sz n := ⟨Nat.le_trans h (by decide)⟩
theorem ixN_in {n : Nat} {i : Int} (h0 : 0 ≤ i) (h1 : i < n) : ixN n i = some i.toNat := by
  unfold ixN
  rw [if_pos h0, if_pos (by omega)]
local macro_rules | `(tactic| walk_at "rd") => `(tactic| simp only [rSeq, rNext, rRet, rDrop, rIfS, rSet, rSetO, rPar, rAsg, rgName, rgTup, rgCons, rgNil, rVar, rVarB, rC, r2, r1, rTest, rAnd, rOr, rNot, rAndV, rOrV, rNotV, rIf, raNil, raCons, rTup, rLst, rCall, rCB, rNoPart, rPart, rSlL', rFor, riEn, riL, riT, riR1, riR2, rComp, compD, capE, capO, fzAt, rAppD, rPopD, rSetIx, rZip, seqD, rSlA, dAddA, dListOf, dTupOf, dSum, dNe, rIndex, riRev, riZip,
  dAdd, dSub, dMul, dFdiv, dMod, dPow, dNeg, dCmp, dEqS, dIsN, dEq_rd, isNon, dIx_tup0, dIx_tup1, dIx_tup2, dIx_lst0, dIx_lst1, dIx_lst2, dIx_lst3, dIx_lst4, dIx_lst5, dIx_lst6, dIx_lst7, dIx_lst8, dIx_lst9, dIx_lst10, dIx_lst11, dAbs, dInt, dMax2, dMin2, dLen, dIsi, isi_ii, isi_bi, isi_ib, isi_bb, isi_tt, S.val, startN, rep0, rep1, rep2, rep3, rep4, rep5, rep6, rep7, rep8, rep9, rep10, rep11, rep12,
  List.map_cons, List.map_nil, List.cons_append, List.nil_append, List.length_cons, List.length_nil, List.getElem?_cons_zero, List.getElem?_cons_succ, List.set_cons_zero, List.set_cons_succ, List.append_nil,
  Bool.or_false, Bool.or_true, Bool.false_or, Bool.true_or, Bool.not_true, Bool.not_false, if_true, if_false, Bool.false_eq_true, sz0, sz1, sz2, sz3, sz4, true_and, decide_eq_true_eq, Int.reduceToNat, Int.reducePow, Int.reduceMul, Int.reduceSub, Int.reduceAdd, Int.reduceNeg])
local macro_rules | `(tactic| walk_at "side") => `(tactic| first | exact pow_ok | exact mod_ok | exact (BL.const (n := 9000) (by decide)).divOk (by decide) | exact (BL.const (n := 300) (by decide)).mulOk (BL.const (n := 300) (by decide)))
local macro_rules | `(tactic| walk_at "sides") => `(tactic| repeat (refine And.intro (by walk_at "side") ?_))
/-! ## the law's own numbers -/
abbrev big : Int := 1000000000000000000000000000000000000000000000000000000000007
structure Drawn (m : Nat) (xs : List Int) : Prop where
  len : xs.length = m
  lo : ∀ x ∈ xs, 0 ≤ x
  hi : ∀ x ∈ xs, x < big
theorem Drawn.bl {m : Nat} {xs : List Int} (h : Drawn m xs) {x : Int} (hx : x ∈ xs) : BL 200 x := by
  have h0 := h.lo x hx
  have h1 := h.hi x hx
  have e : big < ((2 ^ 200 : Nat) : Int) := by decide
  exact BL.of_lt (by omega) (by omega)
def F_numbers : FD := fun ds Q => ∃ (ns : List Int) (m : Nat), ds = [il ns, .int m] ∧ (ns.length ≤ 100 ∧ 1 ≤ m ∧ m ≤ 100) ∧ ∀ xs, Drawn m xs → Q (il xs)
theorem len_numbers : ∀ ds Q, F_numbers ds Q → ds.length = 2 := by rintro ds Q ⟨a, b, rfl, _⟩; rfl
def numbers_tail : RS := rSeq (rSet 5 (r2 dMod (rVarB 3) (rVarB 1)))
  (rSetIx 2 (r2 dMod (r2 dAdd (r2 dAdd (r2 dMul (r2 dIx (rVarB 2) (rVarB 5)) (rC (.int 48271))) (rVarB 4)) (r2 dMul (rVarB 3) (rVarB 3))) (r2 dAdd (r2 dPow (rC (.int 10)) (rC (.int 60))) (rC (.int 7)))) (rVar 5))
theorem numbers_b1 : rd__law_numbers_b1 = rSeq (rSet 4 (rC (.int 0)))
  (rSeq (rIfS (rTest (r2 (dCmp fun i j => decide (j < i)) (r1 dLen (rVarB 0)) (rC (.int 0)))) (rSet 4 (r2 dMod (r2 dIx (rVarB 0) (r2 dMod (rVarB 3) (rCB dMin2 (raCons (r1 dLen (rVarB 0)) (raCons (rC (.int 63)) (raNil)))))) (r2 dAdd (r2 dPow (rC (.int 10)) (rC (.int 60))) (rC (.int 7))))) (rNext)) numbers_tail) := rfl
theorem loop_numbers {ns : List Int} {m : Nat} (hm : 1 ≤ m ∧ m ≤ 100) {E : DEnds} (q : ∀ xs a b c, Drawn m xs → E.nx [some (.d (il ns)), some (.d (.int m)), some (.own (xs.map .int)), a, b, c]) (xs : List D) (ρ : En)
    (hx : ∀ x ∈ xs, ∃ j : Int, x = .int j ∧ 0 ≤ j ∧ j ≤ 1000) (hρ : ∃ ys a b c, ρ = [some (.d (il ns)), some (.d (.int m)), some (.own (ys.map .int)), a, b, c] ∧ Drawn m ys) : forD (rgName 3) rd__law_numbers_b1 xs E ρ := by
  refine for_ind (fun xs ρ => (∀ x ∈ xs, ∃ j : Int, x = .int j ∧ 0 ≤ j ∧ j ≤ 1000) ∧ ∃ ys a b c, ρ = [some (.d (il ns)), some (.d (.int m)), some (.own (ys.map .int)), a, b, c] ∧ Drawn m ys) ?_ ?_ xs ρ ⟨hx, hρ⟩
  · rintro x xs ρ ⟨hx, ys, a, b, c, rfl, hd⟩ F _ _ hn _
    obtain ⟨j, rfl, j0, j1⟩ := hx x List.mem_cons_self
    have hx' : ∀ x ∈ xs, ∃ j : Int, x = .int j ∧ 0 ≤ j ∧ j ≤ 1000 := fun x h => hx x (List.mem_cons_of_mem _ h)
    have done : ∀ cell : Int, numbers_tail F [some (.d (il ns)), some (.d (.int m)), some (.own (ys.map .int)), some (.d (.int j)), some (.d (.int cell)), c] := fun cell => by
      unfold numbers_tail
      walk_at "rd"
      have hm' : (0 : Int) < m := by omega
      obtain ⟨a0, a1⟩ := fmod_range (a := j) hm'
      refine ⟨⟨by omega⟩, ?_⟩
      refine dIx_il a0 (by rw [hd.len]; exact a1) fun y hy => ?_
      have by' := hd.bl hy
      refine ⟨by'.mulOk (BL.const (n := 20)), (BL.of_lt (m := 20) (by omega) (by omega)).mulOk (BL.of_lt (m := 20) (by omega) (by omega)), ?_⟩
      walk_at "sides"
      obtain ⟨e0, e1⟩ := fmod_range (a := y * 48271 + cell + j * j) (b := big) (by decide)
      generalize (y * 48271 + cell + j * j).fmod big = z at *
      generalize j.fmod m = i at *
      rw [ixN_in a0 (by simpa [hd.len] using a1)]
      refine hn _ ⟨hx', ys.set i.toNat z, _, _, _, by rw [← List.map_set], ⟨by simpa using hd.len, fun x hx => ?_, fun x hx => ?_⟩⟩
      · rcases List.mem_or_eq_of_mem_set hx with h | rfl
        · exact hd.lo x h
        · exact e0
      · rcases List.mem_or_eq_of_mem_set hx with h | rfl
        · exact hd.hi x h
        · exact e1
    rw [numbers_b1]
    walk_at "rd"
    split
    · rename_i hl
      have hl' : 0 < ns.length := by simpa using hl
      have hpos : (0 : Int) < (if (63 : Int) < ((ns.map D.int).length : Int) then 63 else ((ns.map D.int).length : Int)) := by split <;> simp <;> omega
      obtain ⟨a0, a1⟩ := fmod_range (a := j) hpos
      have a2 : (if (63 : Int) < ((ns.map D.int).length : Int) then 63 else ((ns.map D.int).length : Int)) ≤ ns.length := by split <;> simp at * <;> omega
      exact ⟨⟨Int.ne_of_gt hpos⟩, dIx_il a0 (Int.lt_of_lt_of_le a1 a2) fun y _ => ⟨pow_ok, mod_ok, done _⟩⟩
    · exact done 0
  · rintro ρ ⟨_, ys, a, b, c, rfl, hd⟩
    exact q ys a b c hd
theorem mem_rangeD {lo : Int} {n : Nat} {x : D} (h : x ∈ rangeD lo n) : ∃ j : Int, x = .int j ∧ lo ≤ j ∧ j < lo + n := by
  unfold rangeD at h
  obtain ⟨k, hk, rfl⟩ := List.mem_map.mp h
  have := List.mem_range.mp hk
  exact ⟨_, rfl, by omega, by omega⟩
theorem rangeD_len {lo : Int} {n : Nat} : (rangeD lo n).length = n := by simp [rangeD]
theorem pure_law_numbers : ∀ ds Q, F_numbers ds Q → rd__law_numbers { nx := fun _ => Q .non, rt := Q } (startD ["_law_script", "_law_many", "_law_found", "_law_k", "_law_cell", "_law_at"] ds) := by
  rintro ds Q ⟨ns, m, rfl, ⟨hn, hm⟩, q⟩
  rw [startD_eq 4 rfl]
  unfold rd__law_numbers
  walk_at "rd"
  refine ⟨⟨by omega, by omega⟩, sz_le (by rw [rangeD_len]; omega), ?_⟩
  unfold rangeD
  refine comp_src (fun ρ => ∃ a, ρ = [a]) (fun k : Nat => D.int (0 + (k : Int))) (fun _ => D.int 0) _ ?_ ⟨_, rfl⟩ ?_
  · rintro a _ ρ ⟨b, rfl⟩ K hK
    exact hK _ ⟨_, rfl⟩
  · have len : (ns.map D.int).length = ns.length := by simp
    have e0 : ∃ M : Int, (if (m : Int) < (if (63 : Int) < ((ns.map D.int).length : Int) then 63 else ((ns.map D.int).length : Int)) then (if (63 : Int) < ((ns.map D.int).length : Int) then 63 else ((ns.map D.int).length : Int)) else (m : Int)) = M ∧ 0 ≤ M ∧ M ≤ 100 := ⟨_, rfl, by rw [len]; split <;> (try split) <;> omega, by rw [len]; split <;> (try split) <;> omega⟩
    obtain ⟨M, eM, M0, M1⟩ := e0
    rw [eM]
    refine ⟨⟨by omega, by omega⟩, ?_⟩
    refine loop_numbers (ns := ns) hm (fun xs a b c hd => ?_) _ _ (fun x hx => ?_) ⟨List.replicate m 0, none, none, none, ?_, ⟨by simp, fun x hx => ?_, fun x hx => ?_⟩⟩
    · walk_at "rd"
      exact q xs hd
    · obtain ⟨j, rfl, j0, j1⟩ := mem_rangeD hx
      exact ⟨j, rfl, j0, by omega⟩
    · congr 5
      apply List.ext_getElem
      · simp
      · intro i h1 h2; simp
    · rw [(List.mem_replicate.mp hx).2]; decide
    · rw [(List.mem_replicate.mp hx).2]; decide
theorem atI_last {α : Type} {xs : List α} {x : α} (h : xs.getLast? = some x) : atI xs (-1) = some x := by
  have hne : xs ≠ [] := fun e => by rw [e] at h; cases h
  have hl : 0 < xs.length := List.length_pos_iff.mpr hne
  unfold atI ixN
  rw [if_neg (by decide), if_pos (by omega)]
  rw [List.getLast?_eq_getElem?] at h
  show xs[((-1 : Int) + (xs.length : Int)).toNat]? = some x
  rw [← h]; congr 1; omega
/-! ## rising numbers -/
structure Rises (xs : List Int) : Prop where
  first : ∀ a, xs[0]? = some a → -4 ≤ a ∧ a ≤ -1
  step : ∀ (i : Nat) a b, xs[i]? = some a → xs[i + 1]? = some b → a + 1 ≤ b ∧ b ≤ a + 3
theorem Rises.snoc {xs : List Int} {a b : Int} (h : Rises xs) (hl : xs.getLast? = some a) (h1 : a + 1 ≤ b) (h2 : b ≤ a + 3) : Rises (xs ++ [b]) := by
  have hne : 0 < xs.length := by
    cases xs with
    | nil => cases hl
    | cons _ _ => simp
  refine ⟨fun x e => h.first x (by rwa [List.getElem?_append_left hne] at e), fun i x y e1 e2 => ?_⟩
  by_cases hi : i + 1 < xs.length
  · rw [List.getElem?_append_left hi] at e2
    rw [List.getElem?_append_left (by omega)] at e1
    exact h.step i x y e1 e2
  · have hi2 : i + 1 = xs.length := by
      have := (List.getElem?_eq_some_iff.mp e2).1
      simp at this; omega
    rw [hi2, List.getElem?_append_right (Nat.le_refl _)] at e2
    simp at e2; subst e2
    rw [List.getElem?_append_left (by omega)] at e1
    rw [List.getLast?_eq_getElem?, ← hi2] at hl
    simp at hl
    rw [hl] at e1; cases e1
    exact ⟨h1, h2⟩
theorem Rises.bound {xs : List Int} (h : Rises xs) : ∀ (i : Nat) a, xs[i]? = some a → -4 ≤ a ∧ a ≤ 3 * (i : Int) - 1
  | 0, a, e => by have := h.first a e; omega
  | i + 1, a, e => by
    have hi : i < xs.length := by have := (List.getElem?_eq_some_iff.mp e).1; omega
    have e1 : xs[i]? = some xs[i] := List.getElem?_eq_getElem hi
    have b := Rises.bound h i _ e1
    have c := h.step i _ _ e1 e
    omega
def F_rises : FD := fun ds Q => ∃ n m : Int, ds = [.int n, .int m] ∧ (1 ≤ m ∧ m ≤ 40) ∧ ∀ xs, Rises xs → (xs.length : Int) = m → Q (il xs)
theorem len_rises : ∀ ds Q, F_rises ds Q → ds.length = 2 := by rintro ds Q ⟨a, b, rfl, _⟩; rfl
theorem pure_law_rises : ∀ ds Q, F_rises ds Q → rd__law_rises { nx := fun _ => Q .non, rt := Q } (startD ["_law_number", "_law_many", "_law_found", "_law_k"] ds) := by
  rintro ds Q ⟨n, m, rfl, ⟨hm1, hm2⟩, q⟩
  rw [startD_eq 2 rfl]
  unfold rd__law_rises
  walk_at "rd"
  walk_at "sides"
  refine ⟨⟨by omega, by omega⟩, ?_⟩
  obtain ⟨a0, a1⟩ := fmod_range (a := n) (b := 4) (by decide)
  generalize n.fmod 4 = c at *
  refine for_ind (fun xs ρ => (∀ x ∈ xs, ∃ j : Int, x = .int j ∧ 0 ≤ j ∧ j ≤ 1000) ∧ ∃ (ys : List Int) (u : Option S), ρ = [some (.d (.int n)), some (.d (.int m)), some (.own (ys.map .int)), u] ∧ Rises ys ∧ ys ≠ [] ∧ (ys.length + xs.length : Int) = m) ?_ ?_ _ _ ⟨fun x hx => ?_, [c - 4], none, rfl, ⟨fun a e => ?_, fun i a b e1 e2 => ?_⟩, by simp, ?_⟩
  · rintro x xs ρ ⟨hx, ys, u, rfl, hr, hne, hl⟩ F _ _ hn _
    obtain ⟨j, rfl, j0, j1⟩ := hx x List.mem_cons_self
    unfold rd__law_rises_b1
    walk_at "rd"
    have hlast : ys.getLast? = some (ys.getLast hne) := List.getLast?_eq_some_getLast hne
    refine dIx_lst (x := .int (ys.getLast hne)) (atI_last (by rw [List.getLast?_map, hlast]; rfl)) ?_
    walk_at "rd"
    obtain ⟨b0, b1⟩ := fmod_range (a := n.fdiv (4 + 3 * j)) (b := 3) (by decide)
    generalize (n.fdiv (4 + 3 * j)).fmod 3 = z at *
    have b4 : BL 9000 (4 + 3 * j) := (BL.of_lt (m := 20) (by omega) (by omega)).mono (by decide)
    refine ⟨(BL.const (n := 20)).mulOk (BL.of_lt (m := 20) (i := j) (by omega) (by omega)), b4.divOk (by omega), mod_ok, sz_le ?_, ?_⟩
    · simp at hl ⊢; omega
    · refine hn _ ⟨fun x h => hx x (List.mem_cons_of_mem _ h), ys ++ [ys.getLast hne + 1 + z], some (.d (.int j)), by simp, hr.snoc hlast (by omega) (by omega), by simp, ?_⟩
      simp at hl ⊢; omega
  · rintro ρ ⟨_, ys, u, rfl, hr, hne, hl⟩
    walk_at "rd"
    exact q ys hr (by simpa using hl)
  · obtain ⟨j, rfl, j0, j1⟩ := mem_rangeD hx
    exact ⟨j, rfl, j0, by omega⟩
  · simp at e; subst e; omega
  · simp at e2
  · rw [rangeD_len]; simp; omega
/-! ## reading a list that is written out -/
/-! ## the ring -/
abbrev aff (p q r s ox oy : Int) (z : Int × Int) : Int × Int := (p * z.1 + q * z.2 + ox, r * z.1 + s * z.2 + oy)
def bowed (lows highs : List Int) (top : Int) : List (Int × Int) := lows.map (fun x => (x, x * x)) ++ highs.reverse.map fun x => (x, top - x * x)
structure RingForm (lows highs : List Int) (top p q r s ox oy : Int) : Prop where
  lowsR : Rises lows
  highsR : Rises highs
  lowsN : 2 ≤ lows.length ∧ lows.length ≤ 21
  highsN : 1 ≤ highs.length ∧ highs.length ≤ 3
  topL : ∀ x ∈ lows ++ highs, 2 * (x * x) + 1 ≤ top
  topH : top ≤ 10000
  pB : 1 ≤ p ∧ p ≤ 3
  qB : -3 ≤ q ∧ q ≤ 3
  rB : -3 ≤ r ∧ r ≤ 3
  sB : -9 ≤ s ∧ s ≤ 12
  det : 0 < p * s - q * r
  oxB : BL 202 ox
  oyB : BL 202 oy
abbrev ringOf (lows highs : List Int) (top p q r s ox oy : Int) : List (Int × Int) := (bowed lows highs top).map (aff p q r s ox oy)
theorem seq_by {t u : RS} {E : DEnds} {ρ : En} (I : En → Prop) (h1 : ∀ K : En → Prop, (∀ ρ', I ρ' → K ρ') → t { E with nx := K } ρ) (h2 : ∀ ρ', I ρ' → u E ρ') : rSeq t u E ρ := h1 (u E) h2
def F_ring : FD := fun ds Q => ∃ (h0 h1 h2 h3 h4 h5 h6 : Int) (rest : List D) (far : Int), ds = [.lst (.int h0 :: .int h1 :: .int h2 :: .int h3 :: .int h4 :: .int h5 :: .int h6 :: rest), .int far] ∧ (0 ≤ far ∧ BL 200 far) ∧
  ∀ lows highs top p q r s ox oy, RingForm lows highs top p q r s ox oy → Q (pts (ringOf lows highs top p q r s ox oy))
theorem len_ring : ∀ ds Q, F_ring ds Q → ds.length = 2 := by rintro ds Q ⟨_, _, _, _, _, _, _, _, _, rfl, _⟩; rfl
theorem sq_nn (x : Int) : 0 ≤ x * x := by
  rcases Int.le_total 0 x with h | h
  · exact Int.mul_nonneg h h
  · have := Int.mul_nonneg (Int.neg_nonneg.mpr h) (Int.neg_nonneg.mpr h)
    rwa [Int.neg_mul_neg] at this
theorem off_bl {a far : Int} (h0 : 0 ≤ far) (h : BL 200 far) : BL 202 (a.fmod (2 * far + 1) - far) := by
  obtain ⟨a0, a1⟩ := fmod_range (a := a) (b := 2 * far + 1) (by omega)
  have : far.natAbs < 2 ^ 200 := h
  refine BL.of_lt (m := 202) ?_ ?_
  · have : (far.natAbs : Int) < ((2 ^ 200 : Nat) : Int) := by exact_mod_cast this
    have e : ((2 ^ 200 : Nat) : Int) < ((2 ^ 202 : Nat) : Int) := by decide
    omega
  · have : (far.natAbs : Int) < ((2 ^ 200 : Nat) : Int) := by exact_mod_cast this
    have e : ((2 ^ 200 : Nat) : Int) < ((2 ^ 202 : Nat) : Int) := by decide
    omega
end L2.R2

set_option Elab.async false
set_option linter.all false
set_option maxRecDepth 100000
set_option maxHeartbeats 4000000
namespace L2.R2
open PySem PySem.Spec PyProof.Rows L2
local macro_rules | `(tactic| walk_at "rd") => `(tactic| simp only [rSeq, rNext, rRet, rDrop, rIfS, rSet, rSetO, rPar, rAsg, rgName, rgTup, rgCons, rgNil, rVar, rVarB, rC, r2, r1, rTest, rAnd, rOr, rNot, rAndV, rOrV, rNotV, rIf, raNil, raCons, rTup, rLst, rCall, rCB, rNoPart, rPart, rSlL', rFor, riEn, riL, riT, riR1, riR2, rComp, compD, capE, capO, fzAt, rAppD, rPopD, rSetIx, rZip, seqD, rSlA, dAddA, dListOf, dTupOf, dSum, dNe, rIndex, riRev, riZip,
  dAdd, dSub, dMul, dFdiv, dMod, dPow, dNeg, dCmp, dEqS, dIsN, dEq_rd, isNon, dIx_tup0, dIx_tup1, dIx_tup2, dIx_lst0, dIx_lst1, dIx_lst2, dIx_lst3, dIx_lst4, dIx_lst5, dIx_lst6, dIx_lst7, dIx_lst8, dIx_lst9, dIx_lst10, dIx_lst11, dAbs, dInt, dMax2, dMin2, dLen, dIsi, isi_ii, isi_bi, isi_ib, isi_bb, isi_tt, S.val, startN, rep0, rep1, rep2, rep3, rep4, rep5, rep6, rep7, rep8, rep9, rep10, rep11, rep12,
  List.map_cons, List.map_nil, List.cons_append, List.nil_append, List.length_cons, List.length_nil, List.getElem?_cons_zero, List.getElem?_cons_succ, List.set_cons_zero, List.set_cons_succ, List.append_nil,
  Bool.or_false, Bool.or_true, Bool.false_or, Bool.true_or, Bool.not_true, Bool.not_false, if_true, if_false, Bool.false_eq_true, sz0, sz1, sz2, sz3, sz4, true_and, decide_eq_true_eq, Int.reduceToNat, Int.reducePow, Int.reduceMul, Int.reduceSub, Int.reduceAdd, Int.reduceNeg])
local macro_rules | `(tactic| walk_at "side") => `(tactic| first | exact pow_ok | exact mod_ok | exact (BL.const (n := 9000) (by decide)).divOk (by decide) | exact (BL.const (n := 300) (by decide)).mulOk (BL.const (n := 300) (by decide)))
local macro_rules | `(tactic| walk_at "sides") => `(tactic| repeat (refine And.intro (by walk_at "side") ?_))
/-! ## a share, a fraction -/
def F_share : FD := fun ds Q => ∃ n : Int, ds = [.int n] ∧ ∀ s, 1 ≤ s → s ≤ 1000000000 → Q (.int s)
theorem len_share : ∀ ds Q, F_share ds Q → ds.length = 1 := by rintro ds Q ⟨_, rfl, _⟩; rfl
theorem pure_law_share_2 : ∀ ds Q, F_share ds Q → rd__law_share_2 { nx := fun _ => Q .non, rt := Q } (startD ["_law_number"] ds) := by
  rintro ds Q ⟨n, rfl, q⟩
  rw [startD_eq 0 rfl]
  unfold rd__law_share_2
  walk_at "rd"
  walk_at "sides"
  obtain ⟨a0, a1⟩ := fmod_range (a := n) (b := 3) (by decide)
  obtain ⟨b0, b1⟩ := fmod_range (a := n.fdiv 3) (b := 12) (by decide)
  obtain ⟨c0, c1⟩ := fmod_range (a := n.fdiv 3) (b := 1000000000) (by decide)
  refine dIx_any a0 (by simpa using a1) fun x hx => ?_
  simp only [List.mem_cons, List.not_mem_nil, or_false] at hx
  rcases hx with rfl | rfl | rfl
  · exact q _ (by decide) (by decide)
  · exact q _ (by omega) (by omega)
  · exact q _ (by omega) (by omega)
theorem pure_law_fraction : ∀ ds Q, F_low ds Q → rd__law_fraction F_gcd { nx := fun _ => Q .non, rt := Q } (startD ["_law_top", "_law_bottom", "_law_most"] ds) := by
  rintro ds Q ⟨a, b, rfl, ⟨h0, hb⟩, q⟩
  rw [startD_eq 1 rfl]
  unfold rd__law_fraction
  walk_at "rd"
  refine ⟨a, b, rfl, ?_⟩
  have hg := gcd_pos (a := a) (b := b) (by omega)
  have bg := BL.gcd (a := a) (b := b) (by omega) hb
  walk_at "rd"
  exact ⟨bg.divOk (by omega), bg.divOk (by omega), q _ _ (low_pos h0)⟩
/-! ## the piece that is due -/
structure DueOf (share : Int) (cs : List (Int × Int)) (m sh : Int) (ds : List (Int × Int)) (j : Nat) : Prop where
  mpos : 0 < m
  sh_eq : share = m * sh
  cs_eq : cs = ds.map fun z => (m * z.1, m * z.2)
  j_lt : j < ds.length
  least : ∀ z ∈ ds, ∀ w, ds[j]? = some w → HT.lexLt [z.1, z.2] [w.1, w.2] = false
  cop : ∀ d : Nat, (d : Int) ∣ sh → (∀ z ∈ ds, (d : Int) ∣ z.1 ∧ (d : Int) ∣ z.2) → d = 1
abbrev turned {α : Type} (j : Nat) (ds : List α) : List α := ds.drop j ++ ds.take j
def F_due : FD := fun ds Q => ∃ (share : Int) (cs : List (Int × Int)), ds = [.int share, pts cs] ∧ (0 < share ∧ BL 100 share) ∧ (cs ≠ [] ∧ cs.length ≤ 100) ∧
  ∀ m sh zs j, DueOf share cs m sh zs j → Q (.tup [.int sh, .tup ((turned j zs).map pt)])
theorem len_due : ∀ ds Q, F_due ds Q → ds.length = 2 := by rintro ds Q ⟨_, _, rfl, _⟩; rfl
structure GcdOf (share : Int) (zs : List (Int × Int)) (g : Nat) : Prop where
  pos : 0 < g
  sh : (g : Int) ∣ share
  all : ∀ z ∈ zs, (g : Int) ∣ z.1 ∧ (g : Int) ∣ z.2
  most : ∀ d : Nat, (d : Int) ∣ share → (∀ z ∈ zs, (d : Int) ∣ z.1 ∧ (d : Int) ∣ z.2) → d ∣ g
theorem GcdOf.bl {share : Int} {zs : List (Int × Int)} {g : Nat} (h : GcdOf share zs g) (hs : 0 < share) {n : Nat} (b : BL n share) : BL n (g : Int) := by
  refine b.le ?_
  have := Int.le_of_dvd hs h.sh
  omega
theorem GcdOf.snoc {share : Int} {zs : List (Int × Int)} {g : Nat} (h : GcdOf share zs g) (z : Int × Int) : GcdOf share (zs ++ [z]) (Int.gcd (Int.gcd g z.1 : Nat) z.2) := by
  have d1 : ((Int.gcd (Int.gcd g z.1 : Nat) z.2 : Nat) : Int) ∣ ((Int.gcd g z.1 : Nat) : Int) := Int.gcd_dvd_left ..
  have d2 : ((Int.gcd g z.1 : Nat) : Int) ∣ (g : Int) := Int.gcd_dvd_left ..
  have d3 : ((Int.gcd g z.1 : Nat) : Int) ∣ z.1 := Int.gcd_dvd_right ..
  have d4 : ((Int.gcd (Int.gcd g z.1 : Nat) z.2 : Nat) : Int) ∣ z.2 := Int.gcd_dvd_right ..
  have dg := Int.dvd_trans d1 d2
  refine ⟨?_, Int.dvd_trans dg h.sh, fun w hw => ?_, fun d e1 e2 => ?_⟩
  · have := h.pos
    have h1 : 0 < Int.gcd g z.1 := Int.gcd_pos_of_ne_zero_left _ (by omega)
    exact Int.gcd_pos_of_ne_zero_left _ (by omega)
  · rcases List.mem_append.mp hw with h' | h'
    · obtain ⟨a, b⟩ := h.all w h'
      exact ⟨Int.dvd_trans dg a, Int.dvd_trans dg b⟩
    · rw [List.mem_singleton.mp h']
      exact ⟨Int.dvd_trans d1 d3, d4⟩
  · obtain ⟨a, b⟩ := e2 z (by simp)
    have := h.most d e1 fun w hw => e2 w (List.mem_append_left _ hw)
    have h1 : (d : Int) ∣ ((Int.gcd g z.1 : Nat) : Int) := Int.dvd_coe_gcd (by exact_mod_cast this) a
    exact_mod_cast Int.dvd_coe_gcd h1 b
theorem cutD_from {xs : List D} {j : Nat} (h : j ≤ xs.length) : cutD xs (some (j : Int)) none = xs.drop j := by
  unfold cutD
  rw [HT.sIx_nat, HT.sIx_none, Nat.min_eq_left h, List.take_of_length_le (by simp)]
theorem cutD_to {xs : List D} {j : Nat} (h : j ≤ xs.length) : cutD xs none (some (j : Int)) = xs.take j := by
  unfold cutD
  rw [HT.sIx_nat, HT.sIx_none, Nat.min_eq_left h]; simp
theorem eqF_pt (z w : Int × Int) : eqF 6 (pt z) (pt w) = some (decide (z = w)) := by
  obtain ⟨a, b⟩ := z
  obtain ⟨c, d⟩ := w
  simp only [eqF, eqL]
  congr 1
  by_cases h1 : a = c <;> by_cases h2 : b = d <;> simp [h1, h2]
theorem pure_law_due : ∀ ds Q, F_due ds Q → rd__law_due F_gcd { nx := fun _ => Q .non, rt := Q } (startD ["_law_share_here", "_law_ring_here", "_law_most", "_law_x", "_law_y", "_law_corners", "_law_at"] ds) := by
  rintro ds Q ⟨share, cs, rfl, ⟨hs, bs⟩, ⟨hne, hlen⟩, q⟩
  rw [startD_eq 5 rfl]
  unfold rd__law_due
  simp only [startN, rep5, List.map_cons, List.map_nil, List.cons_append, List.nil_append]
  refine seq_by (fun ρ => ρ = [some (.d (.int share)), some (.d (pts cs)), some (.d (.int share)), none, none, none, none]) (fun K hK => ?_) ?_
  · walk_at "rd"
    exact hK _ rfl
  rintro ρ rfl
  refine seq_by (fun ρ => ∃ (g : Nat) (x y : Option S), GcdOf share cs g ∧ ρ = [some (.d (.int share)), some (.d (pts cs)), some (.d (.int g)), x, y, none, none]) (fun K hK => ?_) ?_
  · walk_at "rd"
    refine for_ind (fun xs ρ => ∃ (done rest : List (Int × Int)) (g : Nat) (x y : Option S), cs = done ++ rest ∧ xs = rest.map pt ∧ GcdOf share done g ∧ ρ = [some (.d (.int share)), some (.d (pts cs)), some (.d (.int g)), x, y, none, none]) ?_ ?_ _ _ ⟨[], cs, share.toNat, none, none, rfl, rfl, ⟨by omega, ?_, by simp, fun d e1 _ => ?_⟩, ?_⟩
    · rintro x xs ρ ⟨done, rest, g, u, v, e, ex, hg, rfl⟩ F _ _ hn _
      cases rest with
      | nil => cases ex
      | cons z rest =>
        cases ex
        unfold rd__law_due_b1
        walk_at "rd"
        refine ⟨_, _, rfl, _, _, rfl, ?_⟩
        exact hn _ ⟨done ++ [z], rest, _, _, _, by simpa using e, rfl, hg.snoc z, rfl⟩
    · rintro ρ ⟨done, rest, g, u, v, e, ex, hg, rfl⟩
      have : rest = [] := by simpa using ex.symm
      subst this
      rw [List.append_nil] at e
      subst e
      exact hK _ ⟨g, u, v, hg, rfl⟩
    · have : (share.toNat : Int) = share := by omega
      rw [this]; exact Int.dvd_refl _
    · have : (share.toNat : Int) = share := by omega
      exact_mod_cast (by rw [this]; exact e1 : (d : Int) ∣ (share.toNat : Int))
    · have : (share.toNat : Int) = share := by omega
      rw [this]
  rintro ρ ⟨g, x, y, hg, rfl⟩
  have gp : (0 : Int) < g := by have := hg.pos; omega
  have gb : BL 9000 (g : Int) := (hg.bl hs bs).mono (by decide)
  -- the corners
  obtain ⟨zs, ez⟩ : ∃ zs, zs = cs.map fun z => (z.1 / (g : Int), z.2 / (g : Int)) := ⟨_, rfl⟩
  have ec : cs = zs.map fun z => ((g : Int) * z.1, (g : Int) * z.2) := by
    rw [ez, List.map_map]
    symm
    conv => rhs; rw [← List.map_id cs]
    refine List.map_congr_left fun z hz => ?_
    obtain ⟨a, b⟩ := hg.all z hz
    simp only [Function.comp, id, Int.mul_ediv_cancel' a, Int.mul_ediv_cancel' b]
  refine seq_by (fun ρ => ρ = [some (.d (.int share)), some (.d (pts cs)), some (.d (.int g)), x, y, some (.own (zs.map pt)), none]) (fun K hK => ?_) ?_
  · walk_at "rd"
    refine ⟨sz_le (by simp; omega), ?_⟩
    refine comp_src (fun ρ => ∃ a b, ρ = [a, b, some (.d (.int g))]) pt (fun z => pt (z.1 / (g : Int), z.2 / (g : Int))) cs ?_ ⟨_, _, rfl⟩ ?_
    · rintro z hz ρ ⟨a, b, rfl⟩ K' hK'
      walk_at "rd"
      refine ⟨gb.divOk (by omega), gb.divOk (by omega), ?_⟩
      rw [Int.fdiv_eq_ediv_of_nonneg _ (by omega), Int.fdiv_eq_ediv_of_nonneg _ (by omega)]
      exact hK' _ ⟨_, _, rfl⟩
    · refine hK _ ?_
      rw [ez, List.map_map]; rfl
  rintro ρ rfl
  have lz : zs.length = cs.length := by rw [ez]; simp
  have hz : zs ≠ [] := by intro e; rw [e] at lz; exact hne (List.length_eq_zero_iff.mp lz.symm)
  refine seq_by (fun ρ => ∃ j : Nat, (j < zs.length ∧ ∀ z ∈ zs, ∀ w, zs[j]? = some w → HT.lexLt [z.1, z.2] [w.1, w.2] = false) ∧ ρ = [some (.d (.int share)), some (.d (pts cs)), some (.d (.int g)), x, y, some (.own (zs.map pt)), some (.d (.int j))]) (fun K hK => ?_) ?_
  · walk_at "rd"
    refine ⟨⟨_, rfl⟩, zs.map fun z => [z.1, z.2], by rw [List.map_map]; rfl, by simpa using hz, fun M hM hmin => ?_⟩
    obtain ⟨w, hw, rfl⟩ := List.mem_map.mp hM
    have hlt : zs.findIdx (fun z => decide (z = w)) < zs.length := List.findIdx_lt_length_of_exists ⟨w, hw, by simp⟩
    have hat := List.findIdx_getElem (w := hlt)
    have hat' : zs[zs.findIdx (fun z => decide (z = w))] = w := by simpa using hat
    refine ⟨zs.findIdx (fun z => decide (z = w)), ⟨pt w, ?_, ?_⟩, fun i d hi ed => ?_, fun d hd => ?_, hK _ ⟨_, ⟨hlt, fun z hz v ev => ?_⟩, rfl⟩⟩
    · rw [List.getElem?_map, List.getElem?_eq_getElem hlt, hat']; rfl
    · show eqF 6 (pt w) (pt w) = _
      rw [eqF_pt]; simp
    · rw [List.getElem?_map] at ed
      cases e : zs[i]? with
      | none => rw [e] at ed; cases ed
      | some z =>
        rw [e] at ed; cases ed
        show eqF 6 (pt z) (pt w) = _
        have hil : i < zs.length := (List.getElem?_eq_some_iff.mp e).1
        have := List.not_of_lt_findIdx hi
        rw [eqF_pt]
        have e2 : zs[i] = z := by rw [List.getElem?_eq_getElem hil] at e; exact Option.some.inj e
        rw [e2] at this
        simpa using this
    · obtain ⟨z, _, rfl⟩ := List.mem_map.mp hd
      exact ⟨_, eqF_pt z w⟩
    · rw [List.getElem?_eq_getElem hlt, hat'] at ev; cases ev
      exact hmin _ (List.mem_map.mpr ⟨z, hz, rfl⟩)
  rintro ρ ⟨j, ⟨hj, hleast⟩, rfl⟩
  walk_at "rd"
  have lm : (zs.map pt).length = zs.length := by simp
  rw [cutD_from (by omega), cutD_to (by omega)]
  refine ⟨gb.divOk (by omega), sz_le (by simp; omega), ?_⟩
  rw [Int.fdiv_eq_ediv_of_nonneg _ (by omega)]
  have := q g (share / g) zs j ⟨gp, (Int.mul_ediv_cancel' hg.sh).symm, ec, hj, hleast, fun d e1 e2 => ?_⟩
  · rw [List.map_append, List.map_drop, List.map_take] at this
    exact this
  · have h1 : ((g * d : Nat) : Int) ∣ share := by
      rw [← Int.mul_ediv_cancel' hg.sh]
      push_cast
      exact Int.mul_dvd_mul (Int.dvd_refl _) e1
    have h2 := hg.most (g * d) h1 fun z hz => by
      rw [ec] at hz
      obtain ⟨w, hw, rfl⟩ := List.mem_map.mp hz
      obtain ⟨a, b⟩ := e2 w hw
      push_cast
      exact ⟨Int.mul_dvd_mul (Int.dvd_refl _) a, Int.mul_dvd_mul (Int.dvd_refl _) b⟩
    have h3 := Nat.le_of_dvd hg.pos h2
    have h4 : d ≠ 0 := fun e => by
      subst e
      simp at h2
      have := hg.pos; omega
    have h5 := hg.pos
    rcases Nat.lt_or_ge 1 d with h | h
    · have : g * 2 ≤ g * d := Nat.mul_le_mul_left _ h
      omega
    · omega
end L2.R2

set_option linter.all false
namespace L2.R2

abbrev Pt := Int × Int
def turnP (a b c : Pt) : Int := (b.1 - a.1) * (c.2 - a.2) - (b.2 - a.2) * (c.1 - a.1)
def ltP (a b : Pt) : Prop := a.1 < b.1 ∨ (a.1 = b.1 ∧ a.2 < b.2)
instance (a b : Pt) : Decidable (ltP a b) := by unfold ltP; infer_instance

theorem ltP_irr {a : Pt} : ¬ ltP a a := by unfold ltP; omega
theorem ltP_trans {a b c : Pt} (h : ltP a b) (k : ltP b c) : ltP a c := by unfold ltP at *; omega
theorem ltP_tri (a b : Pt) : ltP a b ∨ a = b ∨ ltP b a := by
  unfold ltP
  rcases Int.lt_trichotomy a.1 b.1 with h | h | h
  · omega
  · rcases Int.lt_trichotomy a.2 b.2 with k | k | k
    · omega
    · exact Or.inr (Or.inl (Prod.ext h k))
    · omega
  · omega
theorem ltP_asymm {a b : Pt} (h : ltP a b) : ¬ ltP b a := fun k => ltP_irr (ltP_trans h k)

-- vectors that point to the right, or straight up
def LP (x y : Int) : Prop := 0 < x ∨ (x = 0 ∧ 0 < y)
theorem LP_of_lt {a b : Pt} (h : ltP a b) : LP (b.1 - a.1) (b.2 - a.2) := by unfold ltP at h; unfold LP; omega
theorem LP_add {x y x' y' : Int} (h : LP x y) (k : LP x' y') : LP (x + x') (y + y') := by unfold LP at *; omega
theorem LP_smul {k x y : Int} (hk : 0 < k) (h : LP x y) : LP (k * x) (k * y) := by
  unfold LP at *
  rcases h with h | ⟨h, h'⟩
  · exact Or.inl (Int.mul_pos hk h)
  · exact Or.inr ⟨by rw [h, Int.mul_zero], Int.mul_pos hk h'⟩
theorem LP_pos {k x y : Int} (h : LP x y) (hk : LP (k * x) (k * y)) : 0 < k := by
  unfold LP at *
  rcases h with h | ⟨h, h'⟩
  · rcases hk with hk | ⟨hk, _⟩
    · exact Int.pos_of_mul_pos_left hk h |> fun h => h
    · rcases Int.mul_eq_zero.mp hk with e | e
      · subst e; simp at *; 
      · omega
  · subst h
    rcases hk with hk | ⟨_, hk⟩
    · simp at hk
    · exact Int.pos_of_mul_pos_left hk h'
theorem LP_cross_add {ux uy vx vy wx wy : Int} (hu : LP ux uy) (hv : LP vx vy) (hw : LP wx wy) (h : 0 < ux * vy - uy * vx) (k : 0 < vx * wy - vy * wx) :
    0 < ux * (vy + wy) - uy * (vx + wx) ∧ 0 < (ux + vx) * wy - (uy + vy) * wx := by
  constructor
  · refine LP_pos hv (?_ : LP _ _)
    have := LP_add (LP_smul h (LP_add hv hw)) (LP_smul k hu)
    have e1 : (ux * (vy + wy) - uy * (vx + wx)) * vx = (ux * vy - uy * vx) * (vx + wx) + (vx * wy - vy * wx) * ux := by grind
    have e2 : (ux * (vy + wy) - uy * (vx + wx)) * vy = (ux * vy - uy * vx) * (vy + wy) + (vx * wy - vy * wx) * uy := by grind
    rw [e1, e2]; exact this
  · refine LP_pos hv (?_ : LP _ _)
    have := LP_add (LP_smul h hw) (LP_smul k (LP_add hu hv))
    have e1 : ((ux + vx) * wy - (uy + vy) * wx) * vx = (ux * vy - uy * vx) * wx + (vx * wy - vy * wx) * (ux + vx) := by grind
    have e2 : ((ux + vx) * wy - (uy + vy) * wx) * vy = (ux * vy - uy * vx) * wy + (vx * wy - vy * wx) * (uy + vy) := by grind
    rw [e1, e2]; exact this

theorem turn_far {a b c d : Pt} (ab : ltP a b) (bc : ltP b c) (cd : ltP c d) (h : 0 < turnP a b c) (k : 0 < turnP b c d) : 0 < turnP a b d ∧ 0 < turnP a c d := by
  have := LP_cross_add (LP_of_lt ab) (LP_of_lt bc) (LP_of_lt cd) (by unfold turnP at h; grind) (by unfold turnP at k; grind)
  unfold turnP
  constructor
  · have := this.1; grind
  · have := this.2; grind

theorem vertex_turn {a0 b c0 a p : Pt} (h0 : ltP b c0) (ha : ltP a b) (hp : ltP b p) (hc : 0 < turnP a0 b c0) (h1 : 0 ≤ turnP a0 b a) (h2 : 0 ≤ turnP b c0 a) (h3 : 0 ≤ turnP a0 b p) (h4 : 0 ≤ turnP b c0 p) : 0 < turnP a b p := by
  have A := LP_of_lt ha; have P := LP_of_lt hp; have U2 := LP_of_lt h0
  have hc' : 0 < (b.1 - a0.1) * (c0.2 - b.2) - (b.2 - a0.2) * (c0.1 - b.1) := by have e : turnP a0 b c0 = (b.1 - a0.1) * (c0.2 - b.2) - (b.2 - a0.2) * (c0.1 - b.1) := by { unfold turnP; grind }
                                                                                 rw [← e]; exact hc
  have m0 : 0 ≤ -((b.1 - a0.1) * (b.2 - a.2) - (b.2 - a0.2) * (b.1 - a.1)) := by
    have e : turnP a0 b a = -((b.1 - a0.1) * (b.2 - a.2) - (b.2 - a0.2) * (b.1 - a.1)) := by unfold turnP; grind
    rw [← e]; exact h1
  have x0 : 0 ≤ (b.1 - a.1) * (c0.2 - b.2) - (b.2 - a.2) * (c0.1 - b.1) := by
    have e : turnP b c0 a = (b.1 - a.1) * (c0.2 - b.2) - (b.2 - a.2) * (c0.1 - b.1) := by unfold turnP; grind
    rw [← e]; exact h2
  have y0 : 0 ≤ (b.1 - a0.1) * (p.2 - b.2) - (b.2 - a0.2) * (p.1 - b.1) := by
    have e : turnP a0 b p = (b.1 - a0.1) * (p.2 - b.2) - (b.2 - a0.2) * (p.1 - b.1) := by unfold turnP; grind
    rw [← e]; exact h3
  have n0 : 0 ≤ (c0.1 - b.1) * (p.2 - b.2) - (c0.2 - b.2) * (p.1 - b.1) := by
    have e : turnP b c0 p = (c0.1 - b.1) * (p.2 - b.2) - (c0.2 - b.2) * (p.1 - b.1) := by unfold turnP; grind
    rw [← e]; exact h4
  have goal : turnP a b p = (b.1 - a.1) * (p.2 - b.2) - (b.2 - a.2) * (p.1 - b.1) := by unfold turnP; grind
  rw [goal]
  clear goal h1 h2 h3 h4 hc h0 ha hp
  generalize b.1 - a0.1 = ux at *
  generalize b.2 - a0.2 = uy at *
  generalize c0.1 - b.1 = vx at *
  generalize c0.2 - b.2 = vy at *
  generalize b.1 - a.1 = ax at *
  generalize b.2 - a.2 = ay at *
  generalize p.1 - b.1 = px at *
  generalize p.2 - b.2 = py at *
  generalize eC : ux * vy - uy * vx = C at *
  generalize em : -(ux * ay - uy * ax) = m at *
  generalize ex : ax * vy - ay * vx = x at *
  generalize ey : ux * py - uy * px = y at *
  generalize en : vx * py - vy * px = n at *
  have id : C * (ax * py - ay * px) = x * y - m * n := by grind
  have CA := LP_smul hc' A
  have CP := LP_smul hc' P
  have ca1 : C * ax = x * ux - m * vx := by grind
  have ca2 : C * ay = x * uy - m * vy := by grind
  have cp1 : C * px = y * vx - n * ux := by grind
  have cp2 : C * py = y * vy - n * uy := by grind
  have hx : 0 < x := by
    rcases Int.lt_or_eq_of_le x0 with h | h
    · exact h
    · exfalso
      rw [ca1, ca2, ← h] at CA
      have : LP (-m * vx) (-m * vy) := by
        have e1 : -m * vx = 0 * ux - m * vx := by grind
        have e2 : -m * vy = 0 * uy - m * vy := by grind
        rw [e1, e2]; exact CA
      have := LP_pos U2 this
      omega
  have : LP ((x * y - m * n) * vx) ((x * y - m * n) * vy) := by
    have t1 := LP_smul hx CP
    rcases Int.lt_or_eq_of_le n0 with h | h
    · have t2 := LP_add t1 (LP_smul h CA)
      have e1 : (x * y - m * n) * vx = x * (C * px) + n * (C * ax) := by rw [cp1, ca1]; grind
      have e2 : (x * y - m * n) * vy = x * (C * py) + n * (C * ay) := by rw [cp2, ca2]; grind
      rw [e1, e2]; exact t2
    · have e1 : (x * y - m * n) * vx = x * (C * px) := by rw [cp1, ← h]; grind
      have e2 : (x * y - m * n) * vy = x * (C * py) := by rw [cp2, ← h]; grind
      rw [e1, e2]; exact t1
  have := LP_pos U2 this
  rw [← id] at this
  exact Int.pos_of_mul_pos_left (Int.mul_comm _ _ ▸ this) hc'

-- the walk: a stack, its top first
def popT (p : Pt) : List Pt → List Pt
  | b :: a :: r => if turnP a b p ≤ 0 then popT p (a :: r) else b :: a :: r
  | s => s
def hullS (L : List Pt) : List Pt := L.foldl (fun s p => p :: popT p s) []

def Dec (s : List Pt) : Prop := s.Pairwise fun x y => ltP y x
def Inc (s : List Pt) : Prop := s.Pairwise ltP
def Tri (s : List Pt) : Prop := ∀ c b a, [c, b, a].Sublist s → 0 < turnP a b c
def Seen (p : Pt) (s : List Pt) : Prop := ∀ b a, [b, a].Sublist s → 0 < turnP a b p

theorem popT_suffix (p : Pt) : ∀ s, ∃ l, s = l ++ popT p s
  | [] => ⟨[], rfl⟩
  | [_] => ⟨[], rfl⟩
  | b :: a :: r => by
    unfold popT
    split
    · obtain ⟨l, e⟩ := popT_suffix p (a :: r)
      exact ⟨b :: l, by rw [List.cons_append, ← e]⟩
    · exact ⟨[], rfl⟩
theorem popT_sub (p : Pt) (s : List Pt) : (popT p s).Sublist s := by
  obtain ⟨l, e⟩ := popT_suffix p s
  conv => rhs; rw [e]
  exact List.sublist_append_right _ _
theorem popT_ne (p : Pt) : ∀ s, s ≠ [] → popT p s ≠ []
  | [], h => h
  | [_], _ => by simp [popT]
  | b :: a :: r, _ => by
    unfold popT
    split
    · exact popT_ne p (a :: r) (by simp)
    · simp
theorem popT_top (p : Pt) : ∀ s b a r, popT p s = b :: a :: r → 0 < turnP a b p
  | [], _, _, _, h => by simp [popT] at h
  | [_], _, _, _, h => by simp [popT] at h
  | b' :: a' :: r', b, a, r, h => by
    unfold popT at h
    split at h
    · exact popT_top p (a' :: r') b a r h
    · rename_i hn
      cases h
      omega
theorem Dec.mem {s : List Pt} {b : Pt} {r : List Pt} (h : Dec (b :: r)) {a : Pt} (ha : a ∈ r) : ltP a b := (List.pairwise_cons.mp h).1 a ha

theorem sub2 {α : Type} {b a b0 : α} {r : List α} (h : [b, a].Sublist (b0 :: r)) : (b = b0 ∧ a ∈ r) ∨ [b, a].Sublist r := by
  cases h with
  | cons _ h => exact Or.inr h
  | cons_cons _ h => exact Or.inl ⟨rfl, by simpa using h⟩

theorem seen_of_top {p b0 a0 : Pt} {r : List Pt} (d : Dec (b0 :: a0 :: r)) (t : Tri (b0 :: a0 :: r)) (hp : ltP b0 p) (h : 0 < turnP a0 b0 p) : Seen p (b0 :: a0 :: r) := by
  have top : ∀ a, a ∈ a0 :: r → 0 < turnP a b0 p := by
    intro a ha
    rcases List.mem_cons.mp ha with rfl | ha
    · exact h
    · have t1 : 0 < turnP a a0 b0 := t b0 a0 a (by simpa using ha)
      exact (turn_far (Dec.mem (s := []) (List.pairwise_cons.mp d).2 ha) (Dec.mem (s := []) d (by simp)) hp t1 h).2
  intro b a hs
  rcases sub2 hs with ⟨rfl, ha⟩ | hs
  · exact top a ha
  · have hb : b ∈ a0 :: r := hs.subset (by simp)
    have t1 : 0 < turnP a b b0 := t b0 b a (hs.cons_cons b0)
    have hab : ltP a b := by
      have d' : Dec [b, a] := List.Pairwise.sublist hs (List.pairwise_cons.mp d).2
      exact (List.pairwise_cons.mp d').1 a (by simp)
    exact (turn_far hab (Dec.mem (s := []) d hb) hp t1 (top b hb)).1

theorem step_ok {p : Pt} {s : List Pt} (d : Dec s) (t : Tri s) (hp : ∀ q ∈ s, ltP q p) : Dec (p :: popT p s) ∧ Tri (p :: popT p s) := by
  have hs := popT_sub p s
  have d' : Dec (popT p s) := List.Pairwise.sublist hs d
  have t' : Tri (popT p s) := fun c b a h => t c b a (h.trans hs)
  have hp' : ∀ q ∈ popT p s, ltP q p := fun q hq => hp q (hs.subset hq)
  have sn : Seen p (popT p s) := by
    generalize e : popT p s = u at *
    match u, e with
    | [], _ => intro b a h; cases h
    | [x], _ => intro b a h; have := h.length_le; simp at this
    | b :: a :: r, e => exact seen_of_top d' t' (hp' b (by simp)) (popT_top p s b a r e)
  refine ⟨List.pairwise_cons.mpr ⟨hp', d'⟩, ?_⟩
  intro c b a h
  cases h with
  | cons _ h => exact t' c b a h
  | cons_cons _ h => exact sn b a h

-- what bounds the walk from below: a chain of the list's own points
structure LowChain (L C : List Pt) : Prop where
  inc : Inc C
  mem : ∀ q ∈ C, q ∈ L
  first : ∀ q ∈ L, ∀ c r, C = c :: r → ¬ ltP q c
  last : ∀ q ∈ L, ∀ c l, C = l ++ [c] → ¬ ltP c q
  side : ∀ l a b r, C = l ++ a :: b :: r → ∀ q ∈ L, 0 ≤ turnP a b q
  bend : ∀ l a b c r, C = l ++ a :: b :: c :: r → 0 < turnP a b c

theorem LowChain.vertex {L C : List Pt} (H : LowChain L C) {a b p : Pt} (hb : b ∈ C) (ha : a ∈ L) (hp : p ∈ L) (ab : ltP a b) (bp : ltP b p) : 0 < turnP a b p := by
  obtain ⟨l, r, e⟩ := List.append_of_mem hb
  rcases List.eq_nil_or_concat l with rfl | ⟨l', a0, rfl⟩
  · exact absurd ab (H.first a ha b r e)
  · match r with
    | [] => exact absurd bp (H.last p hp b _ e)
    | c0 :: r' =>
      have e1 : C = l' ++ a0 :: b :: c0 :: r' := by simpa using e
      have e2 : C = (l' ++ [a0]) ++ b :: c0 :: r' := by simpa using e
      have i := H.inc
      rw [e2] at i
      have bc : ltP b c0 := (List.pairwise_cons.mp (List.pairwise_append.mp i).2.1).1 c0 (by simp)
      exact vertex_turn bc ab bp (H.bend _ _ _ _ _ e1) (H.side _ _ _ _ e1 a ha) (H.side _ _ _ _ e2 a ha) (H.side _ _ _ _ e1 p hp) (H.side _ _ _ _ e2 p hp)

theorem popT_keep {L C : List Pt} (H : LowChain L C) {p : Pt} (hp : p ∈ L) : ∀ s, Dec s → (∀ q ∈ s, q ∈ L) → (∀ q ∈ s, ltP q p) → ∀ c ∈ C, c ∈ s → c ∈ popT p s
  | [], _, _, _, _, _, h => h
  | [_], _, _, _, _, _, h => h
  | b :: a :: r, d, m, lt, c, hc, h => by
    unfold popT
    split
    · rename_i ht
      rcases List.mem_cons.mp h with rfl | h
      · exact absurd (H.vertex hc (m a (by simp)) hp (Dec.mem (s := []) d (by simp)) (lt _ (by simp))) (by omega)
      · exact popT_keep H hp (a :: r) (List.pairwise_cons.mp d).2 (fun q hq => m q (List.mem_cons_of_mem _ hq)) (fun q hq => lt q (List.mem_cons_of_mem _ hq)) c hc h
    · exact h

theorem walk_ok {L C : List Pt} (H : LowChain L C) : ∀ (R : List Pt) (s : List Pt), (∀ q ∈ R, q ∈ L) → Inc R → Dec s → Tri s → (∀ q ∈ s, q ∈ L) → (∀ q ∈ s, ∀ p ∈ R, ltP q p) → (∀ c ∈ C, c ∈ s ∨ c ∈ R) →
    let S := R.foldl (fun s p => p :: popT p s) s
    Dec S ∧ Tri S ∧ (∀ q ∈ S, q ∈ L) ∧ (∀ c ∈ C, c ∈ S)
  | [], s, _, _, d, t, m, _, hc => ⟨d, t, m, fun c h => by simpa using hc c h⟩
  | p :: R, s, hR, i, d, t, m, lt, hc => by
    have ok := step_ok d t (p := p) (fun q hq => lt q hq p (by simp))
    refine walk_ok H R (p :: popT p s) (fun q hq => hR q (List.mem_cons_of_mem _ hq)) (List.pairwise_cons.mp i).2 ok.1 ok.2 ?_ ?_ ?_
    · intro q hq
      rcases List.mem_cons.mp hq with rfl | hq
      · exact hR _ (by simp)
      · exact m q ((popT_sub p s).subset hq)
    · intro q hq r hr
      rcases List.mem_cons.mp hq with rfl | hq
      · exact (List.pairwise_cons.mp i).1 r hr
      · exact lt q ((popT_sub p s).subset hq) r (List.mem_cons_of_mem _ hr)
    · intro c hcc
      rcases hc c hcc with h | h
      · exact Or.inl (List.mem_cons_of_mem _ (popT_keep H (hR p (by simp)) s d m (fun q hq => lt q hq p (by simp)) c hcc h))
      · rcases List.mem_cons.mp h with rfl | h
        · exact Or.inl (by simp)
        · exact Or.inr h

theorem between : ∀ (C : List Pt) (t : Pt), t ∉ C → (∃ c ∈ C, ltP c t) → (∃ d ∈ C, ltP t d) → Inc C → ∃ l c d r, C = l ++ c :: d :: r ∧ ltP c t ∧ ltP t d
  | [], _, _, ⟨_, h, _⟩, _, _ => by cases h
  | [x], t, _, ⟨c, hc, h⟩, ⟨d, hd, k⟩, _ => by
    simp at hc hd; subst hc; subst hd; exact absurd k (ltP_asymm h)
  | x :: y :: r, t, ht, ⟨c, hc, h⟩, ⟨d, hd, k⟩, i => by
    have hxt : ltP x t := by
      rcases List.mem_cons.mp hc with rfl | hc
      · exact h
      · exact ltP_trans ((List.pairwise_cons.mp i).1 c hc) h
    rcases ltP_tri y t with hy | rfl | hy
    · have hd' : d ∈ y :: r := by
        rcases List.mem_cons.mp hd with rfl | hd
        · exact absurd k (ltP_asymm hxt)
        · exact hd
      obtain ⟨l, c', d', r', e, h1, h2⟩ := between (y :: r) t (fun h => ht (List.mem_cons_of_mem _ h)) ⟨y, by simp, hy⟩ ⟨d, hd', k⟩ (List.pairwise_cons.mp i).2
      exact ⟨x :: l, c', d', r', by rw [e]; rfl, h1, h2⟩
    · simp at ht
    · exact ⟨[], x, y, r, rfl, hxt, hy⟩

theorem inc_ext : ∀ (A B : List Pt), Inc A → Inc B → (∀ q, q ∈ A ↔ q ∈ B) → A = B
  | [], [], _, _, _ => rfl
  | [], b :: B, _, _, h => absurd ((h b).mpr (by simp)) (by simp)
  | a :: A, [], _, _, h => absurd ((h a).mp (by simp)) (by simp)
  | a :: A, b :: B, ia, ib, h => by
    have ia' := List.pairwise_cons.mp ia; have ib' := List.pairwise_cons.mp ib
    have e : a = b := by
      rcases List.mem_cons.mp ((h a).mp (by simp)) with e | ha
      · exact e
      · rcases List.mem_cons.mp ((h b).mpr (by simp)) with e | hb
        · exact e.symm
        · exact absurd (ib'.1 a ha) (ltP_asymm (ia'.1 b hb))
    subst e
    congr 1
    refine inc_ext A B ia'.2 ib'.2 fun q => ⟨fun hq => ?_, fun hq => ?_⟩
    · rcases List.mem_cons.mp ((h q).mp (List.mem_cons_of_mem _ hq)) with rfl | h'
      · exact absurd (ia'.1 q hq) ltP_irr
      · exact h'
    · rcases List.mem_cons.mp ((h q).mpr (List.mem_cons_of_mem _ hq)) with rfl | h'
      · exact absurd (ib'.1 q hq) ltP_irr
      · exact h'

theorem hull_low {L C : List Pt} (iL : Inc L) (H : LowChain L C) (hne : C ≠ []) : (hullS L).reverse = C := by
  obtain ⟨d, t, m, k⟩ := walk_ok H L [] (fun _ h => h) iL List.Pairwise.nil (fun _ _ _ h => by cases h) (fun _ h => by cases h) (fun _ h => by cases h) (fun c hc => Or.inr (H.mem c hc))
  have inc : Inc (hullS L).reverse := List.pairwise_reverse.mpr d
  refine inc_ext _ _ inc H.inc fun q => ⟨fun hq => ?_, fun hq => List.mem_reverse.mpr (k q hq)⟩
  apply Decidable.byContradiction
  intro hn
  have hq' : q ∈ hullS L := List.mem_reverse.mp hq
  have hL := m q hq'
  have h1 : ∃ c ∈ C, ltP c q := by
    match C, hne with
    | c :: r, _ =>
      refine ⟨c, by simp, ?_⟩
      rcases ltP_tri c q with h | rfl | h
      · exact h
      · simp at hn
      · exact absurd h (H.first q hL c r rfl)
  have h2 : ∃ d ∈ C, ltP q d := by
    rcases List.eq_nil_or_concat C with e | ⟨l, c, e⟩
    · exact absurd e hne
    · refine ⟨c, by simp [e], ?_⟩
      rcases ltP_tri q c with h | rfl | h
      · exact h
      · simp [e] at hn
      · exact absurd h (H.last q hL c l (by simpa using e))
  obtain ⟨l, c, e, r, eC, hc, he⟩ := between C q hn h1 h2 H.inc
  have hs : [e, q, c].Sublist (hullS L) := by
    have i3 : Inc [c, q, e] := by
      simp only [Inc, List.pairwise_cons, List.mem_cons, List.not_mem_nil, or_false]
      exact ⟨fun x hx => by rcases hx with rfl | rfl; exact hc; exact ltP_trans hc he, fun x hx => by subst hx; exact he, by simp, List.Pairwise.nil⟩
    have : [c, q, e].Sublist (hullS L).reverse := by
      have key : ∀ (A B : List Pt), Inc A → Inc B → (∀ x ∈ A, x ∈ B) → A.Sublist B := by
        intro A B
        induction B generalizing A with
        | nil => intro _ _ h; match A with | [] => exact List.Sublist.refl _ | a :: _ => exact absurd (h a (by simp)) (by simp)
        | cons b B ih =>
          intro ia ib h
          match A with
          | [] => exact List.nil_sublist _
          | a :: A =>
            have ia' := List.pairwise_cons.mp ia; have ib' := List.pairwise_cons.mp ib
            rcases List.mem_cons.mp (h a (by simp)) with rfl | ha
            · refine (ih A ia'.2 ib'.2 fun x hx => ?_).cons_cons a
              rcases List.mem_cons.mp (h x (List.mem_cons_of_mem _ hx)) with rfl | h'
              · exact absurd (ia'.1 x hx) ltP_irr
              · exact h'
            · refine (ih (a :: A) ia ib'.2 fun x hx => ?_).cons b
              rcases List.mem_cons.mp (h x hx) with rfl | h'
              · rcases List.mem_cons.mp hx with rfl | hx
                · exact ha
                · exact absurd (ib'.1 a ha) (ltP_asymm (ia'.1 x hx))
              · exact h'
      refine key _ _ i3 inc fun x hx => ?_
      simp only [List.mem_cons, List.not_mem_nil, or_false] at hx
      rw [List.mem_reverse]
      rcases hx with rfl | rfl | rfl
      · exact k _ (by simp [eC])
      · exact hq'
      · exact k _ (by simp [eC])
    simpa using this.reverse
  have t1 := t e q c hs
  have t2 := H.side l c e r eC q hL
  have : turnP c e q = - turnP c q e := by unfold turnP; grind
  omega
end L2.R2

set_option linter.all false
namespace L2.R2

def negP (p : Pt) : Pt := (-p.1, -p.2)
theorem negP_neg (p : Pt) : negP (negP p) = p := by unfold negP; simp
theorem turnP_neg (a b c : Pt) : turnP (negP a) (negP b) (negP c) = turnP a b c := by unfold turnP negP; grind
theorem ltP_neg {a b : Pt} : ltP (negP a) (negP b) ↔ ltP b a := by unfold ltP negP; dsimp only; omega
theorem popT_neg (p : Pt) : ∀ s, popT (negP p) (s.map negP) = (popT p s).map negP
  | [] => rfl
  | [_] => rfl
  | b :: a :: r => by
    have ih := popT_neg p (a :: r)
    simp only [List.map_cons] at ih ⊢
    rw [popT, popT, turnP_neg]
    split
    · exact ih
    · rfl
theorem walk_neg : ∀ (L s : List Pt), (L.map negP).foldl (fun s p => p :: popT p s) (s.map negP) = (L.foldl (fun s p => p :: popT p s) s).map negP
  | [], _ => rfl
  | p :: L, s => by
    simp only [List.map_cons, List.foldl_cons]
    rw [popT_neg, ← List.map_cons]
    exact walk_neg L (p :: popT p s)
theorem hull_neg (L : List Pt) : hullS (L.map negP) = (hullS L).map negP := walk_neg L []

theorem inc_of_dec {L : List Pt} (h : Dec L) : Inc (L.map negP) := by
  unfold Inc; rw [List.pairwise_map]
  exact h.imp fun k => ltP_neg.mpr k

theorem hull_up {L C : List Pt} (iL : Inc L) (H : LowChain (L.map negP) (C.map negP)) (hne : C ≠ []) : (hullS L.reverse).reverse = C := by
  have i1 : Inc (L.reverse.map negP) := inc_of_dec (List.pairwise_reverse.mpr iL)
  have H' : LowChain (L.reverse.map negP) (C.map negP) := by
    have m : ∀ q, q ∈ L.reverse.map negP ↔ q ∈ L.map negP := by intro q; simp
    exact ⟨H.inc, fun q h => (m q).mpr (H.mem q h), fun q h => H.first q ((m q).mp h), fun q h => H.last q ((m q).mp h), fun l a b r e q h => H.side l a b r e q ((m q).mp h), H.bend⟩
  have := hull_low i1 H' (by simpa using hne)
  rw [hull_neg, ← List.map_reverse] at this
  have k := congrArg (List.map negP) this
  rw [List.map_map, List.map_map] at k
  have e : negP ∘ negP = id := by funext p; exact negP_neg p
  rwa [e, List.map_id, List.map_id] at k

-- no spot left of the sides lies before a corner that is least of the three
theorem local_min {a b c q : Pt} (ba : ltP b a) (bc : ltP b c) (h : 0 < turnP a b c) (h1 : 0 ≤ turnP a b q) (h2 : 0 ≤ turnP b c q) : ¬ ltP q b := by
  intro hq
  have A := LP_of_lt hq; have V := LP_of_lt ba; have U := LP_of_lt bc
  have hc : 0 < (c.1 - b.1) * (a.2 - b.2) - (c.2 - b.2) * (a.1 - b.1) := by
    have e : turnP a b c = (c.1 - b.1) * (a.2 - b.2) - (c.2 - b.2) * (a.1 - b.1) := by unfold turnP; grind
    rw [← e]; exact h
  have k1 : 0 ≤ (a.1 - b.1) * (b.2 - q.2) - (a.2 - b.2) * (b.1 - q.1) := by
    have e : turnP a b q = (a.1 - b.1) * (b.2 - q.2) - (a.2 - b.2) * (b.1 - q.1) := by unfold turnP; grind
    rw [← e]; exact h1
  have k2 : 0 ≤ -((c.1 - b.1) * (b.2 - q.2) - (c.2 - b.2) * (b.1 - q.1)) := by
    have e : turnP b c q = -((c.1 - b.1) * (b.2 - q.2) - (c.2 - b.2) * (b.1 - q.1)) := by unfold turnP; grind
    rw [← e]; exact h2
  clear h h1 h2 ba bc hq
  generalize b.1 - q.1 = ax at *
  generalize b.2 - q.2 = ay at *
  generalize a.1 - b.1 = vx at *
  generalize a.2 - b.2 = vy at *
  generalize c.1 - b.1 = ux at *
  generalize c.2 - b.2 = uy at *
  have e1 : (ux * vy - uy * vx) * ax = -((vx * ay - vy * ax) * ux + (-(ux * ay - uy * ax)) * vx) := by grind
  have e2 : (ux * vy - uy * vx) * ay = -((vx * ay - vy * ax) * uy + (-(ux * ay - uy * ax)) * vy) := by grind
  have CA := LP_smul hc A
  rw [e1, e2] at CA
  generalize vx * ay - vy * ax = m at *
  generalize -(ux * ay - uy * ax) = n at *
  have nn : ∀ k x y : Int, 0 ≤ k → LP x y → (k = 0 ∨ LP (k * x) (k * y)) := by
    intro k x y hk hl
    rcases Int.lt_or_eq_of_le hk with h | h
    · exact Or.inr (LP_smul h hl)
    · exact Or.inl h.symm
  rcases nn m ux uy k1 U with h | h <;> rcases nn n vx vy k2 V with h' | h'
  · subst h; subst h'; unfold LP at CA; simp at CA
  · subst h; unfold LP at *; simp at CA; omega
  · subst h'; unfold LP at *; simp at CA; omega
  · unfold LP at *; omega

theorem local_max {a b c q : Pt} (ab : ltP a b) (cb : ltP c b) (h : 0 < turnP a b c) (h1 : 0 ≤ turnP a b q) (h2 : 0 ≤ turnP b c q) : ¬ ltP b q := fun hq =>
  local_min (ltP_neg.mpr ab) (ltP_neg.mpr cb) (by rw [turnP_neg]; exact h) (by rw [turnP_neg]; exact h1) (by rw [turnP_neg]; exact h2) (ltP_neg.mpr hq)

def NoDip (R : List Pt) : Prop := ∀ l a b c s, R = l ++ a :: b :: c :: s → ¬ (ltP b a ∧ ltP b c)
def NoRep (R : List Pt) : Prop := ∀ l a b s, R = l ++ a :: b :: s → a ≠ b

theorem down_all : ∀ (s : List Pt) (a b : Pt), ltP b a → NoDip (a :: b :: s) → NoRep (a :: b :: s) → Dec (a :: b :: s)
  | [], a, b, h, _, _ => by simp only [Dec, List.pairwise_cons, List.mem_cons, List.not_mem_nil, or_false]; exact ⟨fun x e => e ▸ h, by simp⟩
  | c :: s, a, b, h, nd, nr => by
    have hc : ltP c b := by
      rcases ltP_tri c b with h' | h' | h'
      · exact h'
      · exact absurd h'.symm (nr [a] b c s rfl)
      · exact absurd ⟨h, h'⟩ (nd [] a b c s rfl)
    have ih := down_all s b c hc (fun l x y z w e => nd (a :: l) x y z w (by rw [e]; rfl)) (fun l x y w e => nr (a :: l) x y w (by rw [e]; rfl))
    refine List.pairwise_cons.mpr ⟨fun q hq => ?_, ih⟩
    rcases List.mem_cons.mp hq with rfl | hq
    · exact h
    · exact ltP_trans ((List.pairwise_cons.mp ih).1 q hq) h

theorem mountain : ∀ (R : List Pt), R ≠ [] → NoDip R → NoRep R → ∃ A m B, R = A ++ m :: B ∧ Inc (A ++ [m]) ∧ Dec (m :: B)
  | [], h, _, _ => absurd rfl h
  | [x], _, _, _ => ⟨[], x, [], rfl, by simp [Inc], by simp [Dec]⟩
  | a :: b :: s, _, nd, nr => by
    rcases ltP_tri a b with h | h | h
    · obtain ⟨A, m, B, e, i, d⟩ := mountain (b :: s) (by simp) (fun l x y z w e => nd (a :: l) x y z w (by rw [e]; rfl)) (fun l x y w e => nr (a :: l) x y w (by rw [e]; rfl))
      refine ⟨a :: A, m, B, by rw [e]; rfl, ?_, d⟩
      refine List.pairwise_cons.mpr ⟨fun q hq => ?_, i⟩
      have hb : q = b ∨ ltP b q := by
        match A, e, i, hq with
        | [], e, i, hq => simp at hq; simp at e; exact Or.inl (hq.trans e.1.symm)
        | x :: A, e, i, hq =>
          simp at e
          obtain ⟨rfl, e⟩ := e
          rcases List.mem_cons.mp hq with rfl | hq
          · exact Or.inl rfl
          · exact Or.inr ((List.pairwise_cons.mp i).1 q hq)
      rcases hb with rfl | hb
      · exact h
      · exact ltP_trans h hb
    · exact absurd h (nr [] a b s rfl)
    · exact ⟨[], a, b :: s, rfl, by simp [Inc], down_all s a b h nd nr⟩

-- a ring, its least corner first, that has all spots of L at the left of its sides or on them
structure RingAbout (L : List Pt) (z y : Pt) (t : List Pt) : Prop where
  mem : ∀ q ∈ z :: y :: t, q ∈ L
  least : ∀ q ∈ y :: t, ltP z q
  side : ∀ l a b r, (z :: y :: t) ++ [z] = l ++ a :: b :: r → ∀ q ∈ L, 0 ≤ turnP a b q
  bend : ∀ l a b c r, (z :: y :: t) ++ [z, y] = l ++ a :: b :: c :: r → 0 < turnP a b c

theorem turn_ne {a b c : Pt} (h : 0 < turnP a b c) : a ≠ b ∧ b ≠ c := by
  constructor <;> rintro rfl <;> unfold turnP at h <;> grind

def halfP (L : List Pt) : List Pt := (hullS L).reverse.dropLast

theorem inner_mem {z b a c : Pt} {T l s : List Pt} (e : (z :: T) ++ [z] = l ++ a :: b :: c :: s) : b ∈ T := by
  have h : ((z :: T) ++ [z]).dropLast = (l ++ a :: b :: c :: s).dropLast := congrArg List.dropLast e
  have h2 : (l ++ a :: b :: c :: s).dropLast = (l ++ [a]) ++ (b :: (c :: s).dropLast) := by
    have : l ++ a :: b :: c :: s = (l ++ [a, b]) ++ (c :: s) := by simp
    rw [this, List.dropLast_append_of_ne_nil (by simp)]; simp
  rw [List.dropLast_concat, h2] at h
  cases l with
  | nil => simp at h; rw [h.2]; simp
  | cons l0 l => simp at h; rw [h.2]; simp

theorem ring_hull {L : List Pt} {z y : Pt} {t : List Pt} (iL : Inc L) (H : RingAbout L z y t) : halfP L ++ halfP L.reverse = z :: y :: t := by
  have zlty : ltP z y := H.least y (by simp)
  have bendR : ∀ l a b c s, (z :: y :: t) ++ [z] = l ++ a :: b :: c :: s → 0 < turnP a b c := by
    intro l a b c s e
    refine H.bend l a b c (s ++ [y]) ?_
    have : (z :: y :: t) ++ [z, y] = ((z :: y :: t) ++ [z]) ++ [y] := by simp
    rw [this, e]; simp
  have rep : NoRep ((z :: y :: t) ++ [z]) := by
    intro l a b s e
    match s with
    | c :: s => exact (turn_ne (bendR l a b c s e)).1
    | [] =>
      have : (z :: y :: t) ++ [z, y] = l ++ a :: b :: [y] := by
        have : (z :: y :: t) ++ [z, y] = ((z :: y :: t) ++ [z]) ++ [y] := by simp
        rw [this, e]; simp
      exact (turn_ne (H.bend l a b y [] this)).1
  have memR : ∀ q ∈ (z :: y :: t) ++ [z], q ∈ L := by
    intro q hq
    rcases List.mem_append.mp hq with h | h
    · exact H.mem q h
    · simp at h; subst h; exact H.mem _ (by simp)
  have hz : z ∈ L := H.mem z (by simp)
  have dip : NoDip ((z :: y :: t) ++ [z]) := by
    intro l a b c s e ⟨h1, h2⟩
    have nb := local_min h1 h2 (bendR l a b c s e) (H.side l a b (c :: s) e z hz) (H.side (l ++ [a]) b c s (by rw [e]; simp) z hz)
    exact nb (H.least b (inner_mem e))
  obtain ⟨A, m, B, e, iA, dB⟩ := mountain _ (by simp) dip rep
  -- the first and the last of both ways
  have hA : ∃ A', A = z :: A' := by
    match A, e with
    | [], e =>
      exfalso
      simp at e
      obtain ⟨rfl, e5⟩ := e
      have hy : y ∈ B := by rw [← e5]; simp
      exact ltP_asymm zlty ((List.pairwise_cons.mp dB).1 y hy)
    | x :: A', e => simp at e; exact ⟨A', by rw [e.1]⟩
  obtain ⟨A', rfl⟩ := hA
  have hB : ∃ B', B = B' ++ [z] := by
    rcases List.eq_nil_or_concat B with rfl | ⟨B', x, rfl⟩
    · exfalso
      have e' : (z :: y :: t) ++ [z] = (z :: A') ++ [m] := e
      have := List.append_inj_right' e' rfl
      simp at this
      subst this
      exact ltP_irr ((List.pairwise_cons.mp iA).1 z (by simp))
    · have e' : (z :: y :: t) ++ [z] = (z :: A' ++ m :: B') ++ [x] := by rw [e]; simp
      have := List.append_inj_right' e' rfl
      simp at this
      exact ⟨B', by rw [this]; simp⟩
  obtain ⟨B', rfl⟩ := hB
  have e2 : (z :: y :: t) ++ [z] = (z :: A' ++ m :: B') ++ [z] := by rw [e]; simp
  have er : z :: y :: t = z :: A' ++ m :: B' := List.append_inj_left' e2 rfl
  -- no spot is before the first or behind the greatest
  have minL : ∀ q ∈ L, ¬ ltP q z := by
    intro q hq
    rcases List.eq_nil_or_concat (y :: t) with h | ⟨u, x, hu⟩
    · simp at h
    · have e3 : (z :: y :: t) ++ [z, y] = (z :: u) ++ x :: z :: y :: [] := by rw [hu]; simp
      have hx : ltP z x := H.least x (by rw [hu]; simp)
      exact local_min hx zlty (H.bend _ _ _ _ _ e3) (H.side (z :: u) x z [] (by rw [hu]; simp) q hq) (H.side [] z y (t ++ [z]) (by simp) q hq)
  have maxL : ∀ q ∈ L, ¬ ltP m q := by
    intro q hq
    rcases List.eq_nil_or_concat (z :: A') with h | ⟨u, x, hu⟩
    · simp at h
    · have hxm : ltP x m := by
        have iA' := iA
        rw [hu] at iA'
        exact (List.pairwise_append.mp iA').2.2 x (by simp) m (by simp)
      match hB' : B' ++ [z], dB with
      | [], _ => simp at hB'
      | c :: s, dB =>
        have e3 : (z :: y :: t) ++ [z] = u ++ x :: m :: c :: s := by rw [e, ← hB', hu]; simp
        have hcm : ltP c m := by
          exact (List.pairwise_cons.mp dB).1 c (by simp)
        exact local_max hxm hcm (bendR _ _ _ _ _ e3) (H.side _ _ _ _ e3 q hq) (H.side (u ++ [x]) m c s (by rw [e3]; simp) q hq)
  have low : LowChain L (z :: A' ++ [m]) := by
    refine ⟨iA, fun q hq => memR q ?_, fun q hq c r ec => ?_, fun q hq c l ec => ?_, fun l a b r ec q hq => ?_, fun l a b c r ec => ?_⟩
    · rw [e]; simp at hq ⊢; rcases hq with h | h | h <;> simp [h]
    · simp at ec; rw [← ec.1]; exact minL q hq
    · have := List.append_inj_right' ec rfl
      simp at this; rw [← this]; exact maxL q hq
    · refine H.side l a b (r ++ (B' ++ [z])) ?_ q hq
      have : z :: A' ++ m :: (B' ++ [z]) = (z :: A' ++ [m]) ++ (B' ++ [z]) := by simp
      rw [e, this, ec]; simp
    · refine bendR l a b c (r ++ (B' ++ [z])) ?_
      have : z :: A' ++ m :: (B' ++ [z]) = (z :: A' ++ [m]) ++ (B' ++ [z]) := by simp
      rw [e, this, ec]; simp
  have negmem : ∀ q ∈ L.map negP, ∃ p ∈ L, q = negP p := by
    intro q hq
    obtain ⟨p, hp, rfl⟩ := List.mem_map.mp hq
    exact ⟨p, hp, rfl⟩
  have eN : ∀ (X Y : List Pt), X.map negP = Y → X = Y.map negP := by
    rintro X Y rfl
    rw [List.map_map]
    have e : negP ∘ negP = id := by funext p; exact negP_neg p
    rw [e, List.map_id]
  have up : LowChain (L.map negP) ((m :: (B' ++ [z])).map negP) := by
    refine ⟨inc_of_dec dB, fun q hq => ?_, fun q hq c r ec => ?_, fun q hq c l ec => ?_, fun l a b r ec q hq => ?_, fun l a b c r ec => ?_⟩
    · obtain ⟨p, hp, rfl⟩ := List.mem_map.mp hq
      refine List.mem_map_of_mem (memR p ?_)
      rw [e]
      exact List.mem_append_right _ hp
    · obtain ⟨p, hp, rfl⟩ := negmem q hq
      simp at ec
      rw [← ec.1, ltP_neg]
      exact maxL p hp
    · obtain ⟨p, hp, rfl⟩ := negmem q hq
      have ec' : (m :: B').map negP ++ [negP z] = l ++ [c] := by simpa using ec
      have := List.append_inj_right' ec' rfl
      simp at this
      rw [← this, ltP_neg]
      exact minL p hp
    · obtain ⟨p, hp, rfl⟩ := negmem q hq
      have ec' := eN _ _ ec
      simp only [List.map_append, List.map_cons] at ec'
      have := H.side (z :: A' ++ l.map negP) (negP a) (negP b) (r.map negP) (by rw [e, ec']; simp) p hp
      rw [← turnP_neg, negP_neg, negP_neg] at this
      exact this
    · have ec' := eN _ _ ec
      simp only [List.map_append, List.map_cons] at ec'
      have := bendR (z :: A' ++ l.map negP) (negP a) (negP b) (negP c) (r.map negP) (by rw [e, ec']; simp)
      rw [turnP_neg] at this
      exact this
  have h1 := hull_low iL low (by simp)
  have h2 := hull_up iL up (by simp)
  unfold halfP
  rw [h1, h2, er]
  have : m :: (B' ++ [z]) = (m :: B') ++ [z] := by simp
  rw [this, List.dropLast_concat, List.dropLast_concat]
end L2.R2

set_option linter.all false
namespace L2.R2
/-! ## spots that come again do no harm to the walk -/
def WInc (L : List Pt) : Prop := L.Pairwise fun x y => ¬ ltP y x
theorem popT_idem (p : Pt) : ∀ s, popT p (popT p s) = popT p s
  | [] => rfl
  | [_] => rfl
  | b :: a :: r => by
    by_cases h : turnP a b p ≤ 0
    · rw [popT, if_pos h]; exact popT_idem p (a :: r)
    · have e : popT p (b :: a :: r) = b :: a :: r := by rw [popT, if_neg h]
      rw [e, e]
theorem turn_same (a p : Pt) : turnP a p p ≤ 0 := by unfold turnP; have : (p.1 - a.1) * (p.2 - a.2) - (p.2 - a.2) * (p.1 - a.1) = 0 := by grind
                                                     omega
theorem turn_same2 (a p : Pt) : turnP a a p ≤ 0 := by unfold turnP; have : (a.1 - a.1) * (p.2 - a.2) - (a.2 - a.2) * (p.1 - a.1) = 0 := by grind
                                                      omega
theorem hullS_snoc (L : List Pt) (p : Pt) : hullS (L ++ [p]) = p :: popT p (hullS L) := by unfold hullS; rw [List.foldl_append]; rfl
theorem hull_len : ∀ (L : List Pt), (hullS L).length ≤ L.length := by
  have sub : ∀ (L s : List Pt), (L.foldl (fun s p => p :: popT p s) s).length ≤ L.length + s.length := by
    intro L
    induction L with
    | nil => intro s; simp
    | cons y L ih =>
      intro s
      have i2 := ih (y :: popT y s)
      have := (popT_sub y s).length_le
      simp only [List.foldl_cons, List.length_cons] at i2 ⊢
      omega
  intro L; simpa [hullS] using sub L []
/-- the two stacks go along -/
structure DupOk (L D : List Pt) : Prop where
  inc : Inc D
  mem : ∀ z, z ∈ D ↔ z ∈ L
  many : 2 ≤ D.length → hullS L = hullS D
  one : ∀ c, D = [c] → hullS L = [c] ∨ hullS L = [c, c]
  none : D = [] → hullS L = []
theorem rev_ind {α : Type} {P : List α → Prop} (h0 : P []) (h1 : ∀ l x, P l → P (l ++ [x])) : ∀ l, P l := by
  intro l
  have : ∀ m : List α, P m.reverse := by
    intro m
    induction m with
    | nil => exact h0
    | cons x m ih => rw [List.reverse_cons]; exact h1 _ _ ih
  have := this l.reverse
  rwa [List.reverse_reverse] at this
theorem dup_ok : ∀ (L : List Pt), WInc L → ∃ D, DupOk L D := by
  refine rev_ind ?_ ?_
  · intro _
    exact ⟨[], List.Pairwise.nil, fun z => Iff.rfl, fun h => absurd h (by simp), fun c h => by simp at h, fun _ => rfl⟩
  · intro L p ih hw
    have hw' := List.pairwise_append.mp hw
    obtain ⟨D, H⟩ := ih hw'.1
    have top : ∀ z ∈ L, ¬ ltP p z := fun z hz => hw'.2.2 z hz p (by simp)
    rcases List.eq_nil_or_concat D with hD | ⟨D', c, hD⟩
    · -- nothing so far
      have hL : L = [] := by
        apply List.eq_nil_iff_forall_not_mem.mpr
        intro z hz
        have := (H.mem z).mpr hz
        rw [hD] at this; cases this
      subst hL
      refine ⟨[p], by simp [Inc], fun z => by simp, fun h => absurd h (by simp), fun c h => ?_, fun h => by simp at h⟩
      simp at h; subst h
      exact Or.inl rfl
    · have hD : D = D' ++ [c] := by simpa using hD
      subst hD
      have hcL : c ∈ L := (H.mem c).mp (by simp)
      have cl : ∀ z ∈ D' ++ [c], z = c ∨ ltP z c := by
        intro z hz
        rcases List.mem_append.mp hz with h | h
        · exact Or.inr ((List.pairwise_append.mp H.inc).2.2 z h c (by simp))
        · exact Or.inl (by simpa using h)
      by_cases hpc : p = c
      · subst hpc
        refine ⟨D' ++ [p], H.inc, fun z => ?_, fun h2 => ?_, fun c hc => ?_, fun h => by simp at h⟩
        · rw [H.mem z]; simp only [List.mem_append, List.mem_singleton]
          exact ⟨Or.inl, fun h => h.elim id fun e => e ▸ hcL⟩
        · rw [hullS_snoc, H.many h2, hullS_snoc]
          have hne : hullS D' ≠ [] := by
            rcases List.eq_nil_or_concat D' with h | ⟨D'', d, h⟩
            · rw [h] at h2; simp at h2
            · have : D' = D'' ++ [d] := by simpa using h
              rw [this, hullS_snoc]; simp
          have hne2 := popT_ne p _ hne
          generalize hu : popT p (hullS D') = u at hne2
          cases u with
          | nil => exact absurd rfl hne2
          | cons a r =>
            rw [popT, if_pos (turn_same a p)]
            congr 1
            rw [← hu, popT_idem]
        · have hD' : D' = [] ∧ p = c := by
            cases D' with
            | nil => simp at hc; exact ⟨rfl, hc⟩
            | cons x D' => simp at hc
          obtain ⟨rfl, rfl⟩ := hD'
          rw [hullS_snoc]
          rcases H.one p rfl with e | e
          · rw [e]; exact Or.inr rfl
          · rw [e, popT, if_pos (turn_same2 p p)]; exact Or.inr rfl
      · have ltcp : ltP c p := by
          rcases ltP_tri c p with h | h | h
          · exact h
          · exact absurd h.symm hpc
          · exact absurd h (top c hcL)
        have inc2 : Inc ((D' ++ [c]) ++ [p]) := by
          refine List.pairwise_append.mpr ⟨H.inc, by simp, fun z hz w hw => ?_⟩
          have : w = p := by simpa using hw
          subst this
          rcases cl z hz with rfl | h
          · exact ltcp
          · exact ltP_trans h ltcp
        refine ⟨(D' ++ [c]) ++ [p], inc2, fun z => ?_, fun _ => ?_, fun d hd => by have := congrArg List.length hd; simp at this, fun h => by simp at h⟩
        · rw [List.mem_append, H.mem z, List.mem_append]
        · rw [hullS_snoc, hullS_snoc (D' ++ [c])]
          by_cases h2 : 2 ≤ (D' ++ [c]).length
          · rw [H.many h2]
          · have : D' = [] := by
              cases D' with
              | nil => rfl
              | cons x D' => simp at h2
            subst this
            rcases H.one c rfl with e | e
            · rw [e]; rfl
            · rw [e, popT, if_pos (turn_same2 c p)]; rfl
theorem dup_hull {L D : List Pt} (hw : WInc L) (iD : Inc D) (hm : ∀ z, z ∈ D ↔ z ∈ L) : (2 ≤ D.length → hullS L = hullS D) ∧ (D.length ≤ 1 → (hullS L).length ≤ 2) := by
  obtain ⟨D1, H⟩ := dup_ok L hw
  have : D1 = D := inc_ext _ _ H.inc iD fun q => (H.mem q).trans (hm q).symm
  subst this
  refine ⟨H.many, fun h => ?_⟩
  match D1, H, h with
  | [], H, _ => rw [H.none rfl]; simp
  | [c], H, _ => rcases H.one c rfl with e | e <;> rw [e] <;> simp
  | _ :: _ :: _, _, h => simp at h
def outlP (L : List Pt) : List Pt := halfP L ++ halfP L.reverse
theorem dup_outline {L D : List Pt} (hw : WInc L) (iD : Inc D) (hm : ∀ z, z ∈ D ↔ z ∈ L) : (2 ≤ D.length → outlP L = outlP D) ∧ (D.length ≤ 1 → (outlP L).length < 3) := by
  have a := dup_hull hw iD hm
  have wn : WInc (L.reverse.map negP) := by
    unfold WInc
    rw [List.pairwise_map, List.pairwise_reverse]
    exact hw.imp fun h k => h (ltP_neg.mp k)
  have iN : Inc (D.reverse.map negP) := inc_of_dec (List.pairwise_reverse.mpr iD)
  have b := dup_hull wn iN fun z => by simp only [List.mem_map, List.mem_reverse]; constructor <;> (rintro ⟨w, h1, h2⟩; exact ⟨w, by first | exact (hm w).mp h1 | exact (hm w).mpr h1, h2⟩)
  rw [hull_neg, hull_neg] at b
  simp only [List.length_map, List.length_reverse] at b
  have inj : ∀ (X Y : List Pt), X.map negP = Y.map negP → X = Y := by
    intro X Y h
    have := congrArg (List.map negP) h
    rw [List.map_map, List.map_map] at this
    have e : negP ∘ negP = id := by funext p; exact negP_neg p
    rwa [e, List.map_id, List.map_id] at this
  constructor
  · intro h
    unfold outlP halfP
    rw [a.1 h, inj _ _ (b.1 h)]
  · intro h
    have h1 := a.2 h
    have h2 := b.2 h
    unfold outlP halfP
    simp only [List.length_append, List.length_dropLast, List.length_reverse]
    omega
end L2.R2

set_option Elab.async false
set_option linter.all false
set_option maxRecDepth 100000
set_option maxHeartbeats 4000000
namespace L2.R2
open PySem PySem.Spec PyProof.Rows L2
local macro_rules | `(tactic| walk_at "rd") => `(tactic| simp only [rSeq, rNext, rRet, rDrop, rIfS, rSet, rSetO, rPar, rAsg, rgName, rgTup, rgCons, rgNil, rVar, rVarB, rC, r2, r1, rTest, rAnd, rOr, rNot, rAndV, rOrV, rNotV, rIf, raNil, raCons, rTup, rLst, rCall, rCB, rNoPart, rPart, rSlL', rFor, riEn, riL, riT, riR1, riR2, rComp, compD, capE, capO, fzAt, rAppD, rPopD, rSetIx, rZip, seqD, rSlA, dAddA, dListOf, dTupOf, dSum, dNe, rIndex, riRev, riZip,
  dAdd, dSub, dMul, dFdiv, dMod, dPow, dNeg, dCmp, dEqS, dIsN, dEq_rd, isNon, dIx_tup0, dIx_tup1, dIx_tup2, dIx_lst0, dIx_lst1, dIx_lst2, dIx_lst3, dIx_lst4, dIx_lst5, dIx_lst6, dIx_lst7, dIx_lst8, dIx_lst9, dIx_lst10, dIx_lst11, dAbs, dInt, dMax2, dMin2, dLen, dIsi, isi_ii, isi_bi, isi_ib, isi_bb, isi_tt, S.val, startN, rep0, rep1, rep2, rep3, rep4, rep5, rep6, rep7, rep8, rep9, rep10, rep11, rep12,
  List.map_cons, List.map_nil, List.cons_append, List.nil_append, List.length_cons, List.length_nil, List.getElem?_cons_zero, List.getElem?_cons_succ, List.set_cons_zero, List.set_cons_succ, List.append_nil,
  Bool.or_false, Bool.or_true, Bool.false_or, Bool.true_or, Bool.not_true, Bool.not_false, if_true, if_false, Bool.false_eq_true, sz0, sz1, sz2, sz3, sz4, true_and, decide_eq_true_eq, Int.reduceToNat, Int.reducePow, Int.reduceMul, Int.reduceSub, Int.reduceAdd, Int.reduceNeg])
local macro_rules | `(tactic| walk_at "side") => `(tactic| first | exact pow_ok | exact mod_ok | exact (BL.const (n := 9000) (by decide)).divOk (by decide) | exact (BL.const (n := 300) (by decide)).mulOk (BL.const (n := 300) (by decide)))
local macro_rules | `(tactic| walk_at "sides") => `(tactic| repeat (refine And.intro (by walk_at "side") ?_))
/-! ## the turn, half of the way round, the outline -/
def BP (z : Pt) : Prop := BL 20000 z.1 ∧ BL 20000 z.2
def F_turn : FD := fun ds Q => ∃ a b c : Pt, ds = [pt a, pt b, pt c] ∧ (BP a ∧ BP b ∧ BP c) ∧ Q (.int (turnP a b c))
theorem len_turn : ∀ ds Q, F_turn ds Q → ds.length = 3 := by rintro ds Q ⟨_, _, _, rfl, _⟩; rfl
theorem pure_turn : ∀ ds Q, F_turn ds Q → rd_turn { nx := fun _ => Q .non, rt := Q } (startD ["one", "middle", "other", "along", "across"] ds) := by
  rintro ds Q ⟨a, b, c, rfl, ⟨ba, bb, bc⟩, q⟩
  rw [startD_eq 2 rfl]
  unfold rd_turn
  walk_at "rd"
  exact ⟨(bb.1.sub ba.1).mulOk (bc.2.sub ba.2), (bb.2.sub ba.2).mulOk (bc.1.sub ba.1), q⟩
def F_half : FD := fun ds Q => ∃ ps : List Pt, ds = [pts ps] ∧ (∀ z ∈ ps, BP z) ∧ ps.length ≤ 900 ∧ Q (pts (halfP ps))
theorem len_half : ∀ ds Q, F_half ds Q → ds.length = 1 := by rintro ds Q ⟨_, rfl, _⟩; rfl
theorem atI_end1 {α : Type} (xs : List α) (x : α) : atI (xs ++ [x]) (-1) = some x := by
  unfold atI ixN
  rw [if_neg (by decide), if_pos (by simp; omega)]
  have : ((-1 : Int) + ((xs ++ [x]).length : Nat)).toNat = xs.length := by simp; omega
  simp only [this, Option.bind_some]
  simp
theorem atI_end2 {α : Type} (xs : List α) (x y : α) : atI (xs ++ [x, y]) (-2) = some x := by
  unfold atI ixN
  rw [if_neg (by decide), if_pos (by simp; omega)]
  have : ((-2 : Int) + ((xs ++ [x, y]).length : Nat)).toNat = xs.length := by simp; omega
  simp only [this, Option.bind_some]
  simp
theorem half_while (E : DEnds) (u : Option S) (p : Pt) (hp : BP p) : ∀ s : List Pt, (∀ z ∈ s, BP z) → E.nx [u, some (.own ((popT p s).reverse.map pt)), some (.d (pt p))] →
    rWhile (rAnd (rTest (r2 (dCmp fun i j => decide (j < i)) (r1 dLen (rVarB 1)) (rC (.int 1)))) (rTest (r2 (dCmp fun i j => decide (i ≤ j)) (rCall F_turn (raCons (r2 dIx (rVarB 1) (r1 dNeg (rC (.int 2)))) (raCons (r2 dIx (rVarB 1) (r1 dNeg (rC (.int 1)))) (raCons (rVar 2) (raNil))))) (rC (.int 0))))) (rd_half_round_b1) E [u, some (.own (s.reverse.map pt)), some (.d (pt p))]
  | [], _, h => by
    refine ⟨1, ?_⟩
    unfold whileD
    walk_at "rd"
    simp
    exact h
  | [x], _, h => by
    refine ⟨1, ?_⟩
    unfold whileD
    walk_at "rd"
    simp
    exact h
  | b :: a :: r, hs, h => by
    have ea : ((b :: a :: r).reverse.map pt) = (r.reverse.map pt) ++ [pt a, pt b] := by simp
    have eb : ((b :: a :: r).reverse.map pt) = ((a :: r).reverse.map pt) ++ [pt b] := by simp
    have i2 := atI_end2 (r.reverse.map pt) (pt a) (pt b)
    have i1 := atI_end1 ((a :: r).reverse.map pt) (pt b)
    rw [← ea] at i2; rw [← eb] at i1
    by_cases ht : turnP a b p ≤ 0
    · have e : popT p (b :: a :: r) = popT p (a :: r) := by rw [popT, if_pos ht]
      rw [e] at h
      obtain ⟨n, hn⟩ := half_while E u p hp (a :: r) (fun z hz => hs z (List.mem_cons_of_mem _ hz)) h
      refine ⟨n + 1, ?_⟩
      unfold whileD
      generalize hW : whileD (rAnd (rTest (r2 (dCmp fun i j => decide (j < i)) (r1 dLen (rVarB 1)) (rC (.int 1)))) (rTest (r2 (dCmp fun i j => decide (i ≤ j)) (rCall F_turn (raCons (r2 dIx (rVarB 1) (r1 dNeg (rC (.int 2)))) (raCons (r2 dIx (rVarB 1) (r1 dNeg (rC (.int 1)))) (raCons (rVar 2) (raNil))))) (rC (.int 0))))) rd_half_round_b1 n E = W at hn
      walk_at "rd"
      rw [if_pos (by simp; omega)]
      refine dIx_lst i2 (dIx_lst i1 ⟨a, b, p, rfl, ⟨hs a (by simp), hs b (by simp), hp⟩, ?_⟩)
      show if turnP a b p ≤ 0 then _ else _
      rw [if_pos ht]
      unfold rd_half_round_b1
      walk_at "rd"
      refine ⟨by simp, ?_⟩
      rw [eb, List.dropLast_concat]
      exact hn
    · have e : popT p (b :: a :: r) = b :: a :: r := by rw [popT, if_neg ht]
      rw [e] at h
      refine ⟨1, ?_⟩
      unfold whileD
      walk_at "rd"
      rw [if_pos (by simp; omega)]
      refine dIx_lst i2 (dIx_lst i1 ⟨a, b, p, rfl, ⟨hs a (by simp), hs b (by simp), hp⟩, ?_⟩)
      show if turnP a b p ≤ 0 then _ else _
      rw [if_neg ht]
      exact h
theorem popT_len (p : Pt) (s : List Pt) : (popT p s).length ≤ s.length := (popT_sub p s).length_le
theorem pure_half_round : ∀ ds Q, F_half ds Q → rd_half_round F_turn { nx := fun _ => Q .non, rt := Q } (startD ["points", "chain", "point"] ds) := by
  rintro ds Q ⟨ps, rfl, hb, hl, q⟩
  rw [startD_eq 2 rfl]
  unfold rd_half_round
  simp only [startN, rep2, List.map_cons, List.map_nil, List.cons_append, List.nil_append]
  refine seq_by (fun ρ => ρ = [some (.d (pts ps)), some (.own []), none]) (fun K hK => ?_) ?_
  · walk_at "rd"
    exact hK _ rfl
  rintro ρ rfl
  refine seq_by (fun ρ => ∃ x : Option S, ρ = [some (.d (pts ps)), some (.own ((hullS ps).reverse.map pt)), x]) (fun K hK => ?_) ?_
  · walk_at "rd"
    refine for_ind (fun xs ρ => ∃ (done rest : List Pt) (x : Option S), ps = done ++ rest ∧ xs = rest.map pt ∧ ρ = [some (.d (pts ps)), some (.own ((hullS done).reverse.map pt)), x]) ?_ ?_ _ _ ⟨[], ps, none, rfl, rfl, rfl⟩
    · rintro x xs ρ ⟨done, rest, u, e, ex, rfl⟩ F _ _ hn _
      cases rest with
      | nil => cases ex
      | cons z rest =>
        cases ex
        have bd : ∀ w ∈ done, BP w := fun w hw => hb w (by rw [e]; simp [hw])
        have bz : BP z := hb z (by rw [e]; simp)
        have ld : done.length < ps.length := by rw [e]; simp
        have sub : ∀ (L s : List Pt), (∀ q ∈ L.foldl (fun s p => p :: popT p s) s, q ∈ L ∨ q ∈ s) ∧ (L.foldl (fun s p => p :: popT p s) s).length ≤ L.length + s.length := by
          intro L
          induction L with
          | nil => intro s; exact ⟨fun q h => Or.inr h, by simp⟩
          | cons y L ih =>
            intro s
            obtain ⟨i1, i2⟩ := ih (y :: popT y s)
            refine ⟨fun q h => ?_, ?_⟩
            · rcases i1 q h with h | h
              · exact Or.inl (by simp [h])
              · rcases List.mem_cons.mp h with h | h
                · exact Or.inl (by simp [h])
                · exact Or.inr ((popT_sub y s).subset h)
            · have := popT_len y s
              simp only [List.foldl_cons, List.length_cons] at i2 ⊢
              omega
        obtain ⟨s1, s2⟩ := sub done []
        unfold rd_half_round_b2
        simp only [rgName, List.set_cons_zero, List.set_cons_succ]
        refine half_while _ _ z bz (hullS done) (fun w hw => ?_) ?_
        · rcases s1 w hw with h | h
          · exact bd w h
          · cases h
        · walk_at "rd"
          have l1 := popT_len z (hullS done)
          have l2 : (hullS done).length ≤ done.length := by simpa [hullS] using s2
          refine ⟨⟨le_size (by simp; omega)⟩, hn _ ⟨done ++ [z], rest, some (.d (pt z)), by simpa using e, rfl, ?_⟩⟩
          unfold hullS
          simp
    · rintro ρ ⟨done, rest, u, e, ex, rfl⟩
      have : rest = [] := by simpa using ex.symm
      subst this
      rw [List.append_nil] at e
      subst e
      exact hK _ ⟨u, rfl⟩
  rintro ρ ⟨x, rfl⟩
  walk_at "rd"
  have e : cutD ((hullS ps).reverse.map pt) none (some (-1)) = (halfP ps).map pt := by
    unfold cutD halfP
    rw [List.map_dropLast]
    generalize (hullS ps).reverse.map pt = xs
    have h1 : HT.sIx xs.length 0 none = 0 := rfl
    have h2 : HT.sIx xs.length xs.length (some (-1)) = xs.length - 1 := by
      unfold HT.sIx
      simp
      omega
    rw [h1, h2, List.drop_zero, Nat.sub_zero, List.dropLast_eq_take]
  rw [e]
  exact q
/-! ### the outline -/
theorem lexB_pt (z w : Pt) : lexB [z.1, z.2] [w.1, w.2] = decide (ltP z w) := by
  unfold ltP
  simp only [lexB]
  by_cases h : z.1 = w.1
  · rw [if_pos h]
    by_cases h2 : z.2 = w.2
    · rw [if_pos h2]; simp [h, h2]
    · rw [if_neg h2]; simp [h]
  · rw [if_neg h]; simp [h]
def F_outline : FD := fun ds Q => ∃ ps : List Pt, ds = [pts ps] ∧ (∀ z ∈ ps, BP z) ∧ ps.length < 64 ∧ ∀ D r : List Pt, Inc D → (∀ z, z ∈ D ↔ z ∈ ps) → (2 ≤ D.length → r = outlP D) → (D.length ≤ 1 → r.length < 3) → r.length ≤ 200 → Q (pts r)
theorem len_outline : ∀ ds Q, F_outline ds Q → ds.length = 1 := by rintro ds Q ⟨_, rfl, _⟩; rfl
theorem pure_outline : ∀ ds Q, F_outline ds Q → rd_outline F_half { nx := fun _ => Q .non, rt := Q } (startD ["points", "rising"] ds) := by
  rintro ds Q ⟨ps, rfl, hb, hl, q⟩
  rw [startD_eq 1 rfl]
  unfold rd_outline
  walk_at "rd"
  unfold rSortSet rListRev
  walk_at "rd"
  refine ⟨ps.map fun z => [z.1, z.2], by rw [List.map_map]; rfl, by simpa using hl, fun ns h => ?_, fun mss hs hm hlen => ?_⟩
  · obtain ⟨z, _, rfl⟩ := List.mem_map.mp h; simp
  -- the sorted list as spots
  obtain ⟨L, hL⟩ : ∃ L : List Pt, mss = L.map fun z => [z.1, z.2] := by
    have : ∀ ms ∈ mss, ∃ z : Pt, ms = [z.1, z.2] := fun ms h => by
      obtain ⟨z, _, e⟩ := List.mem_map.mp ((hm ms).mp h)
      exact ⟨z, e.symm⟩
    clear hs hm hlen
    induction mss with
    | nil => exact ⟨[], rfl⟩
    | cons m mss ih =>
      obtain ⟨L, e⟩ := ih fun ms h => this ms (List.mem_cons_of_mem _ h)
      obtain ⟨z, e2⟩ := this m (by simp)
      exact ⟨z :: L, by rw [e, e2]; rfl⟩
  subst hL
  have inj : ∀ z w : Pt, [z.1, z.2] = [w.1, w.2] → z = w := fun z w h => by simp at h; exact Prod.ext h.1 h.2
  have memL : ∀ z, z ∈ L ↔ z ∈ ps := fun z => by
    have := hm [z.1, z.2]
    constructor
    · intro h
      obtain ⟨w, hw, e⟩ := List.mem_map.mp (this.mp (List.mem_map.mpr ⟨z, h, rfl⟩))
      rw [← inj _ _ e]; exact hw
    · intro h
      obtain ⟨w, hw, e⟩ := List.mem_map.mp (this.mpr (List.mem_map.mpr ⟨z, h, rfl⟩))
      rw [← inj _ _ e]; exact hw
  have wL : WInc L := by
    unfold WInc
    refine (List.pairwise_map.mp hs).imp fun {a b} h => ?_
    rw [lexB_pt] at h
    simpa using h
  have eL : D.lst (List.map tupI (List.map (fun z : Pt => [z.1, z.2]) L)) = pts L := by rw [List.map_map]; rfl
  have lL : L.length ≤ 63 := by simp at hlen; omega
  have bL : ∀ z ∈ L, BP z := fun z hz => hb z ((memL z).mp hz)
  obtain ⟨D, HD⟩ := dup_ok L wL
  obtain ⟨o1, o2⟩ := dup_outline wL HD.inc HD.mem
  have h1 : ∀ M : List Pt, (halfP M).length ≤ M.length := fun M => by
    unfold halfP
    have := hull_len M
    simp; omega
  rw [eL]
  refine ⟨L, rfl, bL, by omega, L.map pt, rfl, L.reverse, by rw [← List.map_reverse], fun z hz => bL z (List.mem_reverse.mp hz), by simp; omega, ?_⟩
  have a1 := h1 L
  have a2 := h1 L.reverse
  rw [List.length_reverse] at a2
  show Sz (((halfP L).map pt).length + ((halfP L.reverse).map pt).length) ∧ Q (.lst ((halfP L).map pt ++ (halfP L.reverse).map pt))
  refine ⟨⟨le_size (by simp; omega)⟩, ?_⟩
  rw [← List.map_append]
  exact q D (outlP L) HD.inc (fun z => (HD.mem z).trans (memL z)) o1 o2 (by unfold outlP; simp; omega)
end L2.R2

set_option linter.all false
namespace L2.R2
/-! ## convex rings -/
def Nxt (L : List Pt) (a b : Pt) : Prop := ∃ l r, L = l ++ a :: b :: r
theorem Nxt.cons {L : List Pt} {a b : Pt} (x : Pt) (h : Nxt L a b) : Nxt (x :: L) a b := by
  obtain ⟨l, r, rfl⟩ := h; exact ⟨x :: l, r, rfl⟩
theorem Nxt.left {A : List Pt} {a b : Pt} (B : List Pt) (h : Nxt A a b) : Nxt (A ++ B) a b := by
  obtain ⟨l, r, rfl⟩ := h; exact ⟨l, r ++ B, by simp⟩
theorem Nxt.right {B : List Pt} {a b : Pt} (A : List Pt) (h : Nxt B a b) : Nxt (A ++ B) a b := by
  obtain ⟨l, r, rfl⟩ := h; exact ⟨A ++ l, r, by simp⟩
theorem nxt_append : ∀ (A B : List Pt) (a b : Pt), Nxt (A ++ B) a b → Nxt A a b ∨ ((∃ A', A = A' ++ [a]) ∧ ∃ B', B = b :: B') ∨ Nxt B a b
  | [], B, a, b, h => Or.inr (Or.inr h)
  | [x], B, a, b, ⟨l, r, e⟩ => by
    cases l with
    | nil =>
      simp at e
      obtain ⟨rfl, e⟩ := e
      exact Or.inr (Or.inl ⟨⟨[], rfl⟩, r, e⟩)
    | cons y l => simp at e; exact Or.inr (Or.inr ⟨l, r, e.2⟩)
  | x :: y :: A, B, a, b, ⟨l, r, e⟩ => by
    cases l with
    | nil =>
      simp at e
      obtain ⟨rfl, rfl, e⟩ := e
      exact Or.inl ⟨[], A, rfl⟩
    | cons u l =>
      simp at e
      obtain ⟨rfl, e⟩ := e
      rcases nxt_append (y :: A) B a b ⟨l, r, by simpa using e⟩ with h | ⟨⟨A', h1⟩, h2⟩ | h
      · exact Or.inl (h.cons x)
      · exact Or.inr (Or.inl ⟨⟨x :: A', by rw [h1]; rfl⟩, h2⟩)
      · exact Or.inr (Or.inr h)
theorem nxt_map {f : Pt → Pt} {L : List Pt} {a b : Pt} (h : Nxt (L.map f) a b) : ∃ x y, Nxt L x y ∧ a = f x ∧ b = f y := by
  obtain ⟨l, r, e⟩ := h
  obtain ⟨l1, l2, rfl, rfl, e2⟩ := List.map_eq_append_iff.mp e
  obtain ⟨x, l3, rfl, rfl, e3⟩ := List.map_eq_cons_iff.mp e2
  obtain ⟨y, l4, rfl, rfl, e4⟩ := List.map_eq_cons_iff.mp e3
  exact ⟨x, y, ⟨l1, l4, rfl⟩, rfl, rfl⟩
theorem Nxt.mem {L : List Pt} {a b : Pt} (h : Nxt L a b) : a ∈ L ∧ b ∈ L := by
  obtain ⟨l, r, rfl⟩ := h; simp

/-- the sides of a ring -/
def Cyc (cs : List Pt) (a b : Pt) : Prop := Nxt (cs ++ cs.take 1) a b
structure Cvx (cs : List Pt) : Prop where
  len : 3 ≤ cs.length
  nodup : cs.Nodup
  strict : ∀ a b, Cyc cs a b → ∀ q ∈ cs, q ≠ a → q ≠ b → 0 < turnP a b q
theorem turn_a (a b : Pt) : turnP a b a = 0 := by unfold turnP; grind
theorem turn_b (a b : Pt) : turnP a b b = 0 := by unfold turnP; grind
theorem Cvx.side {cs : List Pt} (h : Cvx cs) {a b : Pt} (hab : Cyc cs a b) {q : Pt} (hq : q ∈ cs) : 0 ≤ turnP a b q := by
  by_cases h1 : q = a
  · subst h1; rw [turn_a]; decide
  · by_cases h2 : q = b
    · subst h2; rw [turn_b]; decide
    · exact Int.le_of_lt (h.strict a b hab q hq h1 h2)
theorem Cvx.map {cs : List Pt} (h : Cvx cs) {f : Pt → Pt} {k : Int} (hk : 0 < k) (hf : ∀ a b c, turnP (f a) (f b) (f c) = k * turnP a b c) (inj : ∀ a b, f a = f b → a = b) : Cvx (cs.map f) := by
  refine ⟨by simpa using h.len, ?_, fun a b hab q hq n1 n2 => ?_⟩
  · exact List.Pairwise.map f (fun a b hn e => hn (inj a b e)) h.nodup
  · unfold Cyc at hab
    rw [← List.map_take, ← List.map_append] at hab
    obtain ⟨x, y, hxy, rfl, rfl⟩ := nxt_map hab
    obtain ⟨p, hp, rfl⟩ := List.mem_map.mp hq
    rw [hf]
    exact Int.mul_pos hk (h.strict x y hxy p hp (fun e => n1 (by rw [e])) fun e => n2 (by rw [e]))
theorem cyc_swap {X Y : List Pt} {a b : Pt} (h : Cyc (Y ++ X) a b) : Cyc (X ++ Y) a b := by
  unfold Cyc at *
  cases Y with
  | nil => simpa using h
  | cons y Y =>
    cases X with
    | nil => simpa using h
    | cons x X =>
      simp only [List.cons_append, List.take_succ_cons, List.take_zero] at h ⊢
      have e : y :: (Y ++ x :: X ++ [y]) = (y :: Y) ++ ((x :: X) ++ [y]) := by simp
      rw [e] at h
      have goal1 : ∀ {a b}, Nxt ((x :: X) ++ [y]) a b → Nxt (x :: (X ++ y :: Y ++ [x])) a b := by
        intro a b h
        have := h.left (Y ++ [x])
        simpa using this
      have goal2 : ∀ {a b}, Nxt ((y :: Y) ++ [x]) a b → Nxt (x :: (X ++ y :: Y ++ [x])) a b := by
        intro a b h
        have := h.right (x :: X)
        simpa using this
      rcases nxt_append _ _ a b h with h | ⟨⟨A', h1⟩, B', h2⟩ | h
      · exact goal2 (h.left _)
      · simp at h2
        refine goal2 ?_
        rw [h1, ← h2.1]
        exact ⟨A', [], by simp⟩
      · exact goal1 h
theorem Cvx.swap {X Y : List Pt} (h : Cvx (X ++ Y)) : Cvx (Y ++ X) := by
  refine ⟨by have := h.len; simp at this ⊢; omega, ?_, fun a b hab q hq => h.strict a b (cyc_swap hab) q (by simp at hq ⊢; exact hq.symm)⟩
  have := h.nodup
  rw [List.nodup_append] at this ⊢
  exact ⟨this.2.1, this.1, fun a ha b hb e => this.2.2 b hb a ha e.symm⟩
theorem wrap_get {R : List Pt} (h3 : 2 ≤ R.length) {i : Nat} (hi : i < R.length + 2) : (R ++ R.take 2)[i]? = R[i % R.length]? := by
  by_cases h : i < R.length
  · rw [List.getElem?_append_left h, Nat.mod_eq_of_lt h]
  · rw [List.getElem?_append_right (by omega), Nat.mod_eq_sub_mod (by omega), Nat.mod_eq_of_lt (by omega), List.getElem?_take]
    rw [if_pos (by omega)]
theorem Cvx.bend {R : List Pt} (h : Cvx R) {l r : List Pt} {a b c : Pt} (e : R ++ R.take 2 = l ++ a :: b :: c :: r) : 0 < turnP a b c := by
  have h3 := h.len
  have len := congrArg List.length e
  simp at len
  have g : ∀ i, i < R.length + 2 → (l ++ a :: b :: c :: r)[i]? = R[i % R.length]? := fun i hi => by rw [← e]; exact wrap_get (by omega) hi
  have ea : R[l.length % R.length]? = some a := by rw [← g _ (by omega)]; simp
  have eb : R[(l.length + 1) % R.length]? = some b := by rw [← g _ (by omega), List.getElem?_append_right (by omega)]; simp
  have ec : R[(l.length + 2) % R.length]? = some c := by rw [← g _ (by omega), List.getElem?_append_right (by omega)]; simp
  have mc : c ∈ R := List.mem_of_getElem? ec
  have ix : ∀ i j x, i < R.length → j < R.length → R[i]? = some x → R[j]? = some x → i = j := by
    intro i j x hi hj e1 e2
    exact (List.getElem?_inj hi h.nodup).mp (by rw [e1, e2])
  have mlt : ∀ k, k % R.length < R.length := fun k => Nat.mod_lt _ (by omega)
  have ab : Cyc R a b := by
    unfold Cyc
    refine ⟨l, (c :: r).dropLast, ?_⟩
    have t2 : R.take 2 = R.take 1 ++ (R.take 2).drop 1 := by
      have : R.take 1 = (R.take 2).take 1 := by rw [List.take_take]; rfl
      rw [this, List.take_append_drop]
    have l2 : ((R.take 2).drop 1).length = 1 := by simp; omega
    obtain ⟨w, hw⟩ := List.length_eq_one_iff.mp l2
    rw [hw] at t2
    have e' : (R ++ R.take 1) ++ [w] = l ++ a :: b :: c :: r := by rw [← e, t2]; simp
    have := congrArg List.dropLast e'
    rw [List.dropLast_concat] at this
    rw [this]
    have : l ++ a :: b :: c :: r = (l ++ [a, b]) ++ (c :: r) := by simp
    rw [this, List.dropLast_append_of_ne_nil (by simp)]; simp
  refine h.strict a b ab c mc (fun hc => ?_) fun hc => ?_
  · subst hc
    have := ix _ _ _ (mlt _) (mlt _) ec ea
    have h0 := Nat.mod_lt l.length (show 0 < R.length by omega)
    rw [Nat.add_mod] at this
    rcases Nat.lt_or_ge (l.length % R.length + 2) R.length with h' | h'
    · rw [show 2 % R.length = 2 from Nat.mod_eq_of_lt (by omega), Nat.mod_eq_of_lt h'] at this; omega
    · rw [show 2 % R.length = 2 from Nat.mod_eq_of_lt (by omega), Nat.mod_eq_sub_mod h', Nat.mod_eq_of_lt (by omega)] at this; omega
  · subst hc
    have := ix _ _ _ (mlt _) (mlt _) ec eb
    have h0 := Nat.mod_lt (l.length + 1) (show 0 < R.length by omega)
    rw [show l.length + 2 = (l.length + 1) + 1 by omega, Nat.add_mod] at this
    rcases Nat.lt_or_ge ((l.length + 1) % R.length + 1) R.length with h' | h'
    · rw [show 1 % R.length = 1 from Nat.mod_eq_of_lt (by omega), Nat.mod_eq_of_lt h'] at this; omega
    · rw [show 1 % R.length = 1 from Nat.mod_eq_of_lt (by omega), Nat.mod_eq_sub_mod h', Nat.mod_eq_of_lt (by omega)] at this; omega
/-- the outline of spots about a convex ring, its least corner first -/
theorem ring_outline {L D : List Pt} {z : Pt} {T : List Pt} (iD : Inc D) (h : Cvx (z :: T)) (least : ∀ q ∈ T, ¬ ltP q z) (mem : ∀ q ∈ z :: T, q ∈ D) (left : ∀ a b, Cyc (z :: T) a b → ∀ q ∈ D, 0 ≤ turnP a b q) : outlP D = z :: T := by
  obtain ⟨y, t, rfl⟩ : ∃ y t, T = y :: t := by
    have := h.len
    cases T with
    | nil => simp at this
    | cons y t => exact ⟨y, t, rfl⟩
  refine ring_hull iD ⟨mem, fun q hq => ?_, fun l a b r e => left a b ⟨l, r, e⟩, fun l a b c r e => h.bend (l := l) (r := r) e⟩
  rcases ltP_tri z q with h' | h' | h'
  · exact h'
  · subst h'; exact absurd hq (List.nodup_cons.mp h.nodup).1
  · exact absurd h' (least q hq)
end L2.R2

set_option Elab.async false
set_option linter.all false
set_option maxRecDepth 100000
namespace L2.R2
/-! ## the drawn ring is convex -/
theorem Rises.pair {xs : List Int} (h : Rises xs) : xs.Pairwise (· < ·) := by
  have key : ∀ (n i : Nat) (a b : Int), xs[i]? = some a → xs[i + 1 + n]? = some b → a < b := by
    intro n
    induction n with
    | zero => intro i a b e1 e2; have := h.step i a b e1 e2; omega
    | succ n ih =>
      intro i a b e1 e2
      have hl : i + 1 + (n + 1) < xs.length := (List.getElem?_eq_some_iff.mp e2).1
      have e3 : xs[i + 1 + n]? = some (xs[i + 1 + n]'(by omega)) := List.getElem?_eq_getElem _
      have h1 := ih i a _ e1 e3
      have h2 := h.step (i + 1 + n) _ b e3 (by rw [← e2]; congr 1)
      omega
  refine List.pairwise_iff_getElem.mpr fun i j hi hj hij => ?_
  refine key (j - i - 1) i _ _ (List.getElem?_eq_getElem hi) ?_
  rw [show i + 1 + (j - i - 1) = j by omega]
  exact List.getElem?_eq_getElem hj
/-- of two neighbours no item lies between -/
theorem gap_of {xs l r : List Int} {x y : Int} (h : xs.Pairwise (· < ·)) (e : xs = l ++ x :: y :: r) {v : Int} (hv : v ∈ xs) : v ≤ x ∨ y ≤ v := by
  subst e
  have h1 := List.pairwise_append.mp h
  have h2 := List.pairwise_cons.mp h1.2.1
  have h3 := List.pairwise_cons.mp h2.2
  simp only [List.mem_append, List.mem_cons] at hv
  rcases hv with hv | hv | hv | hv
  · exact Or.inl (Int.le_of_lt (h1.2.2 v hv x (by simp)))
  · exact Or.inl (by omega)
  · exact Or.inr (by omega)
  · exact Or.inr (Int.le_of_lt (h3.1 v hv))
theorem sq_le {x m : Int} (h1 : -m ≤ x) (h2 : x ≤ m) : x * x ≤ m * m := by
  have : 0 ≤ (m - x) * (m + x) := Int.mul_nonneg (by omega) (by omega)
  have e : (m - x) * (m + x) = m * m - x * x := by grind
  omega
/-- what of three numbers is the furthest from nought -/
theorem far3 (top a b c : Int) (ha : 2 * (a * a) + 1 ≤ top) (hb : 2 * (b * b) + 1 ≤ top) (hc : 2 * (c * c) + 1 ≤ top) : ∃ m : Int, 0 ≤ m ∧ 2 * (m * m) + 1 ≤ top ∧ (-m ≤ a ∧ a ≤ m) ∧ (-m ≤ b ∧ b ≤ m) ∧ (-m ≤ c ∧ c ≤ m) := by
  have ab : ∀ x : Int, (x.natAbs : Int) * x.natAbs = x * x := fun x => Int.natAbs_mul_self' x
  rcases Nat.le_total a.natAbs b.natAbs with h1 | h1 <;> rcases Nat.le_total b.natAbs c.natAbs with h2 | h2 <;> rcases Nat.le_total a.natAbs c.natAbs with h3 | h3
  · exact ⟨c.natAbs, by omega, by rw [ab]; exact hc, by omega, by omega, by omega⟩
  · exact ⟨c.natAbs, by omega, by rw [ab]; exact hc, by omega, by omega, by omega⟩
  · exact ⟨b.natAbs, by omega, by rw [ab]; exact hb, by omega, by omega, by omega⟩
  · exact ⟨b.natAbs, by omega, by rw [ab]; exact hb, by omega, by omega, by omega⟩
  · exact ⟨c.natAbs, by omega, by rw [ab]; exact hc, by omega, by omega, by omega⟩
  · exact ⟨a.natAbs, by omega, by rw [ab]; exact ha, by omega, by omega, by omega⟩
  · exact ⟨a.natAbs, by omega, by rw [ab]; exact ha, by omega, by omega, by omega⟩
  · exact ⟨a.natAbs, by omega, by rw [ab]; exact ha, by omega, by omega, by omega⟩
abbrev lo (x : Int) : Pt := (x, x * x)
abbrev hi (top x : Int) : Pt := (x, top - x * x)
section
variable {top : Int}
theorem t_low_low {x y v : Int} (h : x < y) (hv : v < x ∨ y < v) : 0 < turnP (lo x) (lo y) (lo v) := by
  have e : turnP (lo x) (lo y) (lo v) = (y - x) * ((v - x) * (v - y)) := by unfold turnP; dsimp only; grind
  rw [e]
  refine Int.mul_pos (by omega) ?_
  rcases hv with hv | hv
  · have e2 : (v - x) * (v - y) = (x - v) * (y - v) := by grind
    rw [e2]; exact Int.mul_pos (by omega) (by omega)
  · exact Int.mul_pos (by omega) (by omega)
/-- below the chord of two numbers -/
theorem chord {m x y v : Int} (hx : -m ≤ x ∧ x ≤ m) (hy : -m ≤ y ∧ y ≤ m) (hv : -m ≤ v ∧ v ≤ m) : (x + y) * v - x * y ≤ m * m := by
  by_cases h1 : x ≤ v
  · by_cases h2 : y ≤ v
    · have h : 0 ≤ (v - x) * (v - y) := Int.mul_nonneg (by omega) (by omega)
      have e : (v - x) * (v - y) = v * v - ((x + y) * v - x * y) := by grind
      have := sq_le hv.1 hv.2
      omega
    · -- x ≤ v < y
      have h : 0 ≤ (v - x) * (y - v) := Int.mul_nonneg (by omega) (by omega)
      have g1 : 0 ≤ (m - y) * (m + x) := Int.mul_nonneg (by omega) (by omega)
      by_cases hs : 0 ≤ x + y
      · have : 0 ≤ (x + y) * (y - v) := Int.mul_nonneg hs (by omega)
        have e : (x + y) * (y - v) = y * y - ((x + y) * v - x * y) := by grind
        have := sq_le hy.1 hy.2
        omega
      · have : 0 ≤ (-(x + y)) * (v - x) := Int.mul_nonneg (by omega) (by omega)
        have e : (-(x + y)) * (v - x) = x * x - ((x + y) * v - x * y) := by grind
        have := sq_le hx.1 hx.2
        omega
  · by_cases h2 : y ≤ v
    · by_cases hs : 0 ≤ x + y
      · have : 0 ≤ (x + y) * (x - v) := Int.mul_nonneg hs (by omega)
        have e : (x + y) * (x - v) = x * x - ((x + y) * v - x * y) := by grind
        have := sq_le hx.1 hx.2
        omega
      · have : 0 ≤ (-(x + y)) * (v - y) := Int.mul_nonneg (by omega) (by omega)
        have e : (-(x + y)) * (v - y) = y * y - ((x + y) * v - x * y) := by grind
        have := sq_le hy.1 hy.2
        omega
    · have h : 0 ≤ (x - v) * (y - v) := Int.mul_nonneg (by omega) (by omega)
      have e : (x - v) * (y - v) = v * v - ((x + y) * v - x * y) := by grind
      have := sq_le hv.1 hv.2
      omega
theorem t_low_high {x y v : Int} (h : x < y) (hx : 2 * (x * x) + 1 ≤ top) (hy : 2 * (y * y) + 1 ≤ top) (hv : 2 * (v * v) + 1 ≤ top) : 0 < turnP (lo x) (lo y) (hi top v) := by
  obtain ⟨m, m0, mt, a, b, c⟩ := far3 top x y v hx hy hv
  have e : turnP (lo x) (lo y) (hi top v) = (y - x) * (top - v * v - ((x + y) * v - x * y)) := by unfold turnP; dsimp only; grind
  rw [e]
  have := chord a b c
  have := sq_le c.1 c.2
  exact Int.mul_pos (by omega) (by omega)
theorem t_high_high {x y v : Int} (h : x < y) (hv : v < x ∨ y < v) : 0 < turnP (hi top y) (hi top x) (hi top v) := by
  have e : turnP (hi top y) (hi top x) (hi top v) = turnP (lo x) (lo y) (lo v) := by unfold turnP; dsimp only; grind
  rw [e]; exact t_low_low h hv
theorem t_high_low {x y v : Int} (h : x < y) (hx : 2 * (x * x) + 1 ≤ top) (hy : 2 * (y * y) + 1 ≤ top) (hv : 2 * (v * v) + 1 ≤ top) : 0 < turnP (hi top y) (hi top x) (lo v) := by
  have e : turnP (hi top y) (hi top x) (lo v) = turnP (lo x) (lo y) (hi top v) := by unfold turnP; dsimp only; grind
  rw [e]; exact t_low_high h hx hy hv
theorem slant {m b l v : Int} (m0 : 0 ≤ m) (hb : -m ≤ b ∧ b ≤ m) (hl : -m ≤ l ∧ l ≤ m) (hv : -m ≤ v ∧ v ≤ m) : 0 ≤ 2 * (m * m) - b * b - b * (l + v) + l * v := by
  have h1 : 0 ≤ (m - b) * (m + b) := Int.mul_nonneg (by omega) (by omega)
  have g1 : 0 ≤ (m + b) * ((m - l) * (m - v)) := Int.mul_nonneg (by omega) (Int.mul_nonneg (by omega) (by omega))
  have g2 : 0 ≤ (m - b) * ((m + l) * (m + v)) := Int.mul_nonneg (by omega) (Int.mul_nonneg (by omega) (by omega))
  have e2 : (m + b) * ((m - l) * (m - v)) + (m - b) * ((m + l) * (m + v)) = 2 * m * (m * m + l * v - b * (l + v)) := by grind
  have e1 : (m - b) * (m + b) = m * m - b * b := by grind
  have : 0 ≤ m * m + l * v - b * (l + v) := by
    rcases Int.lt_or_eq_of_le m0 with hm | hm
    · apply Int.not_lt.mp
      intro hn
      have : 2 * m * (m * m + l * v - b * (l + v)) < 0 := Int.mul_neg_of_pos_of_neg (by omega) hn
      omega
    · have : b = 0 := by omega
      have : l = 0 := by omega
      subst_vars
      simp
  omega
/-- the side from the last low corner up to the first high one -/
theorem t_up_low {l b v : Int} (h : v < l) (hl : 2 * (l * l) + 1 ≤ top) (hb : 2 * (b * b) + 1 ≤ top) (hv : 2 * (v * v) + 1 ≤ top) : 0 < turnP (lo l) (hi top b) (lo v) := by
  obtain ⟨m, m0, mt, a1, a2, a3⟩ := far3 top l b v hl hb hv
  have e : turnP (lo l) (hi top b) (lo v) = (l - v) * (top - b * b - b * (l + v) + l * v) := by unfold turnP; dsimp only; grind
  rw [e]
  have := slant m0 a2 a1 a3
  exact Int.mul_pos (by omega) (by omega)
theorem t_up_high {l b v : Int} (h : v < b) (hl : 2 * (l * l) + 1 ≤ top) (hb : 2 * (b * b) + 1 ≤ top) (hv : 2 * (v * v) + 1 ≤ top) : 0 < turnP (lo l) (hi top b) (hi top v) := by
  obtain ⟨m, m0, mt, a1, a2, a3⟩ := far3 top l b v hl hb hv
  have e : turnP (lo l) (hi top b) (hi top v) = (b - v) * (top - l * l - l * (b + v) + b * v) := by unfold turnP; dsimp only; grind
  rw [e]
  have := slant m0 a1 a2 a3
  exact Int.mul_pos (by omega) (by omega)
/-- the side from the last high corner down to the first low one -/
theorem t_dn_low {l b v : Int} (h : l < v) (hl : 2 * (l * l) + 1 ≤ top) (hb : 2 * (b * b) + 1 ≤ top) (hv : 2 * (v * v) + 1 ≤ top) : 0 < turnP (hi top b) (lo l) (lo v) := by
  obtain ⟨m, m0, mt, a1, a2, a3⟩ := far3 top l b v hl hb hv
  have e : turnP (hi top b) (lo l) (lo v) = (v - l) * (top - b * b - b * (l + v) + l * v) := by unfold turnP; dsimp only; grind
  rw [e]
  have := slant m0 a2 a1 a3
  exact Int.mul_pos (by omega) (by omega)
theorem t_dn_high {l b v : Int} (h : b < v) (hl : 2 * (l * l) + 1 ≤ top) (hb : 2 * (b * b) + 1 ≤ top) (hv : 2 * (v * v) + 1 ≤ top) : 0 < turnP (hi top b) (lo l) (hi top v) := by
  obtain ⟨m, m0, mt, a1, a2, a3⟩ := far3 top l b v hl hb hv
  have e : turnP (hi top b) (lo l) (hi top v) = (v - b) * (top - l * l - l * (b + v) + b * v) := by unfold turnP; dsimp only; grind
  rw [e]
  have := slant m0 a1 a2 a3
  exact Int.mul_pos (by omega) (by omega)
end
theorem nxt_mapI {f : Int → Pt} {L : List Int} {a b : Pt} (h : Nxt (L.map f) a b) : ∃ l x y r, L = l ++ x :: y :: r ∧ a = f x ∧ b = f y := by
  obtain ⟨l, r, e⟩ := h
  obtain ⟨l1, l2, rfl, rfl, e2⟩ := List.map_eq_append_iff.mp e
  obtain ⟨x, l3, rfl, rfl, e3⟩ := List.map_eq_cons_iff.mp e2
  obtain ⟨y, l4, rfl, rfl, e4⟩ := List.map_eq_cons_iff.mp e3
  exact ⟨l1, x, y, l4, rfl, rfl, rfl⟩
theorem lt_last {xs l : List Int} {x : Int} (h : xs.Pairwise (· < ·)) (e : xs = l ++ [x]) {v : Int} (hv : v ∈ xs) : v = x ∨ v < x := by
  subst e
  rcases List.mem_append.mp hv with hv | hv
  · exact Or.inr ((List.pairwise_append.mp h).2.2 v hv x (by simp))
  · exact Or.inl (by simpa using hv)
theorem lt_first {xs r : List Int} {x : Int} (h : xs.Pairwise (· < ·)) (e : xs = x :: r) {v : Int} (hv : v ∈ xs) : v = x ∨ x < v := by
  subst e
  rcases List.mem_cons.mp hv with hv | hv
  · exact Or.inl hv
  · exact Or.inr ((List.pairwise_cons.mp h).1 v hv)
theorem bowed_cvx {lows highs : List Int} {top : Int} (hl : lows.Pairwise (· < ·)) (hh : highs.Pairwise (· < ·)) (nl : 2 ≤ lows.length) (nh : 1 ≤ highs.length) (ht : ∀ x ∈ lows ++ highs, 2 * (x * x) + 1 ≤ top) : Cvx (bowed lows highs top) := by
  have tl : ∀ x ∈ lows, 2 * (x * x) + 1 ≤ top := fun x h => ht x (by simp [h])
  have th : ∀ x ∈ highs, 2 * (x * x) + 1 ≤ top := fun x h => ht x (by simp [h])
  have memB : ∀ q ∈ bowed lows highs top, (∃ v ∈ lows, q = lo v) ∨ (∃ v ∈ highs, q = hi top v) := by
    intro q hq
    rcases List.mem_append.mp hq with h | h
    · obtain ⟨v, hv, rfl⟩ := List.mem_map.mp h; exact Or.inl ⟨v, hv, rfl⟩
    · obtain ⟨v, hv, rfl⟩ := List.mem_map.mp h; exact Or.inr ⟨v, List.mem_reverse.mp hv, rfl⟩
  refine ⟨by simp [bowed]; omega, ?_, fun a b hab q hq n1 n2 => ?_⟩
  · unfold bowed
    rw [List.nodup_append]
    refine ⟨?_, ?_, fun a ha b hb e => ?_⟩
    · exact List.Pairwise.map _ (fun x y h e => by simp at e; omega) hl
    · rw [List.map_reverse]
      exact List.pairwise_reverse.mpr (List.Pairwise.map _ (fun x y h e => by simp at e; omega) hh)
    · obtain ⟨x, hx, rfl⟩ := List.mem_map.mp ha
      obtain ⟨y, hy, rfl⟩ := List.mem_map.mp hb
      simp at e
      obtain ⟨rfl, e⟩ := e
      have := tl x hx
      omega
  · obtain ⟨l0, l1, ls, hls⟩ : ∃ x y r, lows = x :: y :: r := by
      match lows, nl with
      | x :: y :: r, _ => exact ⟨x, y, r, rfl⟩
    have t1 : (bowed lows highs top).take 1 = [lo l0] := by rw [hls]; rfl
    unfold Cyc at hab
    rw [t1] at hab
    unfold bowed at hab
    rw [List.append_assoc] at hab
    rcases nxt_append _ _ a b hab with h | ⟨⟨A', h1⟩, B', h2⟩ | h
    · -- two low ones
      obtain ⟨l, x, y, r, e, rfl, rfl⟩ := nxt_mapI h
      have hxy : x < y := by rw [e] at hl; exact (List.pairwise_cons.mp (List.pairwise_append.mp hl).2.1).1 y (by simp)
      have mx : x ∈ lows := by rw [e]; simp
      have my : y ∈ lows := by rw [e]; simp
      rcases memB q hq with ⟨v, hv, rfl⟩ | ⟨v, hv, rfl⟩
      · refine t_low_low hxy ?_
        rcases gap_of hl e hv with h | h
        · rcases Int.lt_or_eq_of_le h with h | h
          · exact Or.inl h
          · subst h; exact absurd rfl n1
        · rcases Int.lt_or_eq_of_le h with h | h
          · exact Or.inr h
          · subst h; exact absurd rfl n2
      · exact t_low_high hxy (tl x mx) (tl y my) (th v hv)
    · -- the last low one and the first high one
      obtain ⟨m1, m2, e, e1, e2⟩ := List.map_eq_append_iff.mp h1
      obtain ⟨x, m3, rfl, rfl, e3⟩ := List.map_eq_cons_iff.mp e2
      have : m3 = [] := by simpa using e3
      subst this
      have hr : highs.reverse ≠ [] := by
        intro h0
        have := congrArg List.length h0
        simp at this
        subst this; simp at nh
      obtain ⟨y, hr', ey⟩ : ∃ y hr', highs.reverse = y :: hr' := by
        cases hq' : highs.reverse with
        | nil => exact absurd hq' hr
        | cons y r => exact ⟨y, r, rfl⟩
      rw [ey] at h2
      simp at h2
      obtain ⟨rfl, _⟩ := h2
      have eh : highs = hr'.reverse ++ [y] := by
        have := congrArg List.reverse ey
        simpa using this
      have mx : x ∈ lows := by rw [e]; simp
      have my : y ∈ highs := by rw [eh]; simp
      rcases memB q hq with ⟨v, hv, rfl⟩ | ⟨v, hv, rfl⟩
      · rcases lt_last hl e hv with h | h
        · subst h; exact absurd rfl n1
        · exact t_up_low h (tl x mx) (th y my) (tl v hv)
      · rcases lt_last hh eh hv with h | h
        · subst h; exact absurd rfl n2
        · exact t_up_high h (tl x mx) (th y my) (th v hv)
    · rcases nxt_append _ _ a b h with h | ⟨⟨A', h1⟩, B', h2⟩ | ⟨l, r, h⟩
      · -- two high ones
        obtain ⟨l, x, y, r, e, rfl, rfl⟩ := nxt_mapI h
        have e' : highs = r.reverse ++ y :: x :: l.reverse := by
          have := congrArg List.reverse e
          simpa using this
        have hxy : y < x := by rw [e'] at hh; exact (List.pairwise_cons.mp (List.pairwise_append.mp hh).2.1).1 x (by simp)
        have mx : x ∈ highs := by rw [e']; simp
        have my : y ∈ highs := by rw [e']; simp
        rcases memB q hq with ⟨v, hv, rfl⟩ | ⟨v, hv, rfl⟩
        · exact t_high_low hxy (th y my) (th x mx) (tl v hv)
        · refine t_high_high hxy ?_
          rcases gap_of hh e' hv with h | h
          · rcases Int.lt_or_eq_of_le h with h | h
            · exact Or.inl h
            · subst h; exact absurd rfl n2
          · rcases Int.lt_or_eq_of_le h with h | h
            · exact Or.inr h
            · subst h; exact absurd rfl n1
      · -- the last high one and the first low one
        simp at h2
        obtain ⟨rfl, _⟩ := h2
        obtain ⟨m1, m2, e, e1, e2⟩ := List.map_eq_append_iff.mp h1
        obtain ⟨y, m3, rfl, rfl, e3⟩ := List.map_eq_cons_iff.mp e2
        have : m3 = [] := by simpa using e3
        subst this
        have eh : highs = y :: m1.reverse := by
          have := congrArg List.reverse e
          simpa using this
        have my : y ∈ highs := by rw [eh]; simp
        have ml : l0 ∈ lows := by rw [hls]; simp
        rcases memB q hq with ⟨v, hv, rfl⟩ | ⟨v, hv, rfl⟩
        · rcases lt_first hl hls hv with h | h
          · subst h; exact absurd rfl n2
          · exact t_dn_low h (tl l0 ml) (th y my) (tl v hv)
        · rcases lt_first hh eh hv with h | h
          · subst h; exact absurd rfl n1
          · exact t_dn_high h (tl l0 ml) (th y my) (th v hv)
      · have := congrArg List.length h
        simp at this
        omega
theorem aff_turn (p q r s ox oy : Int) (a b c : Pt) : turnP (aff p q r s ox oy a) (aff p q r s ox oy b) (aff p q r s ox oy c) = (p * s - q * r) * turnP a b c := by
  unfold turnP aff; dsimp only; grind
theorem aff_inj {p q r s ox oy : Int} (hd : 0 < p * s - q * r) (a b : Pt) (h : aff p q r s ox oy a = aff p q r s ox oy b) : a = b := by
  unfold aff at h
  simp only [Prod.mk.injEq] at h
  obtain ⟨h1, h2⟩ := h
  have e1 : (p * s - q * r) * (a.1 - b.1) = 0 := by grind
  have e2 : (p * s - q * r) * (a.2 - b.2) = 0 := by grind
  have k1 := (Int.mul_eq_zero.mp e1).resolve_left (by omega)
  have k2 := (Int.mul_eq_zero.mp e2).resolve_left (by omega)
  exact Prod.ext (by omega) (by omega)
theorem ringOf_cvx {lows highs : List Int} {top p q r s ox oy : Int} (F : RingForm lows highs top p q r s ox oy) : Cvx (ringOf lows highs top p q r s ox oy) :=
  (bowed_cvx F.lowsR.pair F.highsR.pair F.lowsN.1 F.highsN.1 F.topL).map F.det (aff_turn p q r s ox oy) (aff_inj F.det)
end L2.R2

set_option Elab.async false
set_option linter.all false
set_option maxRecDepth 100000
set_option maxHeartbeats 4000000
namespace L2.R2
open PySem PySem.Spec PyProof.Rows L2
local macro_rules | `(tactic| walk_at "rd") => `(tactic| simp only [rSeq, rNext, rRet, rDrop, rIfS, rSet, rSetO, rPar, rAsg, rgName, rgTup, rgCons, rgNil, rVar, rVarB, rC, r2, r1, rTest, rAnd, rOr, rNot, rAndV, rOrV, rNotV, rIf, raNil, raCons, rTup, rLst, rCall, rCB, rNoPart, rPart, rSlL', rFor, riEn, riL, riT, riR1, riR2, rComp, compD, capE, capO, fzAt, rAppD, rPopD, rSetIx, rZip, seqD, rSlA, dAddA, dListOf, dTupOf, dSum, dNe, rIndex, riRev, riZip,
  dAdd, dSub, dMul, dFdiv, dMod, dPow, dNeg, dCmp, dEqS, dIsN, dEq_rd, isNon, dIx_tup0, dIx_tup1, dIx_tup2, dIx_lst0, dIx_lst1, dIx_lst2, dIx_lst3, dIx_lst4, dIx_lst5, dIx_lst6, dIx_lst7, dIx_lst8, dIx_lst9, dIx_lst10, dIx_lst11, dAbs, dInt, dMax2, dMin2, dLen, dIsi, isi_ii, isi_bi, isi_ib, isi_bb, isi_tt, S.val, startN, rep0, rep1, rep2, rep3, rep4, rep5, rep6, rep7, rep8, rep9, rep10, rep11, rep12,
  List.map_cons, List.map_nil, List.cons_append, List.nil_append, List.length_cons, List.length_nil, List.getElem?_cons_zero, List.getElem?_cons_succ, List.set_cons_zero, List.set_cons_succ, List.append_nil,
  Bool.or_false, Bool.or_true, Bool.false_or, Bool.true_or, Bool.not_true, Bool.not_false, if_true, if_false, Bool.false_eq_true, sz0, sz1, sz2, sz3, sz4, true_and, decide_eq_true_eq, Int.reduceToNat, Int.reducePow, Int.reduceMul, Int.reduceSub, Int.reduceAdd, Int.reduceNeg])
local macro_rules | `(tactic| walk_at "side") => `(tactic| first | exact pow_ok | exact mod_ok | exact (BL.const (n := 9000) (by decide)).divOk (by decide) | exact (BL.const (n := 300) (by decide)).mulOk (BL.const (n := 300) (by decide)))
local macro_rules | `(tactic| walk_at "sides") => `(tactic| repeat (refine And.intro (by walk_at "side") ?_))
/-! ## settled: the one way of telling -/
structure NormOf (share : Int) (cs : List Pt) (m sh : Int) (zs : List Pt) : Prop where
  mpos : 0 < m
  sh_eq : share = m * sh
  cs_eq : cs = zs.map fun z => (m * z.1, m * z.2)
  cop : ∀ d : Nat, (d : Int) ∣ sh → (∀ z ∈ zs, (d : Int) ∣ z.1 ∧ (d : Int) ∣ z.2) → d = 1
theorem dvd_of_scaled {a b x y : Int} (ha : 0 < a) (hb : 0 < b) (e : a * x = b * y) : a / (Int.gcd a b : Nat) ∣ y := by
  have hg : (0 : Int) < (Int.gcd a b : Nat) := by
    have := Int.gcd_pos_of_ne_zero_left (a := a) b (by omega); omega
  obtain ⟨a', ea⟩ : ((Int.gcd a b : Nat) : Int) ∣ a := Int.gcd_dvd_left ..
  obtain ⟨b', eb⟩ : ((Int.gcd a b : Nat) : Int) ∣ b := Int.gcd_dvd_right ..
  have e1 : a / (Int.gcd a b : Nat) = a' := by
    have : a / ((Int.gcd a b : Nat) : Int) = (((Int.gcd a b : Nat) : Int) * a') / ((Int.gcd a b : Nat) : Int) := congrArg (· / ((Int.gcd a b : Nat) : Int)) ea
    rw [this, Int.mul_ediv_cancel_left _ (by omega)]
  have e2 : b / (Int.gcd a b : Nat) = b' := by
    have : b / ((Int.gcd a b : Nat) : Int) = (((Int.gcd a b : Nat) : Int) * b') / ((Int.gcd a b : Nat) : Int) := congrArg (· / ((Int.gcd a b : Nat) : Int)) eb
    rw [this, Int.mul_ediv_cancel_left _ (by omega)]
  have cop : Int.gcd a' b' = 1 := by
    have := Int.gcd_ediv_gcd_ediv_gcd (i := a) (j := b) (by have := hg; omega)
    rw [e1, e2] at this
    exact this
  rw [e1]
  have h : a' * x = b' * y := by
    have : ((Int.gcd a b : Nat) : Int) * (a' * x) = ((Int.gcd a b : Nat) : Int) * (b' * y) := by
      rw [← Int.mul_assoc, ← Int.mul_assoc, ← ea, ← eb]; exact e
    exact Int.eq_of_mul_eq_mul_left (by omega) this
  have d : a' ∣ b' * y := ⟨x, h.symm⟩
  have d2 : a'.natAbs ∣ b'.natAbs * y.natAbs := by rw [← Int.natAbs_mul]; exact Int.natAbs_dvd_natAbs.mpr d
  exact Int.natAbs_dvd_natAbs.mp (Nat.Coprime.dvd_of_dvd_mul_left (show Nat.Coprime a'.natAbs b'.natAbs from cop) d2)
theorem norm_half {a b sh sh' : Int} {zs zs' : List Pt} (ha : 0 < a) (hb : 0 < b) (e1 : a * sh = b * sh') (e2 : zs.map (fun z => (a * z.1, a * z.2)) = zs'.map fun z => (b * z.1, b * z.2))
    (cop : ∀ d : Nat, (d : Int) ∣ sh' → (∀ z ∈ zs', (d : Int) ∣ z.1 ∧ (d : Int) ∣ z.2) → d = 1) : a ∣ b := by
  have len : zs.length = zs'.length := by have := congrArg List.length e2; simpa using this
  have hg : (0 : Int) < (Int.gcd a b : Nat) := by
    have := Int.gcd_pos_of_ne_zero_left (a := a) b (by omega); omega
  obtain ⟨a', ea⟩ : ((Int.gcd a b : Nat) : Int) ∣ a := Int.gcd_dvd_left ..
  have e0 : a / (Int.gcd a b : Nat) = a' := by
    have : a / ((Int.gcd a b : Nat) : Int) = (((Int.gcd a b : Nat) : Int) * a') / ((Int.gcd a b : Nat) : Int) := congrArg (· / ((Int.gcd a b : Nat) : Int)) ea
    rw [this, Int.mul_ediv_cancel_left _ (by omega)]
  have pa : 0 < a' := by
    apply Int.not_le.mp
    intro hn
    have : ((Int.gcd a b : Nat) : Int) * a' ≤ 0 := Int.mul_nonpos_of_nonneg_of_nonpos (by omega) hn
    omega
  have one := cop a'.toNat (by
    rw [Int.toNat_of_nonneg (by omega), ← e0]; exact dvd_of_scaled ha hb e1) fun z hz => by
    rw [Int.toNat_of_nonneg (by omega), ← e0]
    obtain ⟨i, hi, rfl⟩ := List.getElem_of_mem hz
    have hi' : i < zs.length := by omega
    have ei : (zs.map fun z => (a * z.1, a * z.2))[i]? = (zs'.map fun z => (b * z.1, b * z.2))[i]? := by rw [e2]
    rw [List.getElem?_map, List.getElem?_map, List.getElem?_eq_getElem hi, List.getElem?_eq_getElem hi'] at ei
    simp only [Option.map_some, Option.some.injEq, Prod.mk.injEq] at ei
    exact ⟨dvd_of_scaled ha hb ei.1, dvd_of_scaled ha hb ei.2⟩
  have : a' = 1 := by omega
  rw [this, Int.mul_one] at ea
  rw [ea]
  exact Int.gcd_dvd_right ..
theorem norm_unique {a b sh sh' : Int} {zs zs' : List Pt} (ha : 0 < a) (hb : 0 < b) (e1 : a * sh = b * sh') (e2 : zs.map (fun z => (a * z.1, a * z.2)) = zs'.map fun z => (b * z.1, b * z.2))
    (c1 : ∀ d : Nat, (d : Int) ∣ sh → (∀ z ∈ zs, (d : Int) ∣ z.1 ∧ (d : Int) ∣ z.2) → d = 1) (c2 : ∀ d : Nat, (d : Int) ∣ sh' → (∀ z ∈ zs', (d : Int) ∣ z.1 ∧ (d : Int) ∣ z.2) → d = 1) : sh = sh' ∧ zs = zs' := by
  have h1 := norm_half ha hb e1 e2 c2
  have h2 := norm_half hb ha e1.symm e2.symm c1
  have hab : a = b := Int.le_antisymm (Int.le_of_dvd hb h1) (Int.le_of_dvd ha h2)
  subst hab
  refine ⟨Int.eq_of_mul_eq_mul_left (by omega) e1, ?_⟩
  have len : zs.length = zs'.length := by have := congrArg List.length e2; simpa using this
  apply List.ext_getElem len
  intro i hi hi'
  have ei : (zs.map fun z => (a * z.1, a * z.2))[i]? = (zs'.map fun z => (a * z.1, a * z.2))[i]? := by rw [e2]
  rw [List.getElem?_map, List.getElem?_map, List.getElem?_eq_getElem hi, List.getElem?_eq_getElem hi'] at ei
  simp only [Option.map_some, Option.some.injEq, Prod.mk.injEq] at ei
  exact Prod.ext (Int.eq_of_mul_eq_mul_left (by omega) ei.1) (Int.eq_of_mul_eq_mul_left (by omega) ei.2)
/-- two tellings of the same shape are settled alike -/
theorem NormOf.same {share share' m m' sh sh' k k' : Int} {cs cs' zs zs' : List Pt} (h : NormOf share cs m sh zs) (h' : NormOf share' cs' m' sh' zs') (hk : 0 < k) (hk' : 0 < k') (e1 : k * share = k' * share') (e2 : cs.map (fun z => (k * z.1, k * z.2)) = cs'.map fun z => (k' * z.1, k' * z.2)) : sh = sh' ∧ zs = zs' := by
  refine norm_unique (a := k * m) (b := k' * m') (Int.mul_pos hk h.mpos) (Int.mul_pos hk' h'.mpos) ?_ ?_ h.cop h'.cop
  · rw [Int.mul_assoc, Int.mul_assoc, ← h.sh_eq, ← h'.sh_eq]; exact e1
  · rw [h.cs_eq, h'.cs_eq, List.map_map, List.map_map] at e2
    simp only [Function.comp_def, ← Int.mul_assoc] at e2
    exact e2
structure RingIn (ps : List Pt) (z : Pt) (T : List Pt) : Prop where
  cvx : Cvx (z :: T)
  least : ∀ q ∈ T, ¬ ltP q z
  mem : ∀ q ∈ z :: T, q ∈ ps
  left : ∀ a b, Cyc (z :: T) a b → ∀ q ∈ ps, 0 ≤ turnP a b q
def Flat (ps : List Pt) : Prop := ∀ D, Inc D → (∀ z, z ∈ D ↔ z ∈ ps) → 2 ≤ D.length → (outlP D).length < 3
def F_settled : FD := fun ds Q => ∃ (share : Int) (ps : List Pt), ds = [.int share, pts ps] ∧ (0 < share ∧ BL 9000 share) ∧ (∀ z ∈ ps, BP z) ∧ ps.length < 64 ∧
  ((∃ z T, RingIn ps z T ∧ ∀ m sh zs, NormOf share (z :: T) m sh zs → Q (.tup [.int sh, .tup (zs.map pt)])) ∨ (Flat ps ∧ Q .non))
theorem len_settled : ∀ ds Q, F_settled ds Q → ds.length = 2 := by rintro ds Q ⟨_, _, rfl, _⟩; rfl
theorem pure_settled : ∀ ds Q, F_settled ds Q → rd_settled F_outline F_gcd { nx := fun _ => Q .non, rt := Q } (startD ["share", "points", "corners", "divisor", "x", "y"] ds) := by
  rintro ds Q ⟨share, ps, rfl, ⟨hs, bs⟩, hb, hl, hq⟩
  rw [startD_eq 4 rfl]
  unfold rd_settled
  simp only [startN, rep4, List.map_cons, List.map_nil, List.cons_append, List.nil_append]
  refine seq_by (fun ρ => ∃ r : List Pt, r.length ≤ 200 ∧ ((r.length < 3 ∧ Q .non) ∨ (3 ≤ r.length ∧ ∀ m sh zs, NormOf share r m sh zs → Q (.tup [.int sh, .tup (zs.map pt)]))) ∧ ρ = [some (.d (.int share)), some (.d (pts ps)), some (.d (pts r)), none, none, none]) (fun K hK => ?_) ?_
  · walk_at "rd"
    refine ⟨ps, rfl, hb, hl, fun D r iD hm h2 h1 hr => hK _ ⟨r, hr, ?_, rfl⟩⟩
    rcases hq with ⟨z, T, R, q⟩ | ⟨fl, q⟩
    · have sub : 3 ≤ D.length := by
        have := len_le_of_sub (z :: T) D R.cvx.nodup fun x hx => (hm x).mpr (R.mem x hx)
        have := R.cvx.len
        omega
      have e := ring_outline (L := ps) iD R.cvx R.least (fun x hx => (hm x).mpr (R.mem x hx)) fun a b hab x hx => R.left a b hab x ((hm x).mp hx)
      have er := h2 (by omega)
      rw [e] at er
      subst er
      exact Or.inr ⟨R.cvx.len, q⟩
    · refine Or.inl ⟨?_, q⟩
      by_cases hd : 2 ≤ D.length
      · rw [h2 hd]; exact fl D iD hm hd
      · exact h1 (by omega)
  rintro ρ ⟨r, hr, hq, rfl⟩
  rcases hq with ⟨h3, q⟩ | ⟨h3, q⟩
  · walk_at "rd"
    rw [if_pos (by simp; omega)]
    exact q
  refine seq_by (fun ρ => ρ = [some (.d (.int share)), some (.d (pts ps)), some (.d (pts r)), none, none, none]) (fun K hK => ?_) ?_
  · walk_at "rd"
    rw [if_neg (by simp; omega)]
    exact hK _ rfl
  rintro ρ rfl
  refine seq_by (fun ρ => ρ = [some (.d (.int share)), some (.d (pts ps)), some (.d (pts r)), some (.d (.int share)), none, none]) (fun K hK => ?_) ?_
  · walk_at "rd"
    exact hK _ rfl
  rintro ρ rfl
  refine seq_by (fun ρ => ∃ (g : Nat) (x y : Option S), GcdOf share r g ∧ ρ = [some (.d (.int share)), some (.d (pts ps)), some (.d (pts r)), some (.d (.int g)), x, y]) (fun K hK => ?_) ?_
  · walk_at "rd"
    refine for_ind (fun xs ρ => ∃ (done rest : List Pt) (g : Nat) (x y : Option S), r = done ++ rest ∧ xs = rest.map pt ∧ GcdOf share done g ∧ ρ = [some (.d (.int share)), some (.d (pts ps)), some (.d (pts r)), some (.d (.int g)), x, y]) ?_ ?_ _ _ ⟨[], r, share.toNat, none, none, rfl, rfl, ⟨by omega, ?_, by simp, fun d e1 _ => ?_⟩, ?_⟩
    · rintro x xs ρ ⟨done, rest, g, u, v, e, ex, hg, rfl⟩ F _ _ hn _
      cases rest with
      | nil => cases ex
      | cons z rest =>
        cases ex
        unfold rd_settled_b1
        walk_at "rd"
        refine ⟨_, _, rfl, _, _, rfl, ?_⟩
        exact hn _ ⟨done ++ [z], rest, _, _, _, by simpa using e, rfl, hg.snoc z, rfl⟩
    · rintro ρ ⟨done, rest, g, u, v, e, ex, hg, rfl⟩
      have : rest = [] := by simpa using ex.symm
      subst this
      rw [List.append_nil] at e
      subst e
      exact hK _ ⟨g, u, v, hg, rfl⟩
    · have : (share.toNat : Int) = share := by omega
      rw [this]; exact Int.dvd_refl _
    · have : (share.toNat : Int) = share := by omega
      exact_mod_cast (by rw [this]; exact e1 : (d : Int) ∣ (share.toNat : Int))
    · have : (share.toNat : Int) = share := by omega
      rw [this]
  rintro ρ ⟨g, x, y, hg, rfl⟩
  have gp : (0 : Int) < g := by have := hg.pos; omega
  have gb : BL 9000 (g : Int) := hg.bl hs bs
  obtain ⟨zs, ez⟩ : ∃ zs, zs = r.map fun z => (z.1 / (g : Int), z.2 / (g : Int)) := ⟨_, rfl⟩
  have ec : r = zs.map fun z => ((g : Int) * z.1, (g : Int) * z.2) := by
    rw [ez, List.map_map]
    symm
    conv => rhs; rw [← List.map_id r]
    refine List.map_congr_left fun z hz => ?_
    obtain ⟨a, b⟩ := hg.all z hz
    simp only [Function.comp, id, Int.mul_ediv_cancel' a, Int.mul_ediv_cancel' b]
  obtain ⟨sh, es⟩ := hg.sh
  have ediv : share.fdiv g = sh := by
    rw [Int.fdiv_eq_ediv_of_nonneg _ (by omega), es, Int.mul_ediv_cancel_left _ (by omega)]
  walk_at "rd"
  refine ⟨gb.divOk (by omega), ?_⟩
  refine ⟨sz_le (by simp; omega), ?_⟩
  refine comp_src (fun ρ => ∃ a b, ρ = [a, b, some (.d (.int g))]) pt (fun z => pt (z.1 / (g : Int), z.2 / (g : Int))) r ?_ ⟨_, _, rfl⟩ ?_
  · rintro z hz ρ ⟨a, b, rfl⟩ K' hK'
    walk_at "rd"
    refine ⟨gb.divOk (by omega), gb.divOk (by omega), ?_⟩
    rw [Int.fdiv_eq_ediv_of_nonneg _ (by omega), Int.fdiv_eq_ediv_of_nonneg _ (by omega)]
    exact hK' _ ⟨_, _, rfl⟩
  · have e : List.map (fun z : Pt => pt (z.1 / (g : Int), z.2 / (g : Int))) r = zs.map pt := by rw [ez, List.map_map]; rfl
    rw [ediv, e]
    refine q g sh zs ⟨gp, es, ec, fun d h1 h2 => ?_⟩
    have := hg.most (d * g) (by
      rw [es]; push_cast
      obtain ⟨c, ec⟩ := h1
      exact ⟨c, by rw [ec]; grind⟩) fun z hz => by
      rw [ec] at hz
      obtain ⟨w, hw, rfl⟩ := List.mem_map.mp hz
      obtain ⟨⟨c1, e1⟩, c2, e2⟩ := h2 w hw
      push_cast
      exact ⟨⟨c1, by rw [e1]; grind⟩, c2, by rw [e2]; grind⟩
    have le := Nat.le_of_dvd hg.pos this
    have d0 : d ≠ 0 := by
      rintro rfl
      rw [Nat.zero_mul] at this
      have := Nat.eq_zero_of_zero_dvd this
      have := hg.pos
      omega
    apply Nat.le_antisymm ?_ (by omega)
    apply Nat.not_lt.mp
    intro h
    have : 2 * g ≤ d * g := Nat.mul_le_mul_right _ h
    have := hg.pos
    omega
end L2.R2

set_option Elab.async false
set_option linter.all false
set_option maxRecDepth 100000
set_option maxHeartbeats 4000000
namespace L2.R2
open PySem PySem.Spec PyProof.Rows L2
local macro_rules | `(tactic| walk_at "rd") => `(tactic| simp only [rSeq, rNext, rRet, rDrop, rIfS, rSet, rSetO, rPar, rAsg, rgName, rgTup, rgCons, rgNil, rVar, rVarB, rC, r2, r1, rTest, rAnd, rOr, rNot, rAndV, rOrV, rNotV, rIf, raNil, raCons, rTup, rLst, rCall, rCB, rNoPart, rPart, rSlL', rFor, riEn, riL, riT, riR1, riR2, rComp, compD, capE, capO, fzAt, rAppD, rPopD, rSetIx, rZip, seqD, rSlA, dAddA, dListOf, dTupOf, dSum, dNe, rIndex, riRev, riZip,
  dAdd, dSub, dMul, dFdiv, dMod, dPow, dNeg, dCmp, dEqS, dIsN, dEq_rd, isNon, dIx_tup0, dIx_tup1, dIx_tup2, dIx_lst0, dIx_lst1, dIx_lst2, dIx_lst3, dIx_lst4, dIx_lst5, dIx_lst6, dIx_lst7, dIx_lst8, dIx_lst9, dIx_lst10, dIx_lst11, dAbs, dInt, dMax2, dMin2, dLen, dIsi, isi_ii, isi_bi, isi_ib, isi_bb, isi_tt, S.val, startN, rep0, rep1, rep2, rep3, rep4, rep5, rep6, rep7, rep8, rep9, rep10, rep11, rep12,
  List.map_cons, List.map_nil, List.cons_append, List.nil_append, List.length_cons, List.length_nil, List.getElem?_cons_zero, List.getElem?_cons_succ, List.set_cons_zero, List.set_cons_succ, List.append_nil,
  Bool.or_false, Bool.or_true, Bool.false_or, Bool.true_or, Bool.not_true, Bool.not_false, if_true, if_false, Bool.false_eq_true, sz0, sz1, sz2, sz3, sz4, true_and, decide_eq_true_eq, Int.reduceToNat, Int.reducePow, Int.reduceMul, Int.reduceSub, Int.reduceAdd, Int.reduceNeg])
local macro_rules | `(tactic| walk_at "side") => `(tactic| first | exact pow_ok | exact mod_ok | exact (BL.const (n := 9000) (by decide)).divOk (by decide) | exact (BL.const (n := 300) (by decide)).mulOk (BL.const (n := 300) (by decide)))
local macro_rules | `(tactic| walk_at "sides") => `(tactic| repeat (refine And.intro (by walk_at "side") ?_))
/-! ## lists turned about -/
def Rot {α : Type} (A B : List α) : Prop := ∃ X Y, A = X ++ Y ∧ B = Y ++ X
theorem Rot.refl {α : Type} (A : List α) : Rot A A := ⟨A, [], by simp, by simp⟩
theorem Rot.symm {α : Type} {A B : List α} (h : Rot A B) : Rot B A := by obtain ⟨X, Y, a, b⟩ := h; exact ⟨Y, X, b, a⟩
theorem Rot.trans {α : Type} {A B C : List α} (h : Rot A B) (k : Rot B C) : Rot A C := by
  obtain ⟨X, Y, rfl, rfl⟩ := h
  obtain ⟨X', Y', e, rfl⟩ := k
  rcases List.append_eq_append_iff.mp e with ⟨W, e1, e2⟩ | ⟨W, e1, e2⟩
  · -- X' = Y ++ W
    exact ⟨W, Y' ++ Y, by rw [e2]; simp, by rw [e1]; simp⟩
  · exact ⟨X ++ X', W, by rw [e1]; simp, by rw [e2]; simp⟩
theorem Rot.map {α β : Type} {A B : List α} (f : α → β) (h : Rot A B) : Rot (A.map f) (B.map f) := by
  obtain ⟨X, Y, rfl, rfl⟩ := h; exact ⟨X.map f, Y.map f, by simp, by simp⟩
theorem Rot.mem {α : Type} {A B : List α} (h : Rot A B) (x : α) : x ∈ A ↔ x ∈ B := by
  obtain ⟨X, Y, rfl, rfl⟩ := h; simp [or_comm]
theorem Rot.nodup {α : Type} {A B : List α} (h : Rot A B) (n : A.Nodup) : B.Nodup := by
  obtain ⟨X, Y, rfl, rfl⟩ := h
  rw [List.nodup_append] at n ⊢
  exact ⟨n.2.1, n.1, fun a ha b hb e => n.2.2 b hb a ha e.symm⟩
theorem Rot.head {α : Type} {z : α} {S T : List α} (h : Rot (z :: S) (z :: T)) (n : (z :: S).Nodup) : S = T := by
  obtain ⟨X, Y, e1, e2⟩ := h
  cases X with
  | nil => simp at e1 e2; rw [← e1] at e2; exact (List.cons.inj e2).2.symm
  | cons x X =>
    cases Y with
    | nil => simp at e1 e2; rw [e1.2, e2.2]
    | cons y Y =>
      simp at e1 e2
      have h1 := (List.nodup_cons.mp n).1
      rw [e1.2] at h1
      exact absurd (by rw [← e2.1]; simp) h1
/-- of rings turned about, those with the least corner first are one -/
theorem Rot.least {z w : Pt} {S T : List Pt} (h : Rot (z :: S) (w :: T)) (n : (z :: S).Nodup) (l1 : ∀ q ∈ S, ¬ ltP q z) (l2 : ∀ q ∈ T, ¬ ltP q w) : z :: S = w :: T := by
  have hz : z ∈ w :: T := (h.mem z).mp (by simp)
  have hw : w ∈ z :: S := (h.mem w).mpr (by simp)
  have e : z = w := by
    rcases List.mem_cons.mp hz with e | hz
    · exact e
    · rcases List.mem_cons.mp hw with e | hw
      · exact e.symm
      · rcases ltP_tri z w with h | h | h
        · exact absurd h (l2 z hz)
        · exact h
        · exact absurd h (l1 w hw)
  subst e
  rw [h.head n]
theorem Cvx.rot {A B : List Pt} (h : Rot A B) (c : Cvx A) : Cvx B := by obtain ⟨X, Y, rfl, rfl⟩ := h; exact c.swap
/-- a ring begun anew with its least corner -/
theorem least_first (cs : List Pt) (hne : cs ≠ []) : ∃ z T, Rot cs (z :: T) ∧ ∀ q ∈ T, ¬ ltP q z := by
  have : ∃ z ∈ cs, ∀ q ∈ cs, ¬ ltP q z := by
    induction cs with
    | nil => exact absurd rfl hne
    | cons c cs ih =>
      by_cases hc : cs = []
      · subst hc; exact ⟨c, by simp, fun q hq => by simp at hq; subst hq; exact ltP_irr⟩
      · obtain ⟨z, hz, hl⟩ := ih hc
        rcases ltP_tri c z with h | h | h
        · refine ⟨c, by simp, fun q hq => ?_⟩
          rcases List.mem_cons.mp hq with rfl | hq
          · exact ltP_irr
          · exact fun k => hl q hq (ltP_trans k h)
        · subst h
          refine ⟨c, by simp, fun q hq => ?_⟩
          rcases List.mem_cons.mp hq with rfl | hq
          · exact ltP_irr
          · exact hl q hq
        · refine ⟨z, by simp [hz], fun q hq => ?_⟩
          rcases List.mem_cons.mp hq with rfl | hq
          · exact ltP_asymm h
          · exact hl q hq
  obtain ⟨z, hz, hl⟩ := this
  obtain ⟨X, Y, rfl⟩ := List.append_of_mem hz
  exact ⟨z, Y ++ X, ⟨X, z :: Y, rfl, rfl⟩, fun q hq => hl q (by simp at hq ⊢; rcases hq with h | h <;> simp [h])⟩
abbrev scl (k : Int) (z : Pt) : Pt := (k * z.1, k * z.2)
theorem scl_lt {k : Int} (hk : 0 < k) {a b : Pt} : ltP (scl k a) (scl k b) ↔ ltP a b := by
  unfold ltP scl
  dsimp only
  rw [Int.mul_lt_mul_left hk, Int.mul_lt_mul_left hk]
  constructor
  · rintro (h | ⟨h, h'⟩)
    · exact Or.inl h
    · exact Or.inr ⟨Int.eq_of_mul_eq_mul_left (by omega) h, h'⟩
  · rintro (h | ⟨h, h'⟩)
    · exact Or.inl h
    · exact Or.inr ⟨by rw [h], h'⟩
theorem scl_inj {k : Int} (hk : 0 < k) {a b : Pt} (h : scl k a = scl k b) : a = b := by
  simp only [scl, Prod.mk.injEq] at h
  exact Prod.ext (Int.eq_of_mul_eq_mul_left (by omega) h.1) (Int.eq_of_mul_eq_mul_left (by omega) h.2)
theorem scl_turn (k : Int) (a b c : Pt) : turnP (scl k a) (scl k b) (scl k c) = k * k * turnP a b c := by unfold turnP scl; dsimp only; grind
theorem Cvx.unscl {k : Int} (hk : 0 < k) {cs : List Pt} (h : Cvx (cs.map (scl k))) : Cvx cs := by
  refine ⟨by simpa using h.len, ?_, fun a b hab q hq n1 n2 => ?_⟩
  · exact List.Pairwise.of_map (scl k) (fun a b hn e => hn (by rw [e])) h.nodup
  · have c : Cyc (cs.map (scl k)) (scl k a) (scl k b) := by
      obtain ⟨l, r, e⟩ := hab
      refine ⟨l.map (scl k), r.map (scl k), ?_⟩
      rw [← List.map_take, ← List.map_append, e]; simp
    have := h.strict _ _ c (scl k q) (List.mem_map_of_mem hq) (fun e => n1 (scl_inj hk e)) fun e => n2 (scl_inj hk e)
    rw [scl_turn] at this
    exact Int.pos_of_mul_pos_left (by rw [Int.mul_comm]; exact this) (Int.mul_pos hk hk)
/-! ## the lowest multiple -/
def F_lcm : FD := fun ds Q => ∃ a b : Int, ds = [.int a, .int b] ∧ (0 < a ∧ 0 < b) ∧ (BL 8000 a ∧ BL 8000 b) ∧ ∀ l, 0 < l → a ∣ l → b ∣ l → l ≤ a * b → Q (.int l)
theorem len_lcm : ∀ ds Q, F_lcm ds Q → ds.length = 2 := by rintro ds Q ⟨_, _, rfl, _⟩; rfl
theorem pure_shared_multiple : ∀ ds Q, F_lcm ds Q → rd_shared_multiple F_gcd { nx := fun _ => Q .non, rt := Q } (startD ["one", "other"] ds) := by
  rintro ds Q ⟨a, b, rfl, ⟨ha, hb⟩, ⟨ba, bb⟩, q⟩
  rw [startD_eq 0 rfl]
  unfold rd_shared_multiple
  walk_at "rd"
  refine ⟨a, b, rfl, ?_⟩
  have hg := gcd_pos (a := a) (b := b) (by omega)
  have bg := BL.gcd (a := a) (b := b) (by omega) bb
  walk_at "rd"
  have b2 : BL 8000 (b.fdiv (Int.gcd a b : Nat)) := bb.fdiv
  refine ⟨(bg.mono (by decide)).divOk (by omega), ba.mulOk b2, ?_⟩
  obtain ⟨c, ec⟩ : ((Int.gcd a b : Nat) : Int) ∣ b := Int.gcd_dvd_right ..
  obtain ⟨d, ed⟩ : ((Int.gcd a b : Nat) : Int) ∣ a := Int.gcd_dvd_left ..
  have e1 : b.fdiv (Int.gcd a b : Nat) = c := by
    rw [Int.fdiv_eq_ediv_of_nonneg _ (by omega)]
    have : b / ((Int.gcd a b : Nat) : Int) = (((Int.gcd a b : Nat) : Int) * c) / ((Int.gcd a b : Nat) : Int) := congrArg (· / ((Int.gcd a b : Nat) : Int)) ec
    rw [this, Int.mul_ediv_cancel_left _ (by omega)]
  rw [e1]
  generalize hG : ((Int.gcd a b : Nat) : Int) = g at *
  have pc : 0 < c := by
    apply Int.not_le.mp
    intro hn
    have : g * c ≤ 0 := Int.mul_nonpos_of_nonneg_of_nonpos (by omega) hn
    omega
  refine q _ (Int.mul_pos ha pc) (Int.dvd_mul_right ..) ⟨d, by rw [ed, ec]; grind⟩ ?_
  rw [ec]
  have : 0 ≤ a * ((g - 1) * c) := Int.mul_nonneg (by omega) (Int.mul_nonneg (by omega) (by omega))
  have e : a * (g * c) = a * c + a * ((g - 1) * c) := by grind
  omega
end L2.R2

set_option Elab.async false
set_option linter.all false
set_option maxRecDepth 100000
set_option maxHeartbeats 4000000
namespace L2.R2
open PySem PySem.Spec PyProof.Rows L2
local macro_rules | `(tactic| walk_at "rd") => `(tactic| simp only [rSeq, rNext, rRet, rDrop, rIfS, rSet, rSetO, rPar, rAsg, rgName, rgTup, rgCons, rgNil, rVar, rVarB, rC, r2, r1, rTest, rAnd, rOr, rNot, rAndV, rOrV, rNotV, rIf, raNil, raCons, rTup, rLst, rCall, rCB, rNoPart, rPart, rSlL', rFor, riEn, riL, riT, riR1, riR2, rComp, compD, capE, capO, fzAt, rAppD, rPopD, rSetIx, rZip, seqD, rSlA, dAddA, dListOf, dTupOf, dSum, dNe, rIndex, riRev, riZip,
  dAdd, dSub, dMul, dFdiv, dMod, dPow, dNeg, dCmp, dEqS, dIsN, dEq_rd, isNon, dIx_tup0, dIx_tup1, dIx_tup2, dIx_lst0, dIx_lst1, dIx_lst2, dIx_lst3, dIx_lst4, dIx_lst5, dIx_lst6, dIx_lst7, dIx_lst8, dIx_lst9, dIx_lst10, dIx_lst11, dAbs, dInt, dMax2, dMin2, dLen, dIsi, isi_ii, isi_bi, isi_ib, isi_bb, isi_tt, S.val, startN, rep0, rep1, rep2, rep3, rep4, rep5, rep6, rep7, rep8, rep9, rep10, rep11, rep12,
  List.map_cons, List.map_nil, List.cons_append, List.nil_append, List.length_cons, List.length_nil, List.getElem?_cons_zero, List.getElem?_cons_succ, List.set_cons_zero, List.set_cons_succ, List.append_nil,
  Bool.or_false, Bool.or_true, Bool.false_or, Bool.true_or, Bool.not_true, Bool.not_false, if_true, if_false, Bool.false_eq_true, sz0, sz1, sz2, sz3, sz4, true_and, decide_eq_true_eq, Int.reduceToNat, Int.reducePow, Int.reduceMul, Int.reduceSub, Int.reduceAdd, Int.reduceNeg])
local macro_rules | `(tactic| walk_at "side") => `(tactic| first | exact pow_ok | exact mod_ok | exact (BL.const (n := 9000) (by decide)).divOk (by decide) | exact (BL.const (n := 300) (by decide)).mulOk (BL.const (n := 300) (by decide)))
local macro_rules | `(tactic| walk_at "sides") => `(tactic| repeat (refine And.intro (by walk_at "side") ?_))
/-! ## a piece pushed -/
abbrev mv (k r w : Int) (z : Pt) : Pt := (k * z.1 + r, k * z.2 + w)
structure PushOf (sh0 : Int) (cs : List Pt) (sign p q u v : Int) (sh : Int) (zs : List Pt) : Prop where
  ex : ∃ (κ s r w m : Int) (z : Pt) (T : List Pt), (0 < κ ∧ s = κ * sh0 ∧ s ≤ sh0 * q * v) ∧ (r * q = p * s ∧ w * v = u * s) ∧ Rot (cs.map (mv (sign * κ) r w)) (z :: T) ∧ (∀ q ∈ T, ¬ ltP q z) ∧ Cvx (z :: T) ∧ NormOf s (z :: T) m sh zs
def F_pushed : FD := fun ds Q => ∃ (sh0 sign p q u v : Int) (cs : List Pt), ds = [.tup [.int sh0, .tup (cs.map pt)], .tup [.int sign, .tup [.int p, .int q], .tup [.int u, .int v]]] ∧ (0 < sh0 ∧ 0 < q ∧ 0 < v ∧ (sign = 1 ∨ sign = -1)) ∧
  (BL 2000 sh0 ∧ BL 2000 q ∧ BL 2000 v ∧ BL 7000 p ∧ BL 7000 u) ∧ (∀ z ∈ cs, BL 7000 z.1 ∧ BL 7000 z.2) ∧ Cvx cs ∧ cs.length < 64 ∧ ∀ sh zs, PushOf sh0 cs sign p q u v sh zs → Q (.tup [.int sh, .tup (zs.map pt)])
theorem len_pushed : ∀ ds Q, F_pushed ds Q → ds.length = 2 := by rintro ds Q ⟨_, _, _, _, _, _, _, rfl, _⟩; rfl
theorem mv_turn (k r w : Int) (a b c : Pt) : turnP (mv k r w a) (mv k r w b) (mv k r w c) = k * k * turnP a b c := by unfold turnP mv; dsimp only; grind
theorem mv_inj {k r w : Int} (hk : k ≠ 0) {a b : Pt} (h : mv k r w a = mv k r w b) : a = b := by
  simp only [mv, Prod.mk.injEq] at h
  have h1 : k * a.1 = k * b.1 := by omega
  have h2 : k * a.2 = k * b.2 := by omega
  exact Prod.ext (Int.eq_of_mul_eq_mul_left hk h1) (Int.eq_of_mul_eq_mul_left hk h2)
theorem sq_pos {k : Int} (h : k ≠ 0) : 0 < k * k := by
  rcases Int.lt_or_gt_of_ne h with h | h
  · have := Int.mul_pos (a := -k) (b := -k) (by omega) (by omega)
    rwa [Int.neg_mul_neg] at this
  · exact Int.mul_pos h h
theorem bl_of_le {a b : Int} {n : Nat} (h0 : 0 < a) (h : a ≤ b) (hb : BL n b) : BL n a := hb.le (by omega)
theorem pure_pushed : ∀ ds Q, F_pushed ds Q → rd_pushed F_settled F_lcm { nx := fun _ => Q .non, rt := Q } (startD ["piece", "move", "dx", "dy", "share", "scale", "right", "up"] ds) := by
  rintro ds Q ⟨sh0, sign, p, q, u, v, cs, rfl, ⟨h0, hq, hv, hs⟩, ⟨b0, bq, bv, bp, bu⟩, bc, cv, hl, hQ⟩
  rw [startD_eq 6 rfl]
  unfold rd_pushed
  simp only [startN, rep6, List.map_cons, List.map_nil, List.cons_append, List.nil_append]
  generalize hP : D.tup [.int sh0, .tup (cs.map pt)] = PD
  generalize hM : D.tup [.int sign, .tup [.int p, .int q], .tup [.int u, .int v]] = MD
  refine seq_by (fun ρ => ρ = [some (.d PD), some (.d MD), some (.d (.tup [.int p, .int q])), none, none, none, none, none]) (fun K hK => ?_) ?_
  · rw [← hP, ← hM] at hK ⊢
    walk_at "rd"
    exact hK _ rfl
  rintro ρ rfl
  refine seq_by (fun ρ => ρ = [some (.d PD), some (.d MD), some (.d (.tup [.int p, .int q])), some (.d (.tup [.int u, .int v])), none, none, none, none]) (fun K hK => ?_) ?_
  · rw [← hP, ← hM] at hK ⊢
    walk_at "rd"
    exact hK _ rfl
  rintro ρ rfl
  refine seq_by (fun ρ => ∃ s : Int, (0 < s ∧ sh0 ∣ s ∧ q ∣ s ∧ v ∣ s ∧ s ≤ sh0 * q * v) ∧ ρ = [some (.d PD), some (.d MD), some (.d (.tup [.int p, .int q])), some (.d (.tup [.int u, .int v])), some (.d (.int s)), none, none, none]) (fun K hK => ?_) ?_
  · rw [← hP, ← hM] at hK ⊢
    walk_at "rd"
    refine ⟨sh0, q, rfl, ⟨h0, hq⟩, ⟨b0.mono (by decide), bq.mono (by decide)⟩, fun l l0 l1 l2 l3 => ?_⟩
    refine ⟨l, v, rfl, ⟨l0, hv⟩, ⟨(bl_of_le l0 l3 (b0.mul bq)).mono (by decide), bv.mono (by decide)⟩, fun s s0 s1 s2 s3 => ?_⟩
    refine hK _ ⟨s, ⟨s0, Int.dvd_trans l1 s1, Int.dvd_trans l2 s1, s2, ?_⟩, rfl⟩
    exact Int.le_trans s3 (Int.mul_le_mul_of_nonneg_right l3 (by omega))
  rintro ρ ⟨s, ⟨s0, ⟨κ, e1⟩, ⟨cq, e2⟩, ⟨cv', e3⟩, s4⟩, rfl⟩
  have bs : BL 6000 s := bl_of_le s0 s4 ((b0.mul bq).mul bv)
  have pk : 0 < κ := by
    apply Int.not_le.mp
    intro hn
    have : sh0 * κ ≤ 0 := Int.mul_nonpos_of_nonneg_of_nonpos (by omega) hn
    omega
  have d1 : s.fdiv sh0 = κ := by rw [Int.fdiv_eq_ediv_of_nonneg _ (by omega), e1, Int.mul_ediv_cancel_left _ (by omega)]
  have d2 : s.fdiv q = cq := by rw [Int.fdiv_eq_ediv_of_nonneg _ (by omega), e2, Int.mul_ediv_cancel_left _ (by omega)]
  have d3 : s.fdiv v = cv' := by rw [Int.fdiv_eq_ediv_of_nonneg _ (by omega), e3, Int.mul_ediv_cancel_left _ (by omega)]
  have bk : BL 6000 κ := by rw [← d1]; exact bs.fdiv
  have bcq : BL 6000 cq := by rw [← d2]; exact bs.fdiv
  have bcv : BL 6000 cv' := by rw [← d3]; exact bs.fdiv
  have bsg : BL 1 sign := by rcases hs with rfl | rfl <;> exact BL.const (by decide)
  refine seq_by (fun ρ => ρ = [some (.d PD), some (.d MD), some (.d (.tup [.int p, .int q])), some (.d (.tup [.int u, .int v])), some (.d (.int s)), some (.d (.int (sign * κ))), none, none]) (fun K hK => ?_) ?_
  · rw [← hP, ← hM] at hK ⊢
    walk_at "rd"
    rw [d1]
    exact ⟨(b0.mono (by decide)).divOk (by omega), bsg.mulOk bk, hK _ rfl⟩
  rintro ρ rfl
  refine seq_by (fun ρ => ρ = [some (.d PD), some (.d MD), some (.d (.tup [.int p, .int q])), some (.d (.tup [.int u, .int v])), some (.d (.int s)), some (.d (.int (sign * κ))), some (.d (.int (p * cq))), none]) (fun K hK => ?_) ?_
  · rw [← hP, ← hM] at hK ⊢
    walk_at "rd"
    rw [d2]
    exact ⟨(bq.mono (by decide)).divOk (by omega), bp.mulOk bcq, hK _ rfl⟩
  rintro ρ rfl
  refine seq_by (fun ρ => ρ = [some (.d PD), some (.d MD), some (.d (.tup [.int p, .int q])), some (.d (.tup [.int u, .int v])), some (.d (.int s)), some (.d (.int (sign * κ))), some (.d (.int (p * cq))), some (.d (.int (u * cv')))]) (fun K hK => ?_) ?_
  · rw [← hP, ← hM] at hK ⊢
    walk_at "rd"
    rw [d3]
    exact ⟨(bv.mono (by decide)).divOk (by omega), bu.mulOk bcv, hK _ rfl⟩
  rintro ρ rfl
  rw [← hP]
  have bkk := bsg.mul bk
  walk_at "rd"
  refine ⟨sz_le (by simp; omega), ?_⟩
  refine comp_src (fun ρ => ∃ a b, ρ = [a, b, some (.d (.int (sign * κ))), some (.d (.int (p * cq))), some (.d (.int (u * cv')))]) pt (fun z => pt (mv (sign * κ) (p * cq) (u * cv') z)) cs ?_ ⟨_, _, rfl⟩ ?_
  · rintro z hz ρ ⟨a, b, rfl⟩ K' hK'
    walk_at "rd"
    obtain ⟨z1, z2⟩ := bc z hz
    exact ⟨bkk.mulOk z1, bkk.mulOk z2, hK' _ ⟨_, _, rfl⟩⟩
  -- settled
  have hk0 : sign * κ ≠ 0 := by rcases hs with rfl | rfl <;> omega
  have cv2 : Cvx (cs.map (mv (sign * κ) (p * cq) (u * cv'))) := cv.map (sq_pos hk0) (mv_turn _ _ _) fun a b h => mv_inj hk0 h
  obtain ⟨z, T, rot, least⟩ := least_first (cs.map (mv (sign * κ) (p * cq) (u * cv'))) (by intro e; have := cv2.len; rw [e] at this; simp at this)
  have cz := Cvx.rot rot cv2
  refine ⟨s, cs.map (mv (sign * κ) (p * cq) (u * cv')), by show _ = [D.int s, .lst (List.map pt (List.map (mv (sign * κ) (p * cq) (u * cv')) cs))]; rw [List.map_map]; rfl, ⟨s0, bs.mono (by decide)⟩, fun w hw => ?_, by simpa using hl, Or.inl ⟨z, T, ⟨cz, least, fun a ha => (rot.mem a).mpr ha, fun a b hab c hc => cz.side hab ((rot.mem c).mp hc)⟩, fun m sh zs N => hQ sh zs ⟨κ, s, p * cq, u * cv', m, z, T, ⟨pk, by rw [e1]; exact Int.mul_comm .., s4⟩, ⟨by rw [e2]; grind, by rw [e3]; grind⟩, rot, least, cz, N⟩⟩⟩
  obtain ⟨x, hx, rfl⟩ := List.mem_map.mp hw
  obtain ⟨x1, x2⟩ := bc x hx
  exact ⟨((bkk.mul x1).add (bp.mul bcq)).mono (by decide), ((bkk.mul x2).add (bu.mul bcv)).mono (by decide)⟩
/-- the image of a ring told over another share, up to where it begins -/
structure ImgOf (sh0 : Int) (cs : List Pt) (sign p q u v : Int) (e : Int) (E : List Pt) : Prop where
  ex : ∃ E', Rot E' E ∧ E'.length = cs.length ∧ ∀ (i : Nat) (a b : Pt), cs[i]? = some a → E'[i]? = some b → b.1 * (sh0 * q) = e * (sign * a.1 * q + p * sh0) ∧ b.2 * (sh0 * v) = e * (sign * a.2 * v + u * sh0)
theorem PushOf.norm {sh0 sign p q u v sh e m' sh' : Int} {cs zs E zs' : List Pt} (P : PushOf sh0 cs sign p q u v sh zs) (h0 : 0 < sh0) (hq : 0 < q) (hv : 0 < v) (he : 0 < e) (I : ImgOf sh0 cs sign p q u v e E) {w : Pt} {T' : List Pt} (hE : E = w :: T') (hl : ∀ x ∈ T', ¬ ltP x w) (N : NormOf e E m' sh' zs') : sh = sh' ∧ zs = zs' := by
  obtain ⟨κ, s, r, w', m, z, T, ⟨pk, es, _⟩, ⟨er, ew⟩, rot, least, cz, N0⟩ := P
  obtain ⟨E', rotE, len, pt⟩ := I
  have ps : 0 < s := by rw [es]; exact Int.mul_pos pk h0
  have lists : (cs.map (mv (sign * κ) r w')).map (scl e) = E'.map (scl s) := by
    apply List.ext_getElem (by simp [len])
    intro i h1 h2
    simp only [List.length_map] at h1 h2
    simp only [List.getElem_map]
    obtain ⟨g1, g2⟩ := pt i _ _ (List.getElem?_eq_getElem h1) (List.getElem?_eq_getElem h2)
    have k1 : (0 : Int) < sh0 * q := Int.mul_pos h0 hq
    have k2 : (0 : Int) < sh0 * v := Int.mul_pos h0 hv
    refine Prod.ext ?_ ?_
    · show e * (sign * κ * cs[i].1 + r) = s * E'[i].1
      refine Int.eq_of_mul_eq_mul_right (a := sh0 * q) (by omega) ?_
      rw [Int.mul_assoc s, g1, es]
      rw [es] at er
      grind
    · show e * (sign * κ * cs[i].2 + w') = s * E'[i].2
      refine Int.eq_of_mul_eq_mul_right (a := sh0 * v) (by omega) ?_
      rw [Int.mul_assoc s, g2, es]
      rw [es] at ew
      grind
  have rr : Rot ((z :: T).map (scl e)) (E.map (scl s)) := ((rot.symm.map (scl e)).trans (by rw [lists]; exact Rot.refl _)).trans (rotE.map (scl s))
  subst hE
  rw [List.map_cons, List.map_cons] at rr
  have nd : (scl e z :: T.map (scl e)).Nodup := by
    have : ((z :: T).map (scl e)).Nodup := List.Pairwise.map (scl e) (fun a b hn h => hn (scl_inj he h)) cz.nodup
    exact this
  have eq := rr.least nd (fun x hx => by obtain ⟨y, hy, rfl⟩ := List.mem_map.mp hx; rw [scl_lt he]; exact least y hy) fun x hx => by obtain ⟨y, hy, rfl⟩ := List.mem_map.mp hx; rw [scl_lt ps]; exact hl y hy
  exact N0.same N he ps (Int.mul_comm ..) (by simpa using eq)
end L2.R2

set_option Elab.async false
set_option linter.all false
set_option maxRecDepth 100000
set_option maxHeartbeats 4000000
namespace L2.R2
open PySem PySem.Spec PyProof.Rows L2
local macro_rules | `(tactic| walk_at "rd") => `(tactic| simp only [rSeq, rNext, rRet, rDrop, rIfS, rSet, rSetO, rPar, rAsg, rgName, rgTup, rgCons, rgNil, rVar, rVarB, rC, r2, r1, rTest, rAnd, rOr, rNot, rAndV, rOrV, rNotV, rIf, raNil, raCons, rTup, rLst, rCall, rCB, rNoPart, rPart, rSlL', rFor, riEn, riL, riT, riR1, riR2, rComp, compD, capE, capO, fzAt, rAppD, rPopD, rSetIx, rZip, seqD, rSlA, dAddA, dListOf, dTupOf, dSum, dNe, rIndex, riRev, riZip,
  dAdd, dSub, dMul, dFdiv, dMod, dPow, dNeg, dCmp, dEqS, dIsN, dEq_rd, isNon, dIx_tup0, dIx_tup1, dIx_tup2, dIx_lst0, dIx_lst1, dIx_lst2, dIx_lst3, dIx_lst4, dIx_lst5, dIx_lst6, dIx_lst7, dIx_lst8, dIx_lst9, dIx_lst10, dIx_lst11, dAbs, dInt, dMax2, dMin2, dLen, dIsi, isi_ii, isi_bi, isi_ib, isi_bb, isi_tt, S.val, startN, rep0, rep1, rep2, rep3, rep4, rep5, rep6, rep7, rep8, rep9, rep10, rep11, rep12,
  List.map_cons, List.map_nil, List.cons_append, List.nil_append, List.length_cons, List.length_nil, List.getElem?_cons_zero, List.getElem?_cons_succ, List.set_cons_zero, List.set_cons_succ, List.append_nil,
  Bool.or_false, Bool.or_true, Bool.false_or, Bool.true_or, Bool.not_true, Bool.not_false, if_true, if_false, Bool.false_eq_true, sz0, sz1, sz2, sz3, sz4, true_and, decide_eq_true_eq, Int.reduceToNat, Int.reducePow, Int.reduceMul, Int.reduceSub, Int.reduceAdd, Int.reduceNeg])
local macro_rules | `(tactic| walk_at "side") => `(tactic| first | exact pow_ok | exact mod_ok | exact (BL.const (n := 9000) (by decide)).divOk (by decide) | exact (BL.const (n := 300) (by decide)).mulOk (BL.const (n := 300) (by decide)))
local macro_rules | `(tactic| walk_at "sides") => `(tactic| repeat (refine And.intro (by walk_at "side") ?_))
/-! ## the ring of few corners -/
theorem pure_law_ring_2 : ∀ ds Q, F_ring ds Q → rd__law_ring_2 F_rises { nx := fun _ => Q .non, rt := Q } (startD ["_law_head", "_law_far", "_law_lows", "_law_highs", "_law_top", "_law_ring_here", "_law_p", "_law_q", "_law_r", "_law_s", "_law_off"] ds) := by
  rintro ds Q ⟨h0, h1, h2, h3, h4, h5, h6, rest, far, rfl, ⟨hf0, hf1⟩, hQ⟩
  rw [startD_eq 9 rfl]
  unfold rd__law_ring_2
  generalize hH : D.lst (.int h0 :: .int h1 :: .int h2 :: .int h3 :: .int h4 :: .int h5 :: .int h6 :: rest) = HD
  simp only [startN, rep9, List.map_cons, List.map_nil, List.cons_append, List.nil_append]
  -- the lower bow
  refine seq_by (fun ρ => ∃ lows, Rises lows ∧ (2 ≤ lows.length ∧ lows.length ≤ 21) ∧ ρ = [some (.d HD), some (.d (.int far)), some (.d (il lows)), none, none, none, none, none, none, none, none]) (fun K hK => ?_) ?_
  · rw [← hH] at hK ⊢
    walk_at "rd"
    walk_at "sides"
    obtain ⟨a0, a1⟩ := fmod_range (a := h0) (b := 3) (by decide)
    exact ⟨_, _, rfl, ⟨by omega, by omega⟩, fun xs hr hl => hK _ ⟨xs, hr, ⟨by omega, by omega⟩, rfl⟩⟩
  rintro ρ ⟨lows, hlr, hln, rfl⟩
  refine seq_by (fun ρ => ∃ highs, Rises highs ∧ (1 ≤ highs.length ∧ highs.length ≤ 3) ∧ ρ = [some (.d HD), some (.d (.int far)), some (.d (il lows)), some (.d (il highs)), none, none, none, none, none, none, none]) (fun K hK => ?_) ?_
  · rw [← hH] at hK ⊢
    walk_at "rd"
    walk_at "sides"
    obtain ⟨a0, a1⟩ := fmod_range (a := h1) (b := 3) (by decide)
    exact ⟨_, _, rfl, ⟨by omega, by omega⟩, fun xs hr hl => hK _ ⟨xs, hr, ⟨by omega, by omega⟩, rfl⟩⟩
  rintro ρ ⟨highs, hhr, hhn, rfl⟩
  -- the top
  have small : ∀ x ∈ lows ++ highs, -4 ≤ x ∧ x ≤ 60 := fun x hx => by
    rcases List.mem_append.mp hx with h | h
    · obtain ⟨i, hi, rfl⟩ := List.getElem_of_mem h
      have := hlr.bound i _ (List.getElem?_eq_getElem hi)
      omega
    · obtain ⟨i, hi, rfl⟩ := List.getElem_of_mem h
      have := hhr.bound i _ (List.getElem?_eq_getElem hi)
      omega
  have sq : ∀ x ∈ lows ++ highs, 0 ≤ x * x ∧ x * x ≤ 3600 := fun x hx => by
    have := small x hx
    constructor
    · exact sq_nn x
    · by_cases h : 0 ≤ x
      · exact Int.le_trans (Int.mul_le_mul this.2 this.2 h (by decide)) (by decide)
      · have : x = -4 ∨ x = -3 ∨ x = -2 ∨ x = -1 := by omega
        rcases this with rfl | rfl | rfl | rfl <;> decide
  refine seq_by (fun ρ => ∃ top, (∀ x ∈ lows ++ highs, 2 * (x * x) + 1 ≤ top) ∧ top ≤ 10000 ∧ ρ = [some (.d HD), some (.d (.int far)), some (.d (il lows)), some (.d (il highs)), some (.d (.int top)), none, none, none, none, none, none]) (fun K hK => ?_) ?_
  · rw [← hH] at hK ⊢
    walk_at "rd"
    refine ⟨sz_le (by simp; omega), sz_le (by simp; omega), ?_⟩
    rw [← List.map_append]
    refine comp_src (fun ρ => ∃ a, ρ = [a]) D.int (fun x => D.int (x * x)) (lows ++ highs) ?_ ⟨_, rfl⟩ ?_
    · rintro x hx ρ ⟨b, rfl⟩ K' hK'
      walk_at "rd"
      have := small x hx
      exact ⟨(BL.of_lt (m := 20) (i := x) (by omega) (by omega)).mulOk (BL.of_lt (m := 20) (i := x) (by omega) (by omega)), hK' _ ⟨_, rfl⟩⟩
    · refine ⟨(lows ++ highs).map fun x => x * x, by rw [List.map_map]; rfl, by intro e; simp at e; rw [e.1] at hln; simp at hln, fun M hM hmax => ?_⟩
      obtain ⟨x0, hx0, rfl⟩ := List.mem_map.mp hM
      have s0 := sq x0 hx0
      walk_at "rd"
      generalize x0 * x0 = M at *
      refine ⟨(BL.const (n := 20)).mulOk (BL.of_lt (m := 20) (i := M) (by omega) (by omega)), mod_ok, ?_⟩
      obtain ⟨d0, d1⟩ := fmod_range (a := h2) (b := 9) (by decide)
      refine hK _ ⟨_, fun x hx => ?_, ?_, rfl⟩
      · have := hmax (x * x) (List.mem_map.mpr ⟨x, hx, rfl⟩)
        omega
      · omega
  rintro ρ ⟨top, topL, topH, rfl⟩
  have topB : 1 ≤ top := by
    have hne : lows ++ highs ≠ [] := by intro e; simp at e; rw [e.1] at hln; simp at hln
    obtain ⟨x, hx⟩ := List.exists_mem_of_ne_nil _ hne
    have := topL x hx
    have := sq x hx
    omega
  refine seq_by (fun ρ => ρ = [some (.d HD), some (.d (.int far)), some (.d (il lows)), some (.d (il highs)), some (.d (.int top)), some (.d (pts (bowed lows highs top))), none, none, none, none, none]) (fun K hK => ?_) ?_
  · walk_at "rd"
    refine ⟨sz_le (by simp; omega), ?_⟩
    refine comp_src (fun ρ => ∃ a, ρ = [a]) D.int (fun x => pt (x, x * x)) lows ?_ ⟨_, rfl⟩ ?_
    · rintro x hx ρ ⟨b, rfl⟩ K' hK'
      walk_at "rd"
      have := small x (List.mem_append_left _ hx)
      exact ⟨(BL.of_lt (m := 20) (i := x) (by omega) (by omega)).mulOk (BL.of_lt (m := 20) (i := x) (by omega) (by omega)), hK' _ ⟨_, rfl⟩⟩
    · refine ⟨sz_le (by simp; omega), ?_⟩
      rw [← List.map_reverse]
      refine comp_src (fun ρ => ∃ a, ρ = [a, some (.d (.int top))]) D.int (fun x => pt (x, top - x * x)) highs.reverse ?_ ⟨_, rfl⟩ ?_
      · rintro x hx ρ ⟨b, rfl⟩ K' hK'
        walk_at "rd"
        have := small x (List.mem_append_right _ (List.mem_reverse.mp hx))
        exact ⟨(BL.of_lt (m := 20) (i := x) (by omega) (by omega)).mulOk (BL.of_lt (m := 20) (i := x) (by omega) (by omega)), hK' _ ⟨_, rfl⟩⟩
      · refine ⟨sz_le (by simp; omega), hK _ ?_⟩
        unfold bowed pts
        simp only [List.map_append, List.map_map]
        rfl
  rintro ρ rfl
  refine seq_by (fun ρ => ∃ p, (1 ≤ p ∧ p ≤ 3) ∧ ρ = [some (.d HD), some (.d (.int far)), some (.d (il lows)), some (.d (il highs)), some (.d (.int top)), some (.d (pts (bowed lows highs top))), some (.d (.int p)), none, none, none, none]) (fun K hK => ?_) ?_
  · rw [← hH] at hK ⊢
    walk_at "rd"
    walk_at "sides"
    obtain ⟨d0, d1⟩ := fmod_range (a := h3) (b := 3) (by decide)
    exact hK _ ⟨_, ⟨by omega, by omega⟩, rfl⟩
  rintro ρ ⟨p, hp, rfl⟩
  refine seq_by (fun ρ => ∃ q, (-3 ≤ q ∧ q ≤ 3) ∧ ρ = [some (.d HD), some (.d (.int far)), some (.d (il lows)), some (.d (il highs)), some (.d (.int top)), some (.d (pts (bowed lows highs top))), some (.d (.int p)), some (.d (.int q)), none, none, none]) (fun K hK => ?_) ?_
  · rw [← hH] at hK ⊢
    walk_at "rd"
    walk_at "sides"
    obtain ⟨d0, d1⟩ := fmod_range (a := h3.fdiv 3) (b := 7) (by decide)
    exact hK _ ⟨_, ⟨by omega, by omega⟩, rfl⟩
  rintro ρ ⟨q, hq, rfl⟩
  refine seq_by (fun ρ => ∃ r, (-3 ≤ r ∧ r ≤ 3) ∧ ρ = [some (.d HD), some (.d (.int far)), some (.d (il lows)), some (.d (il highs)), some (.d (.int top)), some (.d (pts (bowed lows highs top))), some (.d (.int p)), some (.d (.int q)), some (.d (.int r)), none, none]) (fun K hK => ?_) ?_
  · rw [← hH] at hK ⊢
    walk_at "rd"
    walk_at "sides"
    obtain ⟨d0, d1⟩ := fmod_range (a := h4) (b := 7) (by decide)
    exact hK _ ⟨_, ⟨by omega, by omega⟩, rfl⟩
  rintro ρ ⟨r, hr, rfl⟩
  have qr : -9 ≤ q * r ∧ q * r ≤ 9 := by
    have hq' : q = -3 ∨ q = -2 ∨ q = -1 ∨ q = 0 ∨ q = 1 ∨ q = 2 ∨ q = 3 := by omega
    rcases hq' with rfl | rfl | rfl | rfl | rfl | rfl | rfl <;> omega
  refine seq_by (fun ρ => ∃ s, (-9 ≤ s ∧ s ≤ 12) ∧ 0 < p * s - q * r ∧ ρ = [some (.d HD), some (.d (.int far)), some (.d (il lows)), some (.d (il highs)), some (.d (.int top)), some (.d (pts (bowed lows highs top))), some (.d (.int p)), some (.d (.int q)), some (.d (.int r)), some (.d (.int s)), none]) (fun K hK => ?_) ?_
  · rw [← hH] at hK ⊢
    walk_at "rd"
    obtain ⟨d0, d1⟩ := fmod_range (a := h4.fdiv 7) (b := 3) (by decide)
    refine ⟨(BL.of_lt (m := 20) (i := q) (by omega) (by omega)).mulOk (BL.of_lt (m := 20) (i := r) (by omega) (by omega)), ((BL.of_lt (m := 20) (i := p) (by omega) (by omega)).mono (by decide)).divOk (by omega), ?_⟩
    walk_at "sides"
    generalize (h4.fdiv 7).fmod 3 = z at *
    have e : (q * r).fdiv p = (q * r) / p := Int.fdiv_eq_ediv_of_nonneg _ (by omega)
    rw [e]
    generalize q * r = m at *
    have hp' : p = 1 ∨ p = 2 ∨ p = 3 := by omega
    refine hK _ ⟨_, ?_, ?_, rfl⟩
    · rcases hp' with rfl | rfl | rfl <;> omega
    · rcases hp' with rfl | rfl | rfl <;> omega
  rintro ρ ⟨s, hs, det, rfl⟩
  refine seq_by (fun ρ => ∃ ox oy, BL 202 ox ∧ BL 202 oy ∧ ρ = [some (.d HD), some (.d (.int far)), some (.d (il lows)), some (.d (il highs)), some (.d (.int top)), some (.d (pts (bowed lows highs top))), some (.d (.int p)), some (.d (.int q)), some (.d (.int r)), some (.d (.int s)), some (.d (pt (ox, oy)))]) (fun K hK => ?_) ?_
  · rw [← hH] at hK ⊢
    walk_at "rd"
    refine ⟨(BL.const (n := 20)).mulOk hf1, ⟨by omega⟩, (BL.const (n := 20)).mulOk hf1, ⟨by omega⟩, ?_⟩
    exact hK _ ⟨_, _, off_bl hf0 hf1, off_bl hf0 hf1, rfl⟩
  rintro ρ ⟨ox, oy, hox, hoy, rfl⟩
  have RF : RingForm lows highs top p q r s ox oy := ⟨hlr, hhr, hln, hhn, topL, topH, hp, hq, hr, hs, det, hox, hoy⟩
  have bow : ∀ z ∈ bowed lows highs top, BL 20 z.1 ∧ BL 20 z.2 := fun z hz => by
    unfold bowed at hz
    rcases List.mem_append.mp hz with h | h
    · obtain ⟨x, hx, rfl⟩ := List.mem_map.mp h
      have := small x (List.mem_append_left _ hx)
      have := sq x (List.mem_append_left _ hx)
      exact ⟨BL.of_lt (by simp; omega) (by simp; omega), BL.of_lt (by simp; omega) (by simp; omega)⟩
    · obtain ⟨x, hx, rfl⟩ := List.mem_map.mp h
      have hx := List.mem_reverse.mp hx
      have := small x (List.mem_append_right _ hx)
      have := sq x (List.mem_append_right _ hx)
      exact ⟨BL.of_lt (by simp; omega) (by simp; omega), BL.of_lt (by simp; omega) (by simp; omega)⟩
  walk_at "rd"
  refine ⟨sz_le (by unfold bowed; simp; omega), ?_⟩
  refine comp_src (fun ρ => ∃ a b, ρ = [a, b, some (.d (.int p)), some (.d (.int q)), some (.d (pt (ox, oy))), some (.d (.int r)), some (.d (.int s))]) pt (fun z => pt (aff p q r s ox oy z)) (bowed lows highs top) ?_ ⟨_, _, rfl⟩ ?_
  · rintro z hz ρ ⟨a, b, rfl⟩ K' hK'
    obtain ⟨b1, b2⟩ := bow z hz
    walk_at "rd"
    have cp : BL 20 p := BL.of_lt (by omega) (by omega)
    have cq : BL 20 q := BL.of_lt (by omega) (by omega)
    have cr : BL 20 r := BL.of_lt (by omega) (by omega)
    have cs : BL 20 s := BL.of_lt (by omega) (by omega)
    exact ⟨cp.mulOk b1, cq.mulOk b2, cr.mulOk b1, cs.mulOk b2, hK' _ ⟨_, _, rfl⟩⟩
  · have := hQ lows highs top p q r s ox oy RF
    unfold pts ringOf at this
    rw [List.map_map] at this
    exact this
end L2.R2

set_option Elab.async false
set_option linter.all false
set_option maxRecDepth 100000
set_option maxHeartbeats 4000000
namespace L2.R2
open PySem PySem.Spec PyProof.Rows L2
local macro_rules | `(tactic| walk_at "rd") => `(tactic| simp only [rSeq, rNext, rRet, rDrop, rIfS, rSet, rSetO, rPar, rAsg, rgName, rgTup, rgCons, rgNil, rVar, rVarB, rC, r2, r1, rTest, rAnd, rOr, rNot, rAndV, rOrV, rNotV, rIf, raNil, raCons, rTup, rLst, rCall, rCB, rNoPart, rPart, rSlL', rFor, riEn, riL, riT, riR1, riR2, rComp, compD, capE, capO, fzAt, rAppD, rPopD, rSetIx, rZip, seqD, rSlA, dAddA, dListOf, dTupOf, dSum, dNe, rIndex, riRev, riZip,
  dAdd, dSub, dMul, dFdiv, dMod, dPow, dNeg, dCmp, dEqS, dIsN, dEq_rd, isNon, dIx_tup0, dIx_tup1, dIx_tup2, dIx_lst0, dIx_lst1, dIx_lst2, dIx_lst3, dIx_lst4, dIx_lst5, dIx_lst6, dIx_lst7, dIx_lst8, dIx_lst9, dIx_lst10, dIx_lst11, dAbs, dInt, dMax2, dMin2, dLen, dIsi, isi_ii, isi_bi, isi_ib, isi_bb, isi_tt, S.val, startN, rep0, rep1, rep2, rep3, rep4, rep5, rep6, rep7, rep8, rep9, rep10, rep11, rep12,
  List.map_cons, List.map_nil, List.cons_append, List.nil_append, List.length_cons, List.length_nil, List.getElem?_cons_zero, List.getElem?_cons_succ, List.set_cons_zero, List.set_cons_succ, List.append_nil,
  Bool.or_false, Bool.or_true, Bool.false_or, Bool.true_or, Bool.not_true, Bool.not_false, if_true, if_false, Bool.false_eq_true, sz0, sz1, sz2, sz3, sz4, true_and, decide_eq_true_eq, Int.reduceToNat, Int.reducePow, Int.reduceMul, Int.reduceSub, Int.reduceAdd, Int.reduceNeg])
local macro_rules | `(tactic| walk_at "side") => `(tactic| first | exact pow_ok | exact mod_ok | exact (BL.const (n := 9000) (by decide)).divOk (by decide) | exact (BL.const (n := 300) (by decide)).mulOk (BL.const (n := 300) (by decide)))
local macro_rules | `(tactic| walk_at "sides") => `(tactic| repeat (refine And.intro (by walk_at "side") ?_))
/-! ## neighbours -/
/-! ## the doubled area -/
abbrev cr (a b : Int × Int) : Int := a.1 * b.2 - a.2 * b.1
def chain (a : Int × Int) : List (Int × Int) → Int
  | [] => 0
  | b :: r => cr a b + chain b r
def fan (z a : Int × Int) : List (Int × Int) → Int
  | [] => 0
  | b :: r => cr (a.1 - z.1, a.2 - z.2) (b.1 - z.1, b.2 - z.2) + fan z b r
theorem chain_fan (z : Int × Int) : ∀ (r : List (Int × Int)) (a : Int × Int), chain a (r ++ [z]) = fan z a r + cr a z
  | [], a => by simp [chain, fan]
  | b :: r, a => by
    rw [List.cons_append, chain, fan, chain_fan z r b]
    simp only [cr]
    grind
theorem shoe_fan (z a : Int × Int) (r : List (Int × Int)) : chain z (a :: r ++ [z]) = fan z a r := by
  rw [List.cons_append, chain, chain_fan]
  simp only [cr]
  grind
def Small (n : Nat) (zs : List (Int × Int)) : Prop := ∀ z ∈ zs, BL n z.1 ∧ BL n z.2
def F_doubled : FD := fun ds Q => ∃ (sh : Int) (z a b : Int × Int) (r : List (Int × Int)), ds = [.tup [.int sh, .tup ((z :: a :: b :: r).map pt)]] ∧ (0 < sh ∧ BL 4000 sh) ∧ (Small 30000 (z :: a :: b :: r) ∧ r.length ≤ 900) ∧
  ∀ p q, Low (chain z (a :: b :: r ++ [z])) (sh * sh) p q → Q (fr p q)
end L2.R2

set_option Elab.async false
set_option linter.all false
set_option maxRecDepth 100000
set_option maxHeartbeats 4000000
namespace L2.R2
open PySem PySem.Spec PyProof.Rows L2
local macro_rules | `(tactic| walk_at "rd") => `(tactic| simp only [rSeq, rNext, rRet, rDrop, rIfS, rSet, rSetO, rPar, rAsg, rgName, rgTup, rgCons, rgNil, rVar, rVarB, rC, r2, r1, rTest, rAnd, rOr, rNot, rAndV, rOrV, rNotV, rIf, raNil, raCons, rTup, rLst, rCall, rCB, rNoPart, rPart, rSlL', rFor, riEn, riL, riT, riR1, riR2, rComp, compD, capE, capO, fzAt, rAppD, rPopD, rSetIx, rZip, seqD, rSlA, dAddA, dListOf, dTupOf, dSum, dNe, rIndex, riRev, riZip,
  dAdd, dSub, dMul, dFdiv, dMod, dPow, dNeg, dCmp, dEqS, dIsN, dEq_rd, isNon, dIx_tup0, dIx_tup1, dIx_tup2, dIx_lst0, dIx_lst1, dIx_lst2, dIx_lst3, dIx_lst4, dIx_lst5, dIx_lst6, dIx_lst7, dIx_lst8, dIx_lst9, dIx_lst10, dIx_lst11, dAbs, dInt, dMax2, dMin2, dLen, dIsi, isi_ii, isi_bi, isi_ib, isi_bb, isi_tt, S.val, startN, rep0, rep1, rep2, rep3, rep4, rep5, rep6, rep7, rep8, rep9, rep10, rep11, rep12,
  List.map_cons, List.map_nil, List.cons_append, List.nil_append, List.length_cons, List.length_nil, List.getElem?_cons_zero, List.getElem?_cons_succ, List.set_cons_zero, List.set_cons_succ, List.append_nil,
  Bool.or_false, Bool.or_true, Bool.false_or, Bool.true_or, Bool.not_true, Bool.not_false, if_true, if_false, Bool.false_eq_true, sz0, sz1, sz2, sz3, sz4, true_and, decide_eq_true_eq, Int.reduceToNat, Int.reducePow, Int.reduceMul, Int.reduceSub, Int.reduceAdd, Int.reduceNeg])
local macro_rules | `(tactic| walk_at "side") => `(tactic| first | exact pow_ok | exact mod_ok | exact (BL.const (n := 9000) (by decide)).divOk (by decide) | exact (BL.const (n := 300) (by decide)).mulOk (BL.const (n := 300) (by decide)))
local macro_rules | `(tactic| walk_at "sides") => `(tactic| repeat (refine And.intro (by walk_at "side") ?_))
/-! ## what is due for a ring is small -/
theorem RingForm.small {lows highs : List Int} {top p q r s ox oy : Int} (R : RingForm lows highs top p q r s ox oy) : Small 210 (ringOf lows highs top p q r s ox oy) := by
  have sm : ∀ x ∈ lows ++ highs, -4 ≤ x ∧ x ≤ 60 := fun x hx => by
    have := R.lowsN
    have := R.highsN
    rcases List.mem_append.mp hx with h | h
    · obtain ⟨i, hi, rfl⟩ := List.getElem_of_mem h
      have := R.lowsR.bound i _ (List.getElem?_eq_getElem hi)
      omega
    · obtain ⟨i, hi, rfl⟩ := List.getElem_of_mem h
      have := R.highsR.bound i _ (List.getElem?_eq_getElem hi)
      omega
  have tp : ∀ x ∈ lows ++ highs, 0 ≤ x * x ∧ x * x ≤ top ∧ top ≤ 10000 := fun x hx => by
    have := R.topL x hx
    have := R.topH
    have := sq_nn x
    omega
  intro z hz
  obtain ⟨w, hw, rfl⟩ := List.mem_map.mp hz
  have hw' : BL 20 w.1 ∧ BL 20 w.2 := by
    unfold bowed at hw
    rcases List.mem_append.mp hw with h | h
    · obtain ⟨x, hx, rfl⟩ := List.mem_map.mp h
      have := sm x (List.mem_append_left _ hx)
      have := tp x (List.mem_append_left _ hx)
      exact ⟨BL.of_lt (by simp; omega) (by simp; omega), BL.of_lt (by simp; omega) (by simp; omega)⟩
    · obtain ⟨x, hx, rfl⟩ := List.mem_map.mp h
      have hx := List.mem_reverse.mp hx
      have := sm x (List.mem_append_right _ hx)
      have := tp x (List.mem_append_right _ hx)
      exact ⟨BL.of_lt (by simp; omega) (by simp; omega), BL.of_lt (by simp; omega) (by simp; omega)⟩
  have := R.pB
  have := R.qB
  have := R.rB
  have := R.sB
  have cp : BL 20 p := BL.of_lt (by omega) (by omega)
  have cq : BL 20 q := BL.of_lt (by omega) (by omega)
  have cr : BL 20 r := BL.of_lt (by omega) (by omega)
  have cs : BL 20 s := BL.of_lt (by omega) (by omega)
  exact ⟨(((cp.mul hw'.1).add (cq.mul hw'.2)).add R.oxB).mono (by decide), (((cr.mul hw'.1).add (cs.mul hw'.2)).add R.oyB).mono (by decide)⟩
theorem RingForm.len {lows highs : List Int} {top p q r s ox oy : Int} (R : RingForm lows highs top p q r s ox oy) : 3 ≤ (ringOf lows highs top p q r s ox oy).length ∧ (ringOf lows highs top p q r s ox oy).length ≤ 24 := by
  have h1 := R.lowsN
  have h2 := R.highsN
  simp only [ringOf, bowed, List.length_map, List.length_append, List.length_reverse]
  omega
theorem natAbs_mul_le {m a : Int} (hm : 0 < m) : a.natAbs ≤ (m * a).natAbs := by
  rw [Int.natAbs_mul]
  have : 1 ≤ m.natAbs := by omega
  calc a.natAbs = 1 * a.natAbs := (Nat.one_mul _).symm
    _ ≤ m.natAbs * a.natAbs := Nat.mul_le_mul_right _ this
theorem DueOf.small {share : Int} {cs : List (Int × Int)} {m sh : Int} {ds : List (Int × Int)} {j n : Nat} (h : DueOf share cs m sh ds j) (hs : Small n cs) : Small n ds := fun z hz => by
  have := hs (m * z.1, m * z.2) (by rw [h.cs_eq]; exact List.mem_map.mpr ⟨z, hz, rfl⟩)
  exact ⟨this.1.le (natAbs_mul_le h.mpos), this.2.le (natAbs_mul_le h.mpos)⟩
theorem DueOf.sh_pos {share : Int} {cs : List (Int × Int)} {m sh : Int} {ds : List (Int × Int)} {j : Nat} (h : DueOf share cs m sh ds j) (hs : 0 < share) : 0 < sh := by
  have := h.mpos
  have e := h.sh_eq
  rcases Int.lt_or_le 0 sh with h' | h'
  · exact h'
  · have := Int.mul_nonpos_of_nonneg_of_nonpos (Int.le_of_lt this) h'
    omega
theorem DueOf.sh_bl {share : Int} {cs : List (Int × Int)} {m sh : Int} {ds : List (Int × Int)} {j n : Nat} (h : DueOf share cs m sh ds j) (hb : BL n share) : BL n sh := hb.le (by rw [h.sh_eq]; exact natAbs_mul_le h.mpos)
theorem DueOf.len {share : Int} {cs : List (Int × Int)} {m sh : Int} {ds : List (Int × Int)} {j : Nat} (h : DueOf share cs m sh ds j) : ds.length = cs.length := by rw [h.cs_eq]; simp
theorem turned_len {α : Type} {j : Nat} {ds : List α} (h : j ≤ ds.length) : (turned j ds).length = ds.length := by simp [turned]; omega
theorem turned_mem {α : Type} {j : Nat} {ds : List α} {x : α} (h : x ∈ turned j ds) : x ∈ ds := by
  rcases List.mem_append.mp h with h | h
  · exact List.mem_of_mem_drop h
  · exact List.mem_of_mem_take h
theorem share_bl {s : Int} (h0 : 1 ≤ s) (h1 : s ≤ 1000000000) : BL 100 s := by
  have e : (1000000000 : Int) < ((2 ^ 100 : Nat) : Int) := by decide
  exact BL.of_lt (by omega) (by omega)
/-- what _law_numbers hands out, written out -/
theorem drawn8 {xs : List Int} (h : Drawn 8 xs) : ∃ a b c d e f g k, xs = [a, b, c, d, e, f, g, k] := by
  have hl := h.len
  match xs, hl with
  | [a, b, c, d, e, f, g, k], _ => exact ⟨a, b, c, d, e, f, g, k, rfl⟩
theorem far_ok {x : D} (h : x ∈ [D.int 10, D.int 1000000000000000000000000000000000000000000000000000000000000]) : ∃ f : Int, x = .int f ∧ 0 ≤ f ∧ BL 200 f := by
  simp only [List.mem_cons, List.not_mem_nil, or_false] at h
  rcases h with rfl | rfl
  · exact ⟨_, rfl, by decide, BL.const⟩
  · exact ⟨_, rfl, by decide, BL.of_lt (by decide) (by decide)⟩
namespace K12
theorem dvd_cop {q p r : Int} (h : Int.gcd q p = 1) (d : q ∣ p * r) : q ∣ r := by
  have h1 : q.natAbs ∣ p.natAbs * r.natAbs := by rw [← Int.natAbs_mul]; exact Int.natAbs_dvd_natAbs.mpr d
  exact Int.natAbs_dvd_natAbs.mp (Nat.Coprime.dvd_of_dvd_mul_left h h1)
theorem low_eq {a b p q p' q' : Int} (hb : 0 < b) (h : Low a b p q) (h' : Low a b p' q') : p = p' ∧ q = q' := by
  have e : p * q' = p' * q := by
    have h1 := h.worth
    have h2 := h'.worth
    have : (p * q') * b = (p' * q) * b := by grind
    exact Int.eq_of_mul_eq_mul_right (by omega) this
  have d1 : q ∣ q' := by
    have : q ∣ p * q' := by rw [e]; exact Int.dvd_mul_left ..
    exact dvd_cop (by rw [Int.gcd_comm]; exact h.cop) this
  have d2 : q' ∣ q := by
    have : q' ∣ p' * q := by rw [← e]; exact Int.dvd_mul_left ..
    exact dvd_cop (by rw [Int.gcd_comm]; exact h'.cop) this
  have l1 := Int.le_of_dvd h'.pos d1
  have l2 := Int.le_of_dvd h.pos d2
  have eq : q = q' := by omega
  subst eq
  exact ⟨Int.eq_of_mul_eq_mul_right (by have := h.pos; omega) e, rfl⟩
theorem fan_snoc (z : Int × Int) : ∀ (r : List (Int × Int)) (a b : Int × Int) (w : Int × Int), (a :: r).getLast? = some w → fan z a (r ++ [b]) = fan z a r + cr (w.1 - z.1, w.2 - z.2) (b.1 - z.1, b.2 - z.2)
  | [], a, b, w, h => by
    simp at h; subst h
    simp [fan]
  | c :: r, a, b, w, h => by
    rw [List.cons_append, fan, fan, fan_snoc z r c b w (by simpa using h)]
    omega
theorem rangeD_succ {lo : Int} {n : Nat} : rangeD lo (n + 1) = .int lo :: rangeD (lo + 1) n := by
  unfold rangeD
  rw [List.range_succ_eq_map, List.map_cons, List.map_map]
  congr 1
  · simp
  · refine List.map_congr_left fun k _ => ?_
    simp only [Function.comp]
    congr 1; push_cast; omega
theorem pure_law : ∀ ds Q, FLaw 63 ds Q → rd_law_k12 F_due F_low F_numbers F_ring F_share F_whole F_doubled { nx := fun _ => Q .non, rt := Q } (startD ["_law_script", "_law_head", "_law_ring_here", "_law_share_here", "_law_corners", "_law_found", "_law_x", "_law_y", "_law_total", "_law_k"] ds) := by
  rintro ds Q ⟨ns, rfl, hn, q⟩
  rw [startD_eq 9 rfl]
  unfold rd_law_k12
  simp only [startN, rep9, List.map_cons, List.map_nil, List.cons_append, List.nil_append]
  refine seq_by (fun ρ => ∃ a b c d e f g k : Int, ρ = [some (.d (il ns)), some (.d (.lst [.int a, .int b, .int c, .int d, .int e, .int f, .int g, .int k])), none, none, none, none, none, none, none, none]) (fun K hK => ?_) ?_
  · walk_at "rd"
    refine ⟨ns, 8, rfl, ⟨by omega, by decide, by decide⟩, fun xs hx => ?_⟩
    obtain ⟨a, b, c, d, e, f, g, k, rfl⟩ := drawn8 hx
    exact hK _ ⟨a, b, c, d, e, f, g, k, rfl⟩
  rintro ρ ⟨a, b, c, d, e, f, g, k, rfl⟩
  generalize hH : D.lst [.int a, .int b, .int c, .int d, .int e, .int f, .int g, .int k] = HD
  refine seq_by (fun ρ => ∃ cs, Small 210 cs ∧ (3 ≤ cs.length ∧ cs.length ≤ 24) ∧ ρ = [some (.d (il ns)), some (.d HD), some (.d (pts cs)), none, none, none, none, none, none, none]) (fun K hK => ?_) ?_
  · rw [← hH] at hK ⊢
    walk_at "rd"
    walk_at "sides"
    obtain ⟨a0, a1⟩ := fmod_range (a := k) (b := 2) (by decide)
    refine dIx_any a0 (by simpa using a1) fun x hx => ?_
    obtain ⟨far, rfl, f0, f1⟩ := far_ok hx
    exact ⟨_, _, _, _, _, _, _, _, far, rfl, ⟨f0, f1⟩, fun lows highs top p q r s ox oy R => hK _ ⟨_, R.small, R.len, rfl⟩⟩
  rintro ρ ⟨cs, csS, csL, rfl⟩
  refine seq_by (fun ρ => ∃ (sh : Int) (z u v : Int × Int) (r : List (Int × Int)), (0 < sh ∧ BL 100 sh) ∧ Small 210 (z :: u :: v :: r) ∧ r.length ≤ 21 ∧ ρ = [some (.d (il ns)), some (.d HD), some (.d (pts cs)), some (.d (.int sh)), some (.d (.tup ((z :: u :: v :: r).map pt))), none, none, none, none, none]) (fun K hK => ?_) ?_
  · rw [← hH] at hK ⊢
    walk_at "rd"
    walk_at "sides"
    refine ⟨_, rfl, fun share s0 s1 => ?_⟩
    refine ⟨share, cs, rfl, ⟨by omega, share_bl s0 s1⟩, ⟨by intro e; rw [e] at csL; simp at csL, by omega⟩, fun m sh zs j hd => ?_⟩
    have hl := hd.len
    have htl := turned_len (Nat.le_of_lt hd.j_lt)
    have hsm : Small 210 (turned j zs) := fun z hz => hd.small csS z (turned_mem hz)
    generalize turned j zs = ts at htl hsm
    walk_at "rd"
    match ts, htl with
    | z :: u :: v :: r, htl =>
      refine hK _ ⟨sh, z, u, v, r, ⟨hd.sh_pos (by omega), hd.sh_bl (share_bl s0 s1)⟩, hsm, by simp at htl; omega, rfl⟩
    | [], htl => simp at htl; omega
    | [_], htl => simp at htl; omega
    | [_, _], htl => simp at htl; omega
  rintro ρ ⟨sh, z, u, v, r, ⟨hs, bs⟩, hsm, hrl, rfl⟩
  generalize hC : D.tup ((z :: u :: v :: r).map pt) = C
  have bsq := (bs.mul bs)
  refine seq_by (fun ρ => ∃ p q, Low (chain z (u :: v :: r ++ [z])) (sh * sh) p q ∧ ρ = [some (.d (il ns)), some (.d HD), some (.d (pts cs)), some (.d (.int sh)), some (.d C), some (.d (fr p q)), none, none, none, none]) (fun K hK => ?_) ?_
  · rw [← hC] at hK ⊢
    simp only [rSet, rCall, raCons, raNil, rTup, rVar, List.getElem?_cons_zero, List.getElem?_cons_succ, List.length_cons, List.length_nil, List.set_cons_zero, List.set_cons_succ]
    refine ⟨sz2, sh, z, u, v, r, rfl, ⟨hs, bs.mono (by decide)⟩, ⟨fun w hw => ⟨(hsm w hw).1.mono (by decide), (hsm w hw).2.mono (by decide)⟩, by omega⟩, fun p q h => hK _ ⟨p, q, h, rfl⟩⟩
  rintro ρ ⟨p, q', hlow, rfl⟩
  refine seq_by (fun ρ => ρ = [some (.d (il ns)), some (.d HD), some (.d (pts cs)), some (.d (.int sh)), some (.d C), some (.d (fr p q')), some (.d (.int z.1)), some (.d (.int z.2)), none, none]) (fun K hK => ?_) ?_
  · rw [← hC] at hK ⊢
    walk_at "rd"
    exact hK _ rfl
  rintro ρ rfl
  refine seq_by (fun ρ => ρ = [some (.d (il ns)), some (.d HD), some (.d (pts cs)), some (.d (.int sh)), some (.d C), some (.d (fr p q')), some (.d (.int z.1)), some (.d (.int z.2)), some (.d (.int 0)), none]) (fun K hK => ?_) ?_
  · walk_at "rd"
    exact hK _ rfl
  rintro ρ rfl
  -- the fan
  refine seq_by (fun ρ => ∃ o, ρ = [some (.d (il ns)), some (.d HD), some (.d (pts cs)), some (.d (.int sh)), some (.d C), some (.d (fr p q')), some (.d (.int z.1)), some (.d (.int z.2)), some (.d (.int (fan z u (v :: r)))), o]) (fun K hK => ?_) ?_
  · subst hC
    have ln : dLen (D.tup ((z :: u :: v :: r).map pt)) = fun Q => Q (.int ((r.length + 3 : Nat) : Int)) := by
      funext Q; simp only [dLen, List.map_cons, List.length_cons, List.length_map]
    simp only [rFor, riR2, raCons, raNil, rC, r1, rVarB, List.getElem?_cons_zero, List.getElem?_cons_succ, S.val, ln]
    refine ⟨⟨⟨by decide, by decide⟩, ⟨by omega, by omega⟩⟩, ?_⟩
    have en : (((r.length + 3 : Nat) : Int) - 2).toNat = (v :: r).length := by simp; omega
    rw [en]
    obtain ⟨T, hT⟩ : ∃ T, T = v :: r := ⟨_, rfl⟩
    rw [← hT] at hK hsm ⊢
    refine for_ind (fun xs ρ => ∃ (i : Nat) (o : Option S), i ≤ T.length ∧ xs = rangeD (2 + (i : Int)) (T.length - i) ∧ ρ = [some (.d (il ns)), some (.d HD), some (.d (pts cs)), some (.d (.int sh)), some (.d (.tup ((z :: u :: T).map pt))), some (.d (fr p q')), some (.d (.int z.1)), some (.d (.int z.2)), some (.d (.int (fan z u (T.take i)))), o]) ?_ ?_ _ _ ⟨0, none, Nat.zero_le _, by simp, by simp [fan]⟩
    · rintro x xs ρ ⟨i, o, hi, ex, rfl⟩ F _ _ hnx _
      have hlt : i < T.length := by
        rcases Nat.lt_or_ge i T.length with h | h
        · exact h
        · rw [show T.length - i = 0 by omega] at ex; cases ex
      rw [show T.length - i = (T.length - (i + 1)) + 1 by omega, rangeD_succ] at ex
      cases ex
      unfold rd_law_k12_b1
      have w1 : ((z :: u :: T).map pt)[i + 1]? = some (pt ((u :: T)[i]'(by simp; omega))) := by
        rw [List.getElem?_map, List.getElem?_cons_succ, List.getElem?_eq_getElem (by simp; omega)]; rfl
      have w2 : ((z :: u :: T).map pt)[i + 2]? = some (pt T[i]) := by
        rw [List.getElem?_map, List.getElem?_cons_succ, List.getElem?_cons_succ, List.getElem?_eq_getElem hlt]; rfl
      have a1 : atI ((z :: u :: T).map pt) (2 + (i : Int) - 1) = _ := atI_of (j := i + 1) (by omega) w1
      have a2 : atI ((z :: u :: T).map pt) (2 + (i : Int)) = _ := atI_of (j := i + 2) (by omega) w2
      have i1 : ∀ Q, dIx (.tup ((z :: u :: T).map pt)) (.int (2 + (i : Int) - 1)) Q = Q (pt ((u :: T)[i]'(by simp; omega))) := fun Q => by simp only [dIx, a1]
      have i2 : ∀ Q, dIx (.tup ((z :: u :: T).map pt)) (.int (2 + (i : Int))) Q = Q (pt T[i]) := fun Q => by simp only [dIx, a2]
      have hz := hsm z List.mem_cons_self
      have hp := hsm ((u :: T)[i]'(by simp; omega)) (List.mem_cons_of_mem _ (List.getElem_mem _))
      have hc := hsm T[i] (List.mem_cons_of_mem _ (List.mem_cons_of_mem _ (List.getElem_mem _)))
      have hlast : (u :: T.take i).getLast? = some ((u :: T)[i]'(by simp; omega)) := by
        rw [List.getLast?_eq_getElem?]
        simp only [List.length_cons, List.length_take, Nat.min_eq_left hi, Nat.add_sub_cancel]
        cases i with
        | zero => simp
        | succ i => simp
      have step := fan_snoc z (T.take i) u T[i] _ hlast
      rw [← List.take_succ_eq_append_getElem hlt] at step
      generalize (u :: T)[i]'(by simp; omega) = P at *
      generalize T[i] = N at *
      generalize hC : D.tup ((z :: u :: T).map pt) = C at *
      simp only [rgName, rSeq, rSet, r2, rVarB, rC, dSub, dMul, dAdd, List.set_cons_zero, List.set_cons_succ, List.getElem?_cons_zero, List.getElem?_cons_succ, S.val, i1, i2, dIx_tup0, dIx_tup1]
      refine ⟨(hp.1.sub hz.1).mulOk (hc.2.sub hz.2), (hp.2.sub hz.2).mulOk (hc.1.sub hz.1), ?_⟩
      refine hnx _ ⟨i + 1, some (.d (.int (2 + (i : Int)))), hlt, by rw [show (2 + (i : Int) + 1) = 2 + ((i + 1 : Nat) : Int) by omega], ?_⟩
      rw [step]
      simp only [cr, Int.add_sub_assoc]
    · rintro ρ ⟨i, o, hi, ex, rfl⟩
      have : i = T.length := by
        rcases Nat.lt_or_ge i T.length with h | h
        · rw [show T.length - i = (T.length - (i + 1)) + 1 by omega, rangeD_succ] at ex; cases ex
        · omega
      subst this
      rw [List.take_length]
      exact hK _ ⟨o, rfl⟩
  rintro ρ ⟨o, rfl⟩
  rw [shoe_fan] at hlow
  have e5 : ∀ (p' r' : Int), eqL (eqF 5) [.int p, .int q'] [.int p', .int r'] = some (decide (p = p') && (decide (q' = r') && true)) := fun p' r' => by simp [eqL, eqF]
  have hsq := Int.mul_pos hs hs
  have b9 : BL 9000 (sh * sh) := bsq.mono (by decide)
  refine seq_by (fun ρ => ρ = [some (.d (il ns)), some (.d HD), some (.d (pts cs)), some (.d (.int sh)), some (.d C), some (.d (fr p q')), some (.d (.int z.1)), some (.d (.int z.2)), some (.d (.int (fan z u (v :: r)))), o]) (fun K hK => ?_) ?_
  · walk_at "rd"
    refine ⟨bs.mulOk bs, _, _, rfl, ⟨hsq, b9⟩, fun p' r' h' => ?_⟩
    obtain ⟨rfl, rfl⟩ := low_eq hsq hlow h'
    dsimp only [fr]
    rw [e5]
    simp only [decide_true, Bool.true_and, Bool.not_true, Bool.false_eq_true, if_false]
    exact hK _ rfl
  rintro ρ rfl
  walk_at "rd"
  exact ⟨p, rfl, q', rfl, q⟩
end K12
end L2.R2

set_option Elab.async false
set_option linter.all false
set_option maxRecDepth 100000
set_option maxHeartbeats 4000000
namespace L2.R2
open PySem PySem.Spec PyProof.Rows L2
local macro_rules | `(tactic| walk_at "rd") => `(tactic| simp only [rSeq, rNext, rRet, rDrop, rIfS, rSet, rSetO, rPar, rAsg, rgName, rgTup, rgCons, rgNil, rVar, rVarB, rC, r2, r1, rTest, rAnd, rOr, rNot, rAndV, rOrV, rNotV, rIf, raNil, raCons, rTup, rLst, rCall, rCB, rNoPart, rPart, rSlL', rFor, riEn, riL, riT, riR1, riR2, rComp, compD, capE, capO, fzAt, rAppD, rPopD, rSetIx, rZip, seqD, rSlA, dAddA, dListOf, dTupOf, dSum, dNe, rIndex, riRev, riZip,
  dAdd, dSub, dMul, dFdiv, dMod, dPow, dNeg, dCmp, dEqS, dIsN, dEq_rd, isNon, dIx_tup0, dIx_tup1, dIx_tup2, dIx_lst0, dIx_lst1, dIx_lst2, dIx_lst3, dIx_lst4, dIx_lst5, dIx_lst6, dIx_lst7, dIx_lst8, dIx_lst9, dIx_lst10, dIx_lst11, dAbs, dInt, dMax2, dMin2, dLen, dIsi, isi_ii, isi_bi, isi_ib, isi_bb, isi_tt, S.val, startN, rep0, rep1, rep2, rep3, rep4, rep5, rep6, rep7, rep8, rep9, rep10, rep11, rep12,
  List.map_cons, List.map_nil, List.cons_append, List.nil_append, List.length_cons, List.length_nil, List.getElem?_cons_zero, List.getElem?_cons_succ, List.set_cons_zero, List.set_cons_succ, List.append_nil,
  Bool.or_false, Bool.or_true, Bool.false_or, Bool.true_or, Bool.not_true, Bool.not_false, if_true, if_false, Bool.false_eq_true, sz0, sz1, sz2, sz3, sz4, true_and, decide_eq_true_eq, Int.reduceToNat, Int.reducePow, Int.reduceMul, Int.reduceSub, Int.reduceAdd, Int.reduceNeg])
local macro_rules | `(tactic| walk_at "side") => `(tactic| first | exact pow_ok | exact mod_ok | exact (BL.const (n := 9000) (by decide)).divOk (by decide) | exact (BL.const (n := 300) (by decide)).mulOk (BL.const (n := 300) (by decide)))
local macro_rules | `(tactic| walk_at "sides") => `(tactic| repeat (refine And.intro (by walk_at "side") ?_))
/-! ## what is due, told from its least corner on -/
theorem lexLt_pt (z w : Pt) : HT.lexLt [z.1, z.2] [w.1, w.2] = decide (ltP z w) := by
  unfold ltP
  simp only [HT.lexLt]
  by_cases h : z.1 = w.1
  · rw [if_pos h]
    by_cases h2 : z.2 = w.2
    · rw [if_pos h2]; simp [h, h2]
    · rw [if_neg h2]; simp [h]
  · rw [if_neg h]; simp [h]
theorem turned_rot {α : Type} (j : Nat) (xs : List α) : Rot xs (turned j xs) := ⟨xs.take j, xs.drop j, by rw [List.take_append_drop], rfl⟩
theorem turned_map {α β : Type} (j : Nat) (f : α → β) (xs : List α) : turned j (xs.map f) = (turned j xs).map f := by unfold turned; simp
theorem DueOf.norm {share : Int} {cs : List Pt} {m sh : Int} {ds : List Pt} {j : Nat} (h : DueOf share cs m sh ds j) : NormOf share (turned j cs) m sh (turned j ds) := by
  refine ⟨h.mpos, h.sh_eq, ?_, fun d h1 h2 => h.cop d h1 fun z hz => h2 z (((turned_rot j ds).mem z).mp hz)⟩
  conv => lhs; rw [h.cs_eq]
  exact turned_map j _ ds
theorem DueOf.first {share : Int} {cs : List Pt} {m sh : Int} {ds : List Pt} {j : Nat} (h : DueOf share cs m sh ds j) : ∃ w T, turned j cs = w :: T ∧ ∀ x ∈ T, ¬ ltP x w := by
  obtain ⟨z, T, e⟩ : ∃ z T, turned j ds = z :: T := by
    have hj := h.j_lt
    refine ⟨ds[j], ds.drop (j + 1) ++ ds.take j, ?_⟩
    show ds.drop j ++ ds.take j = _
    rw [List.drop_eq_getElem_cons hj]; rfl
  have ez : ds[j]? = some z := by
    have : (turned j ds)[0]? = some z := by rw [e]; rfl
    have hj := h.j_lt
    unfold turned at this
    rw [List.getElem?_append_left (by simp; omega), List.getElem?_drop] at this
    simpa using this
  refine ⟨scl m z, T.map (scl m), ?_, fun x hx => ?_⟩
  · conv => lhs; rw [h.cs_eq]
    rw [turned_map, e]; rfl
  · obtain ⟨y, hy, rfl⟩ := List.mem_map.mp hx
    rw [scl_lt h.mpos]
    have := h.least y (((turned_rot j ds).mem y).mpr (by rw [e]; simp [hy])) z ez
    rw [lexLt_pt] at this
    simpa using this
theorem DueOf.cvx {share : Int} {cs : List Pt} {m sh : Int} {ds : List Pt} {j : Nat} (h : DueOf share cs m sh ds j) (c : Cvx cs) : Cvx (turned j ds) := by
  have : Cvx ds := by
    have c' := c
    rw [h.cs_eq] at c'
    exact Cvx.unscl h.mpos c'
  exact Cvx.rot (turned_rot j ds) this
/-! ## the ways -/
def F_way : FD := fun ds Q => ∃ n : Int, ds = [.int n] ∧ BL 200 n ∧ ∀ p q, 0 < q → q ≤ 1000000000 → BL 100 q → BL 210 p → Q (.tup [.int p, .int q])
theorem len_way : ∀ ds Q, F_way ds Q → ds.length = 1 := by rintro ds Q ⟨_, rfl, _⟩; rfl
theorem pure_law_way : ∀ ds Q, F_way ds Q → rd__law_way F_low F_share { nx := fun _ => Q .non, rt := Q } (startD ["_law_number", "_law_top"] ds) := by
  rintro ds Q ⟨n, rfl, bn, q⟩
  rw [startD_eq 1 rfl]
  unfold rd__law_way
  simp only [startN, rep1, List.map_cons, List.map_nil, List.cons_append, List.nil_append]
  refine seq_by (fun ρ => ∃ t : Int, BL 210 t ∧ ρ = [some (.d (.int n)), some (.d (.int t))]) (fun K hK => ?_) ?_
  · walk_at "rd"
    walk_at "sides"
    refine hK _ ⟨_, ?_, rfl⟩
    obtain ⟨a0, a1⟩ := fmod_range (a := n) (b := 2000000000000000000000000000000000000000000000000000000000001) (by decide)
    have e : (2000000000000000000000000000000000000000000000000000000000001 : Int) < ((2 ^ 209 : Nat) : Int) := by decide
    have e2 : ((2 ^ 209 : Nat) : Int) + ((2 ^ 209 : Nat) : Int) = ((2 ^ 210 : Nat) : Int) := by decide
    exact BL.of_lt (by omega) (by omega)
  rintro ρ ⟨t, bt, rfl⟩
  refine seq_by (fun ρ => ∃ t : Int, BL 210 t ∧ ρ = [some (.d (.int n)), some (.d (.int t))]) (fun K hK => ?_) ?_
  · walk_at "rd"
    walk_at "sides"
    split
    · refine ⟨bn.mulOk (BL.const (n := 20) (by decide)), ?_⟩
      walk_at "sides"
      refine hK _ ⟨_, ?_, rfl⟩
      obtain ⟨a0, a1⟩ := fmod_range (a := (n * 69621).fmod 1000003) (b := 19) (by decide)
      exact BL.of_lt (by omega) (by omega)
    · exact hK _ ⟨t, bt, rfl⟩
  rintro ρ ⟨t, bt, rfl⟩
  walk_at "rd"
  refine ⟨bn.mulOk (BL.const (n := 20) (by decide)), ?_⟩
  walk_at "sides"
  refine ⟨_, rfl, fun s s0 s1 => ?_⟩
  have bs := share_bl s0 s1
  refine ⟨t, s, rfl, ⟨by omega, bs.mono (by decide)⟩, fun p r L => q p r L.pos (by have := L.leb; have := L.pos; omega) (bs.le L.leb) (bt.le L.lea)⟩
/-! ## the same telling -/
theorem eqL_refl {f : D → D → Option Bool} : ∀ (xs : List D), (∀ x ∈ xs, f x x = some true) → eqL f xs xs = some true
  | [], _ => rfl
  | x :: xs, h => by
    simp only [eqL, h x (by simp), eqL_refl xs fun y hy => h y (by simp [hy])]
    rfl
theorem eqF_int (n : Nat) (i : Int) : eqF (n + 1) (.int i) (.int i) = some true := by simp [eqF]
theorem eqF_ptr (n : Nat) (z : Pt) : eqF (n + 2) (pt z) (pt z) = some true := by
  show eqL (eqF (n + 1)) _ _ = _
  refine eqL_refl _ fun x hx => ?_
  simp only [List.mem_cons, List.not_mem_nil, or_false] at hx
  rcases hx with rfl | rfl <;> exact eqF_int n _
abbrev pce (sh : Int) (zs : List Pt) : D := .tup [.int sh, .tup (zs.map pt)]
theorem eq_pce (n : Nat) (sh : Int) (zs : List Pt) : eqL (eqF (n + 3)) [.int sh, .tup (zs.map pt)] [.int sh, .tup (zs.map pt)] = some true := by
  refine eqL_refl _ fun x hx => ?_
  simp only [List.mem_cons, List.not_mem_nil, or_false] at hx
  rcases hx with rfl | rfl
  · exact eqF_int _ _
  · show eqL (eqF (n + 2)) _ _ = _
    refine eqL_refl _ fun y hy => ?_
    obtain ⟨z, _, rfl⟩ := List.mem_map.mp hy
    exact eqF_ptr _ _
def F_same2 : FD := fun ds Q => ∃ (sh : Int) (zs : List Pt), ds = [pce sh zs, pce sh zs] ∧ zs.length ≤ 200 ∧ Q (.bl true)
theorem len_same2 : ∀ ds Q, F_same2 ds Q → ds.length = 2 := by rintro ds Q ⟨_, _, rfl, _⟩; rfl
theorem pure_law_same_2 : ∀ ds Q, F_same2 ds Q → rd__law_same_2 F_whole { nx := fun _ => Q .non, rt := Q } (startD ["_law_found", "_law_due_here", "_law_corner"] ds) := by
  rintro ds Q ⟨sh, zs, rfl, hl, q⟩
  rw [startD_eq 1 rfl]
  unfold rd__law_same_2
  simp only [startN, rep1, List.map_cons, List.map_nil, List.cons_append, List.nil_append]
  refine seq_by (fun ρ => ρ = [some (.d (pce sh zs)), some (.d (pce sh zs)), none]) (fun K hK => ?_) ?_
  · walk_at "rd"
    rw [eq_pce 2]
    exact ⟨sh, rfl, hK _ rfl⟩
  rintro ρ rfl
  refine seq_by (fun ρ => True) (fun K hK => ?_) ?_
  · walk_at "rd"
    refine for_ind (fun xs ρ => ∃ (rest : List Pt) (x : Option S), xs = rest.map pt ∧ ρ = [some (.d (pce sh zs)), some (.d (pce sh zs)), x]) ?_ ?_ _ _ ⟨zs, none, rfl, rfl⟩
    · rintro x xs ρ ⟨rest, u, ex, rfl⟩ F _ _ hn _
      cases rest with
      | nil => cases ex
      | cons z rest =>
        cases ex
        unfold rd__law_same_2_b1
        walk_at "rd"
        exact ⟨_, rfl, _, rfl, hn _ ⟨rest, _, rfl, rfl⟩⟩
    · rintro ρ _; exact hK _ trivial
  rintro ρ _
  walk_at "rd"
  exact q
/-! ## the law -/
theorem drawn11 {xs : List Int} (h : Drawn 11 xs) : ∃ a b c d e f g k l m n, xs = [a, b, c, d, e, f, g, k, l, m, n] ∧ BL 200 m ∧ BL 200 n := by
  have hl := h.len
  match xs, hl, h with
  | [a, b, c, d, e, f, g, k, l, m, n], _, h => exact ⟨a, b, c, d, e, f, g, k, l, m, n, rfl, h.bl (by simp), h.bl (by simp)⟩
abbrev thr (sign share p q u v : Int) (z : Pt) : Pt := (sign * z.1 * (q * v) + p * v * share, sign * z.2 * (q * v) + u * q * share)
theorem thr_mv (sign share p q u v : Int) (z : Pt) : thr sign share p q u v z = mv (sign * (q * v)) (p * v * share) (u * q * share) z := by
  unfold thr mv
  refine Prod.ext ?_ ?_ <;> (dsimp only; grind)
theorem img_there {share m sh sign p q u v : Int} {cs zs : List Pt} {j j2 : Nat} (h : DueOf share cs m sh zs j) : ImgOf sh (turned j zs) sign p q u v (share * (q * v)) (turned j2 (cs.map (thr sign share p q u v))) := by
  refine ⟨turned j (cs.map (thr sign share p q u v)), ((turned_rot j _).symm).trans (turned_rot j2 _), ?_, fun i a b ea eb => ?_⟩
  · have e := h.cs_eq
    have l : cs.length = zs.length := by rw [e]; simp
    unfold turned; simp [l]
  · have e1 : turned j (cs.map (thr sign share p q u v)) = (turned j zs).map fun z => thr sign share p q u v (m * z.1, m * z.2) := by
      conv => lhs; rw [h.cs_eq]
      rw [List.map_map, turned_map]; rfl
    rw [e1, List.getElem?_map, ea] at eb
    simp only [Option.map_some, Option.some.injEq] at eb
    subst eb
    have es := h.sh_eq
    subst es
    constructor <;> (unfold thr; dsimp only; grind)
theorem img_back {share m2 sh2 sign p q u v : Int} {cs zs2 : List Pt} {j j2 : Nat} (hs : sign = 1 ∨ sign = -1) (h : DueOf (share * (q * v)) (cs.map (thr sign share p q u v)) m2 sh2 zs2 j2) : ImgOf sh2 (turned j2 zs2) sign (0 - sign * p) q (0 - sign * u) v share (turned j cs) := by
  refine ⟨turned j2 cs, ((turned_rot j2 _).symm).trans (turned_rot j _), ?_, fun i a b ea eb => ?_⟩
  · have l := congrArg List.length h.cs_eq
    simp only [List.length_map] at l
    unfold turned; simp [l]
  · have e1 : (turned j2 cs).map (thr sign share p q u v) = (turned j2 zs2).map fun z => (m2 * z.1, m2 * z.2) := by
      rw [← turned_map, ← turned_map, h.cs_eq]
    have g := congrArg (fun l => l[i]?) e1
    simp only [List.getElem?_map, ea, eb, Option.map_some, Option.some.injEq, Prod.mk.injEq] at g
    obtain ⟨g1, g2⟩ := g
    have es := h.sh_eq
    have mp := h.mpos
    constructor
    · refine Int.eq_of_mul_eq_mul_left (a := m2) (by omega) ?_
      rcases hs with rfl | rfl <;> grind
    · refine Int.eq_of_mul_eq_mul_left (a := m2) (by omega) ?_
      rcases hs with rfl | rfl <;> grind
theorem pure_law : ∀ ds Q, FLaw 63 ds Q → rd_law_k16 F_due F_numbers F_ring F_same2 F_share F_way F_pushed { nx := fun _ => Q .non, rt := Q } (startD ["_law_script", "_law_head", "_law_ring_here", "_law_share_here", "_law_sign", "_law_dx", "_law_dy", "_law_by", "_law_there", "_law_x", "_law_y", "_law_piece", "_law_found"] ds) := by
  rintro ds Q ⟨ns, rfl, hn, Qt⟩
  rw [startD_eq 12 rfl]
  unfold rd_law_k16
  simp only [startN, rep12, List.map_cons, List.map_nil, List.cons_append, List.nil_append]
  refine seq_by (fun ρ => ∃ a b c d e f g k l m n : Int, (BL 200 m ∧ BL 200 n) ∧ ρ = [some (.d (il ns)), some (.d (.lst [.int a, .int b, .int c, .int d, .int e, .int f, .int g, .int k, .int l, .int m, .int n])), none, none, none, none, none, none, none, none, none, none, none]) (fun K hK => ?_) ?_
  · walk_at "rd"
    refine ⟨ns, 11, rfl, ⟨by omega, by decide, by decide⟩, fun xs hx => ?_⟩
    obtain ⟨a, b, c, d, e, f, g, k, l, m, n, rfl, bm, bn⟩ := drawn11 hx
    exact hK _ ⟨a, b, c, d, e, f, g, k, l, m, n, ⟨bm, bn⟩, rfl⟩
  rintro ρ ⟨a, b, c, d, e, f, g, k, l, hm, hn', ⟨bm, bn⟩, rfl⟩
  generalize hH : D.lst [.int a, .int b, .int c, .int d, .int e, .int f, .int g, .int k, .int l, .int hm, .int hn'] = HD
  refine seq_by (fun ρ => ∃ cs : List Pt, Cvx cs ∧ Small 210 cs ∧ (3 ≤ cs.length ∧ cs.length ≤ 24) ∧ ρ = [some (.d (il ns)), some (.d HD), some (.d (pts cs)), none, none, none, none, none, none, none, none, none, none]) (fun K hK => ?_) ?_
  · rw [← hH] at hK ⊢
    walk_at "rd"
    walk_at "sides"
    obtain ⟨a0, a1⟩ := fmod_range (a := k) (b := 2) (by decide)
    refine dIx_any a0 (by simpa using a1) fun x hx => ?_
    obtain ⟨far, rfl, f0, f1⟩ := far_ok hx
    exact ⟨_, _, _, _, _, _, _, _, far, rfl, ⟨f0, f1⟩, fun lows highs top p q r s ox oy R => hK _ ⟨_, ringOf_cvx R, R.small, R.len, rfl⟩⟩
  rintro ρ ⟨cs, cv, csS, csL, rfl⟩
  refine seq_by (fun ρ => ∃ share : Int, (0 < share ∧ BL 100 share ∧ share ≤ 1000000000) ∧ ρ = [some (.d (il ns)), some (.d HD), some (.d (pts cs)), some (.d (.int share)), none, none, none, none, none, none, none, none, none]) (fun K hK => ?_) ?_
  · rw [← hH] at hK ⊢
    walk_at "rd"
    walk_at "sides"
    exact ⟨_, rfl, fun share s0 s1 => hK _ ⟨share, ⟨by omega, share_bl s0 s1, s1⟩, rfl⟩⟩
  rintro ρ ⟨share, ⟨hs, bs, hs1⟩, rfl⟩
  refine seq_by (fun ρ => ∃ sign : Int, (sign = 1 ∨ sign = -1) ∧ ρ = [some (.d (il ns)), some (.d HD), some (.d (pts cs)), some (.d (.int share)), some (.d (.int sign)), none, none, none, none, none, none, none, none]) (fun K hK => ?_) ?_
  · rw [← hH] at hK ⊢
    walk_at "rd"
    walk_at "sides"
    obtain ⟨a0, a1⟩ := fmod_range (a := l) (b := 2) (by decide)
    refine ⟨(BL.const (n := 10) (by decide)).mulOk (n := 10) (BL.of_lt (by omega) (by omega)), hK _ ⟨_, ?_, rfl⟩⟩
    omega
  rintro ρ ⟨sign, hsg, rfl⟩
  refine seq_by (fun ρ => ∃ p q : Int, (0 < q ∧ q ≤ 1000000000 ∧ BL 100 q ∧ BL 210 p) ∧ ρ = [some (.d (il ns)), some (.d HD), some (.d (pts cs)), some (.d (.int share)), some (.d (.int sign)), some (.d (.tup [.int p, .int q])), none, none, none, none, none, none, none]) (fun K hK => ?_) ?_
  · rw [← hH] at hK ⊢
    walk_at "rd"
    exact ⟨_, rfl, bm, fun p q q0 q1 bq bp => hK _ ⟨p, q, ⟨q0, q1, bq, bp⟩, rfl⟩⟩
  rintro ρ ⟨p, q, ⟨hq, hq1, bq, bp⟩, rfl⟩
  refine seq_by (fun ρ => ∃ u v : Int, (0 < v ∧ v ≤ 1000000000 ∧ BL 100 v ∧ BL 210 u) ∧ ρ = [some (.d (il ns)), some (.d HD), some (.d (pts cs)), some (.d (.int share)), some (.d (.int sign)), some (.d (.tup [.int p, .int q])), some (.d (.tup [.int u, .int v])), none, none, none, none, none, none]) (fun K hK => ?_) ?_
  · rw [← hH] at hK ⊢
    walk_at "rd"
    exact ⟨_, rfl, bn, fun p q q0 q1 bq bp => hK _ ⟨p, q, ⟨q0, q1, bq, bp⟩, rfl⟩⟩
  rintro ρ ⟨u, v, ⟨hv, hv1, bv, bu⟩, rfl⟩
  have bsg : BL 1 sign := by rcases hsg with rfl | rfl <;> exact BL.const (by decide)
  have bby := bq.mul bv
  refine seq_by (fun ρ => ρ = [some (.d (il ns)), some (.d HD), some (.d (pts cs)), some (.d (.int share)), some (.d (.int sign)), some (.d (.tup [.int p, .int q])), some (.d (.tup [.int u, .int v])), some (.d (.int (q * v))), none, none, none, none, none]) (fun K hK => ?_) ?_
  · walk_at "rd"
    exact ⟨bq.mulOk bv, hK _ rfl⟩
  rintro ρ rfl
  refine seq_by (fun ρ => ρ = [some (.d (il ns)), some (.d HD), some (.d (pts cs)), some (.d (.int share)), some (.d (.int sign)), some (.d (.tup [.int p, .int q])), some (.d (.tup [.int u, .int v])), some (.d (.int (q * v))), some (.own []), none, none, none, none]) (fun K hK => ?_) ?_
  · walk_at "rd"
    exact hK _ rfl
  rintro ρ rfl
  refine seq_by (fun ρ => ∃ x y : Option S, ρ = [some (.d (il ns)), some (.d HD), some (.d (pts cs)), some (.d (.int share)), some (.d (.int sign)), some (.d (.tup [.int p, .int q])), some (.d (.tup [.int u, .int v])), some (.d (.int (q * v))), some (.own ((cs.map (thr sign share p q u v)).map pt)), x, y, none, none]) (fun K hK => ?_) ?_
  · walk_at "rd"
    refine for_ind (fun xs ρ => ∃ (done rest : List Pt) (x y : Option S), cs = done ++ rest ∧ xs = rest.map pt ∧ ρ = [some (.d (il ns)), some (.d HD), some (.d (pts cs)), some (.d (.int share)), some (.d (.int sign)), some (.d (.tup [.int p, .int q])), some (.d (.tup [.int u, .int v])), some (.d (.int (q * v))), some (.own ((done.map (thr sign share p q u v)).map pt)), x, y, none, none]) ?_ ?_ _ _ ⟨[], cs, none, none, rfl, rfl, rfl⟩
    · rintro x xs ρ ⟨done, rest, x0, y0, e, ex, rfl⟩ F _ _ hn _
      cases rest with
      | nil => cases ex
      | cons z rest =>
        cases ex
        have bz := csS z (by rw [e]; simp)
        have ld : done.length < cs.length := by rw [e]; simp
        unfold rd_law_k16_b1
        walk_at "rd"
        refine ⟨bsg.mulOk bz.1, (bsg.mul bz.1).mulOk bby, bp.mulOk bv, (bp.mul bv).mulOk bs, bsg.mulOk bz.2, (bsg.mul bz.2).mulOk bby, bu.mulOk bq, (bu.mul bq).mulOk bs, sz_le (by simp; omega), hn _ ⟨done ++ [z], rest, some (.d (.int z.1)), some (.d (.int z.2)), by simpa using e, rfl, ?_⟩⟩
        simp
    · rintro ρ ⟨done, rest, x0, y0, e, ex, rfl⟩
      have : rest = [] := by simpa using ex.symm
      subst this
      rw [List.append_nil] at e
      subst e
      exact hK _ ⟨x0, y0, rfl⟩
  rintro ρ ⟨x0, y0, rfl⟩
  have csne : cs ≠ [] := by intro e; rw [e] at csL; simp at csL
  refine seq_by (fun ρ => ∃ m sh zs j, DueOf share cs m sh zs j ∧ ρ = [some (.d (il ns)), some (.d HD), some (.d (pts cs)), some (.d (.int share)), some (.d (.int sign)), some (.d (.tup [.int p, .int q])), some (.d (.tup [.int u, .int v])), some (.d (.int (q * v))), some (.own ((cs.map (thr sign share p q u v)).map pt)), x0, y0, some (.d (pce sh (turned j zs))), none]) (fun K hK => ?_) ?_
  · walk_at "rd"
    exact ⟨share, cs, rfl, ⟨hs, bs⟩, ⟨csne, by omega⟩, fun m sh zs j hd => hK _ ⟨m, sh, zs, j, hd, rfl⟩⟩
  rintro ρ ⟨m, sh, zs, j, hd, rfl⟩
  have shp := hd.sh_pos hs
  have shb := hd.sh_bl bs
  have zsS := hd.small csS
  have lz := hd.len
  have lt := turned_len (Nat.le_of_lt hd.j_lt)
  have cvt := hd.cvx cv
  refine seq_by (fun ρ => ∃ sh1 zs1, PushOf sh (turned j zs) sign p q u v sh1 zs1 ∧ ρ = [some (.d (il ns)), some (.d HD), some (.d (pts cs)), some (.d (.int share)), some (.d (.int sign)), some (.d (.tup [.int p, .int q])), some (.d (.tup [.int u, .int v])), some (.d (.int (q * v))), some (.own ((cs.map (thr sign share p q u v)).map pt)), x0, y0, some (.d (pce sh (turned j zs))), some (.d (pce sh1 zs1))]) (fun K hK => ?_) ?_
  · walk_at "rd"
    exact ⟨sh, sign, p, q, u, v, turned j zs, rfl, ⟨shp, hq, hv, hsg⟩, ⟨shb.mono (by decide), bq.mono (by decide), bv.mono (by decide), bp.mono (by decide), bu.mono (by decide)⟩, fun z hz => ⟨(zsS z (turned_mem hz)).1.mono (by decide), (zsS z (turned_mem hz)).2.mono (by decide)⟩, cvt, by omega, fun sh1 zs1 P => hK _ ⟨sh1, zs1, P, rfl⟩⟩
  rintro ρ ⟨sh1, zs1, P1, rfl⟩
  have e0 : 0 < share * (q * v) := Int.mul_pos hs (Int.mul_pos hq hv)
  have thS : ∀ w ∈ cs.map (thr sign share p q u v), BL 700 w.1 ∧ BL 700 w.2 := fun w hw => by
    obtain ⟨z, hz, rfl⟩ := List.mem_map.mp hw
    have bz := csS z hz
    exact ⟨(((bsg.mul bz.1).mul bby).add ((bp.mul bv).mul bs)).mono (by decide), (((bsg.mul bz.2).mul bby).add ((bu.mul bq).mul bs)).mono (by decide)⟩
  have bE : BL 100 (share * (q * v)) := by
    have h1 : q * v ≤ 1000000000 * 1000000000 := Int.mul_le_mul hq1 hv1 (by omega) (by decide)
    have h2 : share * (q * v) ≤ 1000000000 * (1000000000 * 1000000000) := Int.mul_le_mul hs1 h1 (Int.le_of_lt (Int.mul_pos hq hv)) (by decide)
    exact BL.of_lt (by omega) (Int.lt_of_le_of_lt h2 (by decide))
  have key : ∀ m2 sh2 zs2 j2, DueOf (share * (q * v)) (cs.map (thr sign share p q u v)) m2 sh2 zs2 j2 → sh1 = sh2 ∧ zs1 = turned j2 zs2 := fun m2 sh2 zs2 j2 D2 => by
    obtain ⟨w, T, ew, hl⟩ := D2.first
    exact P1.norm shp hq hv e0 (img_there hd) ew hl D2.norm
  refine seq_by (fun ρ => (∃ m2 sh2 zs2 j2, DueOf (share * (q * v)) (cs.map (thr sign share p q u v)) m2 sh2 zs2 j2 ∧ sh1 = sh2 ∧ zs1 = turned j2 zs2) ∧ ρ = [some (.d (il ns)), some (.d HD), some (.d (pts cs)), some (.d (.int share)), some (.d (.int sign)), some (.d (.tup [.int p, .int q])), some (.d (.tup [.int u, .int v])), some (.d (.int (q * v))), some (.d (.lst ((cs.map (thr sign share p q u v)).map pt))), x0, y0, some (.d (pce sh (turned j zs))), some (.d (pce sh1 zs1))]) (fun K hK => ?_) ?_
  · walk_at "rd"
    refine ⟨bs.mulOk bby, share * (q * v), cs.map (thr sign share p q u v), rfl, ⟨e0, bE⟩, ⟨by simpa using csne, by simp; omega⟩, fun m2 sh2 zs2 j2 D2 => ?_⟩
    obtain ⟨k1, k2⟩ := key m2 sh2 zs2 j2 D2
    have l2 := D2.len
    have lt2 := turned_len (Nat.le_of_lt D2.j_lt)
    refine ⟨sh1, zs1, by rw [k1, k2], by rw [k2]; simp at l2; omega, ?_⟩
    walk_at "rd"
    exact hK _ ⟨⟨m2, sh2, zs2, j2, D2, k1, k2⟩, rfl⟩
  rintro ρ ⟨⟨m2, sh2, zs2, j2, D2, k1, k2⟩, rfl⟩
  subst k1 k2
  have bk := D2.sh_bl bE
  have cv2 : Cvx (turned j2 zs2) := by
    refine D2.cvx (cv.map (k := (sign * (q * v)) * (sign * (q * v))) (sq_pos ?_) (fun a b c => ?_) fun a b h => ?_)
    · have := Int.mul_pos hq hv
      rcases hsg with rfl | rfl <;> omega
    · rw [thr_mv, thr_mv, thr_mv, mv_turn]
    · rw [thr_mv, thr_mv] at h
      refine mv_inj ?_ h
      have := Int.mul_pos hq hv
      rcases hsg with rfl | rfl <;> omega
  have z2S := D2.small (n := 700) thS
  have l2 := D2.len
  have lt2 := turned_len (Nat.le_of_lt D2.j_lt)
  simp at l2
  walk_at "rd"
  refine ⟨bsg.mulOk bp, bsg.mulOk bu, sh1, sign, 0 - sign * p, q, 0 - sign * u, v, turned j2 zs2, rfl, ⟨D2.sh_pos e0, hq, hv, hsg⟩, ⟨bk.mono (by decide), bq.mono (by decide), bv.mono (by decide), ?_, ?_⟩, fun z hz => ⟨(z2S z (turned_mem hz)).1.mono (by decide), (z2S z (turned_mem hz)).2.mono (by decide)⟩, cv2, by omega, fun sh3 zs3 P3 => ?_⟩
  · exact ((BL.const (n := 5) (by decide) : BL 5 0).sub (bsg.mul bp)).mono (by decide)
  · exact ((BL.const (n := 5) (by decide) : BL 5 0).sub (bsg.mul bu)).mono (by decide)
  · obtain ⟨w, T, ew, hl⟩ := hd.first
    obtain ⟨g1, g2⟩ := P3.norm (D2.sh_pos e0) hq hv hs (img_back (j := j) hsg D2) ew hl hd.norm
    exact ⟨sh, turned j zs, by rw [g1, g2], by omega, Qt⟩
end L2.R2

set_option Elab.async false
set_option linter.all false
set_option maxRecDepth 100000
set_option maxHeartbeats 4000000
namespace L2.R2
open PySem PySem.Spec PyProof.Rows L2
namespace K16
def top (i : Nat) : Stmt := PySem.Challenge.pw_recut_k16_a_piece_pushed.main.body.getD i (.Pass ⟨0, 0, 0, 0⟩)
abbrev s__law_divisor : Stmt := top 12
abbrev s__law_due : Stmt := top 17
abbrev s__law_numbers : Stmt := top 11
abbrev s__law_rises : Stmt := top 14
abbrev s__law_ring : Stmt := top 15
abbrev s__law_whole : Stmt := top 10
abbrev s__law_same : Stmt := top 19
abbrev s__law_share : Stmt := top 16
abbrev s__law_fraction : Stmt := top 13
abbrev s__law_way : Stmt := top 18
abbrev s_turn : Stmt := top 4
abbrev s_half_round : Stmt := top 5
abbrev s_outline : Stmt := top 6
abbrev s_shared_divisor : Stmt := top 1
abbrev s_settled : Stmt := top 7
abbrev s_shared_multiple : Stmt := top 2
abbrev s_pushed : Stmt := top 8
abbrev s_law : Stmt := top 20
section
variable {P : Program} {w : World} {K : PySem.W.Frag} {mg : Str → Option Value} {base : Heap}
theorem sc__law_divisor : FnScope ["_law_one", "_law_other"] ["_law_one", "_law_other"] (defScope s__law_divisor) := ⟨rfl, rfl, rfl, by decide +kernel, rfl, by decide +kernel, by decide +kernel⟩
theorem bd__law_divisor {f : Addr} {cdv : Value} {A : Around} {outer : List Env} {s : Shared} {H : Hp} {E : XK} (m_abs : mg "abs" = none) (hr : Room 0 (A.deeper (envOfC "_law_divisor" (defScope s__law_divisor) s.heap.objs.size f cdv))) :
    DSs (cxOf CX0 P w K mg base ["_law_one", "_law_other"] "_law_divisor" (defScope s__law_divisor) f cdv A outer s H E).nox (defBody s__law_divisor) (rd__law_divisor) :=
  have nd := sc__law_divisor.nd
  dss_cons (ds_set nd (de_callB cd_abs m_abs boot_abs' (da_cons (dv 0) (da_nil))))
  (dss_cons (ds_set nd (de_callB cd_abs m_abs boot_abs' (da_cons (dv 1) (da_nil))))
  (dss_cons (ds_while PassesOwn.never (dt_cmp od_gt (dvb 1) (DE.bor (de_int))) (dss_one (ds_par rfl nd (da_cons (dv 1) (da_cons (de_op od_mod (dvb 0) (dvb 1)) (da_nil))))))
  (dss_one (ds_ret (dv 0)))))
theorem ok__law_divisor (Z : DefAt K mg "_law_divisor" s__law_divisor ["_law_one", "_law_other"]) (m_abs : mg "abs" = none) {F : FD} (len : ∀ ds Q, F ds Q → ds.length = 2) (pure : ∀ ds Q, F ds Q → rd__law_divisor { nx := fun _ => Q .non, rt := Q } (startD ["_law_one", "_law_other"] ds)) : FnAt P w K mg base "_law_divisor" ["_law_one", "_law_other"] 1 F :=
  Z.ok sc__law_divisor (fun cdv A outer s H E hr => bd__law_divisor m_abs hr) len pure
theorem sc__law_due : FnScope ["_law_share_here", "_law_ring_here", "_law_most", "_law_x", "_law_y", "_law_corners", "_law_at"] ["_law_share_here", "_law_ring_here"] (defScope s__law_due) := ⟨rfl, rfl, rfl, by decide +kernel, rfl, by decide +kernel, by decide +kernel⟩
theorem ndc__law_due_1 : List.Nodup (["_law_x", "_law_y", "_law_most"] : List Str) := by decide +kernel
theorem bd__law_due {f : Addr} {cdv : Value} {A : Around} {outer : List Env} {s : Shared} {H : Hp} {E : XK} {F__law_divisor : FD} (C__law_divisor : FnAt P w K mg base "_law_divisor" ["_law_one", "_law_other"] 1 F__law_divisor) (m_tuple : mg "tuple" = none) (m_min : mg "min" = none) (hr : Room 1 (A.deeper (envOfC "_law_due" (defScope s__law_due) s.heap.objs.size f cdv))) :
    DSs (cxOf CX0 P w K mg base ["_law_share_here", "_law_ring_here", "_law_most", "_law_x", "_law_y", "_law_corners", "_law_at"] "_law_due" (defScope s__law_due) f cdv A outer s H E).nox (defBody s__law_due) (rd__law_due F__law_divisor) :=
  have nd := sc__law_due.nd
  dss_cons (ds_set nd (dv 0))
  (dss_cons (ds_for PassesOwn.never rfl (di_list (dv 1)) (dg_tup rfl (dgs_cons (dg_name nd) (dgs_cons (dg_name nd) (dgs_nil)))) (dss_one (ds_set nd (de_callF C__law_divisor (hr.mono (by decide)) (da_cons (de_callF C__law_divisor (hr.mono (by decide)) (da_cons (dv 2) (da_cons (dv 3) (da_nil)))) (da_cons (dv 4) (da_nil)))))))
  (dss_cons (ds_setC ["_law_x", "_law_y", "_law_most"] 2 [2] nd (di_list (dv 1)) (fun cl C s H fp => dg_tup rfl (dgs_cons (dg_name ndc__law_due_1) (dgs_cons (dg_name ndc__law_due_1) (dgs_nil)))) (fun cl C s H fp => de_tup (da_cons (de_op od_fdiv (dvb 0) (dvb 2)) (da_cons (de_op od_fdiv (dvb 1) (dvb 2)) (da_nil)))))
  (dss_cons (ds_set nd (de_index hr (dvb 5) (de_minT hr m_min rfl (dvb 5))))
  (dss_one (ds_ret (de_tup (da_cons (de_op od_fdiv (dvb 0) (dvb 2)) (da_cons (de_tupOf m_tuple (DE.bor (de_op od_addA (DE.bor (de_slice (dvb 5) (dp_some (dv 6)) (dp_none))) (DE.bor (de_slice (dvb 5) (dp_none) (dp_some (dv 6))))))) (da_nil)))))))))
theorem ok__law_due (Z : DefAt K mg "_law_due" s__law_due ["_law_share_here", "_law_ring_here"]) {F__law_divisor : FD} (C__law_divisor : FnAt P w K mg base "_law_divisor" ["_law_one", "_law_other"] 1 F__law_divisor) (m_tuple : mg "tuple" = none) (m_min : mg "min" = none) {F : FD} (len : ∀ ds Q, F ds Q → ds.length = 2) (pure : ∀ ds Q, F ds Q → rd__law_due F__law_divisor { nx := fun _ => Q .non, rt := Q } (startD ["_law_share_here", "_law_ring_here", "_law_most", "_law_x", "_law_y", "_law_corners", "_law_at"] ds)) : FnAt P w K mg base "_law_due" ["_law_share_here", "_law_ring_here"] 2 F :=
  Z.ok sc__law_due (fun cdv A outer s H E hr => bd__law_due C__law_divisor m_tuple m_min hr) len pure
theorem sc__law_numbers : FnScope ["_law_script", "_law_many", "_law_found", "_law_k", "_law_cell", "_law_at"] ["_law_script", "_law_many"] (defScope s__law_numbers) := ⟨rfl, rfl, rfl, by decide +kernel, rfl, by decide +kernel, by decide +kernel⟩
theorem ndc__law_numbers_1 : List.Nodup (["_law_k"] : List Str) := by decide +kernel
theorem bd__law_numbers {f : Addr} {cdv : Value} {A : Around} {outer : List Env} {s : Shared} {H : Hp} {E : XK} (m_len : mg "len" = none) (m_min : mg "min" = none) (m_max : mg "max" = none) (m_range : mg "range" = none) (hr : Room 0 (A.deeper (envOfC "_law_numbers" (defScope s__law_numbers) s.heap.objs.size f cdv))) :
    DSs (cxOf CX0 P w K mg base ["_law_script", "_law_many", "_law_found", "_law_k", "_law_cell", "_law_at"] "_law_numbers" (defScope s__law_numbers) f cdv A outer s H E).nox (defBody s__law_numbers) (rd__law_numbers) :=
  have nd := sc__law_numbers.nd
  dss_cons (ds_setC ["_law_k"] 1 [] nd (di_range1 m_range (da_cons (dv 1) (da_nil))) (fun cl C s H fp => dg_name ndc__law_numbers_1) (fun cl C s H fp => de_int))
  (dss_cons (ds_for PassesOwn.never rfl (di_range1 m_range (da_cons (de_callB (cd_max2 rfl) m_max boot_max' (da_cons (dv 1) (da_cons (de_callB (cd_min2 rfl) m_min boot_min' (da_cons (de_len m_len (dvb 0)) (da_cons (de_int) (da_nil)))) (da_nil)))) (da_nil))) (dg_name nd) (dss_cons (ds_set nd (de_int))
  (dss_cons (ds_if (dt_cmp od_gt (DE.bor (de_len m_len (dvb 0))) (DE.bor (de_int))) (dss_one (ds_set nd (de_op od_mod (DE.bor (de_ix (dvb 0) (DE.bor (de_op od_mod (dvb 3) (DE.bor (de_callB (cd_min2 rfl) m_min boot_min' (da_cons (de_len m_len (dvb 0)) (da_cons (de_int) (da_nil))))))))) (DE.bor (de_op od_add (DE.bor (de_op od_pow (DE.bor (de_int)) (DE.bor (de_int)))) (DE.bor (de_int))))))) (dss_nil))
  (dss_cons (ds_set nd (de_op od_mod (dvb 3) (dvb 1)))
  (dss_one (ds_setIx 2 (de_op od_mod (DE.bor (de_op od_add (DE.bor (de_op od_add (DE.bor (de_op od_mul (DE.bor (de_ix (dvb 2) (dvb 5))) (DE.bor (de_int)))) (dvb 4))) (DE.bor (de_op od_mul (dvb 3) (dvb 3))))) (DE.bor (de_op od_add (DE.bor (de_op od_pow (DE.bor (de_int)) (DE.bor (de_int)))) (DE.bor (de_int))))) (dv 5)))))))
  (dss_one (ds_fz 2 (ds_ret (dv 2)))))
theorem ok__law_numbers (Z : DefAt K mg "_law_numbers" s__law_numbers ["_law_script", "_law_many"]) (m_len : mg "len" = none) (m_min : mg "min" = none) (m_max : mg "max" = none) (m_range : mg "range" = none) {F : FD} (len : ∀ ds Q, F ds Q → ds.length = 2) (pure : ∀ ds Q, F ds Q → rd__law_numbers { nx := fun _ => Q .non, rt := Q } (startD ["_law_script", "_law_many", "_law_found", "_law_k", "_law_cell", "_law_at"] ds)) : FnAt P w K mg base "_law_numbers" ["_law_script", "_law_many"] 1 F :=
  Z.ok sc__law_numbers (fun cdv A outer s H E hr => bd__law_numbers m_len m_min m_max m_range hr) len pure
theorem sc__law_rises : FnScope ["_law_number", "_law_many", "_law_found", "_law_k"] ["_law_number", "_law_many"] (defScope s__law_rises) := ⟨rfl, rfl, rfl, by decide +kernel, rfl, by decide +kernel, by decide +kernel⟩
theorem bd__law_rises {f : Addr} {cdv : Value} {A : Around} {outer : List Env} {s : Shared} {H : Hp} {E : XK} (m_range : mg "range" = none) (hr : Room 0 (A.deeper (envOfC "_law_rises" (defScope s__law_rises) s.heap.objs.size f cdv))) :
    DSs (cxOf CX0 P w K mg base ["_law_number", "_law_many", "_law_found", "_law_k"] "_law_rises" (defScope s__law_rises) f cdv A outer s H E).nox (defBody s__law_rises) (rd__law_rises) :=
  have nd := sc__law_rises.nd
  dss_cons (ds_setO nd (do_lst (da_cons (de_op od_sub (DE.bor (de_op od_mod (dvb 0) (DE.bor (de_int)))) (DE.bor (de_int))) (da_nil))))
  (dss_cons (ds_for PassesOwn.never rfl (di_range1 m_range (da_cons (de_op od_sub (dvb 1) (DE.bor (de_int))) (da_nil))) (dg_name nd) (dss_one (ds_append 2 (de_op od_add (DE.bor (de_op od_add (DE.bor (de_ix (dvb 2) (DE.bor (de_un ud_neg (DE.bor (de_int)))))) (DE.bor (de_int)))) (DE.bor (de_op od_mod (DE.bor (de_op od_fdiv (dvb 0) (DE.bor (de_op od_add (DE.bor (de_int)) (DE.bor (de_op od_mul (DE.bor (de_int)) (dvb 3))))))) (DE.bor (de_int))))))))
  (dss_one (ds_fz 2 (ds_ret (dv 2)))))
theorem ok__law_rises (Z : DefAt K mg "_law_rises" s__law_rises ["_law_number", "_law_many"]) (m_range : mg "range" = none) {F : FD} (len : ∀ ds Q, F ds Q → ds.length = 2) (pure : ∀ ds Q, F ds Q → rd__law_rises { nx := fun _ => Q .non, rt := Q } (startD ["_law_number", "_law_many", "_law_found", "_law_k"] ds)) : FnAt P w K mg base "_law_rises" ["_law_number", "_law_many"] 1 F :=
  Z.ok sc__law_rises (fun cdv A outer s H E hr => bd__law_rises m_range hr) len pure
theorem sc__law_ring : FnScope ["_law_head", "_law_far", "_law_lows", "_law_highs", "_law_top", "_law_ring_here", "_law_p", "_law_q", "_law_r", "_law_s", "_law_off"] ["_law_head", "_law_far"] (defScope s__law_ring) := ⟨rfl, rfl, rfl, by decide +kernel, rfl, by decide +kernel, by decide +kernel⟩
theorem ndc__law_ring_1 : List.Nodup (["_law_x", "_law_y", "_law_p", "_law_q", "_law_off", "_law_r", "_law_s"] : List Str) := by decide +kernel
theorem ndc__law_ring_2 : List.Nodup (["_law_x"] : List Str) := by decide +kernel
theorem ndc__law_ring_3 : List.Nodup (["_law_x", "_law_top"] : List Str) := by decide +kernel
theorem ndc__law_ring_4 : List.Nodup (["_law_x"] : List Str) := by decide +kernel
theorem bd__law_ring {f : Addr} {cdv : Value} {A : Around} {outer : List Env} {s : Shared} {H : Hp} {E : XK} {F__law_rises : FD} (C__law_rises : FnAt P w K mg base "_law_rises" ["_law_number", "_law_many"] 1 F__law_rises) (m_reversed : mg "reversed" = none) (m_max : mg "max" = none) (hr : Room 1 (A.deeper (envOfC "_law_ring" (defScope s__law_ring) s.heap.objs.size f cdv))) :
    DSs (cxOf CX0 P w K mg base ["_law_head", "_law_far", "_law_lows", "_law_highs", "_law_top", "_law_ring_here", "_law_p", "_law_q", "_law_r", "_law_s", "_law_off"] "_law_ring" (defScope s__law_ring) f cdv A outer s H E).nox (defBody s__law_ring) (rd__law_ring_2 F__law_rises) :=
  have nd := sc__law_ring.nd
  dss_cons (ds_set nd (de_callF C__law_rises (hr.mono (by decide)) (da_cons (de_op od_fdiv (DE.bor (de_ix (dvb 0) (DE.bor (de_int)))) (DE.bor (de_int))) (da_cons (de_op od_add (DE.bor (de_int)) (DE.bor (de_op od_mod (DE.bor (de_ix (dvb 0) (DE.bor (de_int)))) (DE.bor (de_int))))) (da_nil)))))
  (dss_cons (ds_set nd (de_callF C__law_rises (hr.mono (by decide)) (da_cons (de_op od_fdiv (DE.bor (de_ix (dvb 0) (DE.bor (de_int)))) (DE.bor (de_int))) (da_cons (de_op od_add (DE.bor (de_int)) (DE.bor (de_op od_mod (DE.bor (de_ix (dvb 0) (DE.bor (de_int)))) (DE.bor (de_int))))) (da_nil)))))
  (dss_cons (ds_set nd (de_op od_add (DE.bor (de_op od_add (DE.bor (de_op od_mul (DE.bor (de_int)) (DE.bor (de_maxL m_max rfl (DE.bor (DO.val (do_comp ["_law_x"] 1 [] (di_list (de_op od_addA (dvb 2) (dvb 3))) (fun cl C s H fp => dg_name ndc__law_ring_4) (fun cl C s H fp => de_op od_mul (dvb 0) (dvb 0))))))))) (DE.bor (de_int)))) (DE.bor (de_op od_mod (DE.bor (de_ix (dvb 0) (DE.bor (de_int)))) (DE.bor (de_int))))))
  (dss_cons (ds_set nd (de_op od_addA (DE.bor (DO.val (do_comp ["_law_x"] 1 [] (di_list (dv 2)) (fun cl C s H fp => dg_name ndc__law_ring_2) (fun cl C s H fp => de_tup (da_cons (dv 0) (da_cons (de_op od_mul (dvb 0) (dvb 0)) (da_nil))))))) (DE.bor (DO.val (do_comp ["_law_x", "_law_top"] 1 [4] (di_rev m_reversed (dv 3)) (fun cl C s H fp => dg_name ndc__law_ring_3) (fun cl C s H fp => de_tup (da_cons (dv 0) (da_cons (de_op od_sub (dvb 1) (DE.bor (de_op od_mul (dvb 0) (dvb 0)))) (da_nil)))))))))
  (dss_cons (ds_set nd (de_op od_add (DE.bor (de_int)) (DE.bor (de_op od_mod (DE.bor (de_ix (dvb 0) (DE.bor (de_int)))) (DE.bor (de_int))))))
  (dss_cons (ds_set nd (de_op od_sub (DE.bor (de_op od_mod (DE.bor (de_op od_fdiv (DE.bor (de_ix (dvb 0) (DE.bor (de_int)))) (DE.bor (de_int)))) (DE.bor (de_int)))) (DE.bor (de_int))))
  (dss_cons (ds_set nd (de_op od_sub (DE.bor (de_op od_mod (DE.bor (de_ix (dvb 0) (DE.bor (de_int)))) (DE.bor (de_int)))) (DE.bor (de_int))))
  (dss_cons (ds_set nd (de_op od_add (DE.bor (de_op od_add (DE.bor (de_op od_fdiv (DE.bor (de_op od_mul (dvb 7) (dvb 8))) (dvb 6))) (DE.bor (de_int)))) (DE.bor (de_op od_mod (DE.bor (de_op od_fdiv (DE.bor (de_ix (dvb 0) (DE.bor (de_int)))) (DE.bor (de_int)))) (DE.bor (de_int))))))
  (dss_cons (ds_set nd (de_tup (da_cons (de_op od_sub (DE.bor (de_op od_mod (DE.bor (de_ix (dvb 0) (DE.bor (de_int)))) (DE.bor (de_op od_add (DE.bor (de_op od_mul (DE.bor (de_int)) (dvb 1))) (DE.bor (de_int)))))) (dvb 1)) (da_cons (de_op od_sub (DE.bor (de_op od_mod (DE.bor (de_ix (dvb 0) (DE.bor (de_int)))) (DE.bor (de_op od_add (DE.bor (de_op od_mul (DE.bor (de_int)) (dvb 1))) (DE.bor (de_int)))))) (dvb 1)) (da_nil)))))
  (dss_one (ds_ret (DO.val (do_comp ["_law_x", "_law_y", "_law_p", "_law_q", "_law_off", "_law_r", "_law_s"] 2 [6, 7, 10, 8, 9] (di_list (dv 5)) (fun cl C s H fp => dg_tup rfl (dgs_cons (dg_name ndc__law_ring_1) (dgs_cons (dg_name ndc__law_ring_1) (dgs_nil)))) (fun cl C s H fp => de_tup (da_cons (de_op od_add (DE.bor (de_op od_add (DE.bor (de_op od_mul (dvb 2) (dvb 0))) (DE.bor (de_op od_mul (dvb 3) (dvb 1))))) (DE.bor (de_ix (dvb 4) (DE.bor (de_int))))) (da_cons (de_op od_add (DE.bor (de_op od_add (DE.bor (de_op od_mul (dvb 5) (dvb 0))) (DE.bor (de_op od_mul (dvb 6) (dvb 1))))) (DE.bor (de_ix (dvb 4) (DE.bor (de_int))))) (da_nil))))))))))))))))
theorem ok__law_ring (Z : DefAt K mg "_law_ring" s__law_ring ["_law_head", "_law_far"]) {F__law_rises : FD} (C__law_rises : FnAt P w K mg base "_law_rises" ["_law_number", "_law_many"] 1 F__law_rises) (m_reversed : mg "reversed" = none) (m_max : mg "max" = none) {F : FD} (len : ∀ ds Q, F ds Q → ds.length = 2) (pure : ∀ ds Q, F ds Q → rd__law_ring_2 F__law_rises { nx := fun _ => Q .non, rt := Q } (startD ["_law_head", "_law_far", "_law_lows", "_law_highs", "_law_top", "_law_ring_here", "_law_p", "_law_q", "_law_r", "_law_s", "_law_off"] ds)) : FnAt P w K mg base "_law_ring" ["_law_head", "_law_far"] 2 F :=
  Z.ok sc__law_ring (fun cdv A outer s H E hr => bd__law_ring C__law_rises m_reversed m_max hr) len pure
theorem sc__law_whole : FnScope ["_law_found"] ["_law_found"] (defScope s__law_whole) := ⟨rfl, rfl, rfl, by decide +kernel, rfl, by decide +kernel, by decide +kernel⟩
theorem bd__law_whole {f : Addr} {cdv : Value} {A : Around} {outer : List Env} {s : Shared} {H : Hp} {E : XK} (m_isinstance : mg "isinstance" = none) (m_bool : mg "bool" = none) (m_int : mg "int" = none) (hr : Room 0 (A.deeper (envOfC "_law_whole" (defScope s__law_whole) s.heap.objs.size f cdv))) :
    DSs (cxOf CX0 P w K mg base ["_law_found"] "_law_whole" (defScope s__law_whole) f cdv A outer s H E).nox (defBody s__law_whole) (rd__law_whole) :=
  have nd := sc__law_whole.nd
  dss_one (ds_ret (de_and (de_isi (tab_int _) m_isinstance m_int boot_int' (dv 0)) (de_one (de_not (de_isi (tab_bool _) m_isinstance m_bool boot_bool' (dv 0))))))
theorem ok__law_whole (Z : DefAt K mg "_law_whole" s__law_whole ["_law_found"]) (m_isinstance : mg "isinstance" = none) (m_bool : mg "bool" = none) (m_int : mg "int" = none) {F : FD} (len : ∀ ds Q, F ds Q → ds.length = 1) (pure : ∀ ds Q, F ds Q → rd__law_whole { nx := fun _ => Q .non, rt := Q } (startD ["_law_found"] ds)) : FnAt P w K mg base "_law_whole" ["_law_found"] 1 F :=
  Z.ok sc__law_whole (fun cdv A outer s H E hr => bd__law_whole m_isinstance m_bool m_int hr) len pure
theorem sc__law_same : FnScope ["_law_found", "_law_due_here", "_law_corner"] ["_law_found", "_law_due_here"] (defScope s__law_same) := ⟨rfl, rfl, rfl, by decide +kernel, rfl, by decide +kernel, by decide +kernel⟩
theorem bd__law_same {f : Addr} {cdv : Value} {A : Around} {outer : List Env} {s : Shared} {H : Hp} {E : XK} {F__law_whole : FD} (C__law_whole : FnAt P w K mg base "_law_whole" ["_law_found"] 1 F__law_whole) (m_isinstance : mg "isinstance" = none) (m_tuple : mg "tuple" = none) (hr : Room 1 (A.deeper (envOfC "_law_same" (defScope s__law_same) s.heap.objs.size f cdv))) :
    DSs (cxOf CX0 P w K mg base ["_law_found", "_law_due_here", "_law_corner"] "_law_same" (defScope s__law_same) f cdv A outer s H E).nox (defBody s__law_same) (rd__law_same_2 F__law_whole) :=
  have nd := sc__law_same.nd
  dss_cons (ds_if (DW.tst (dw_or (dt_not (dt_val (de_isi (tab_tuple _) m_isinstance m_tuple boot_tuple' (dv 0)))) (dw_or (dt_cmp (od_ne hr) (dvb 0) (dvb 1)) (dw_or (dt_not (dt_val (de_callF C__law_whole (hr.mono (by decide)) (da_cons (de_ix (dvb 0) (DE.bor (de_int))) (da_nil))))) (dw_or1 (dt_not (dt_val (de_isi (tab_tuple _) m_isinstance m_tuple boot_tuple' (de_ix (dvb 0) (DE.bor (de_int))))))))))) (dss_one (ds_ret (de_bl))) (dss_nil))
  (dss_cons (ds_for PassesOwn.never rfl (di_tup (de_ix (dvb 0) (DE.bor (de_int)))) (dg_name nd) (dss_one (ds_if (DW.tst (dw_or (dt_not (dt_val (de_isi (tab_tuple _) m_isinstance m_tuple boot_tuple' (dv 2)))) (dw_or (dt_not (dt_val (de_callF C__law_whole (hr.mono (by decide)) (da_cons (de_ix (dvb 2) (DE.bor (de_int))) (da_nil))))) (dw_or1 (dt_not (dt_val (de_callF C__law_whole (hr.mono (by decide)) (da_cons (de_ix (dvb 2) (DE.bor (de_int))) (da_nil))))))))) (dss_one (ds_ret (de_bl))) (dss_nil))))
  (dss_one (ds_ret (de_bl))))
theorem ok__law_same (Z : DefAt K mg "_law_same" s__law_same ["_law_found", "_law_due_here"]) {F__law_whole : FD} (C__law_whole : FnAt P w K mg base "_law_whole" ["_law_found"] 1 F__law_whole) (m_isinstance : mg "isinstance" = none) (m_tuple : mg "tuple" = none) {F : FD} (len : ∀ ds Q, F ds Q → ds.length = 2) (pure : ∀ ds Q, F ds Q → rd__law_same_2 F__law_whole { nx := fun _ => Q .non, rt := Q } (startD ["_law_found", "_law_due_here", "_law_corner"] ds)) : FnAt P w K mg base "_law_same" ["_law_found", "_law_due_here"] 2 F :=
  Z.ok sc__law_same (fun cdv A outer s H E hr => bd__law_same C__law_whole m_isinstance m_tuple hr) len pure
theorem sc__law_share : FnScope ["_law_number"] ["_law_number"] (defScope s__law_share) := ⟨rfl, rfl, rfl, by decide +kernel, rfl, by decide +kernel, by decide +kernel⟩
theorem bd__law_share {f : Addr} {cdv : Value} {A : Around} {outer : List Env} {s : Shared} {H : Hp} {E : XK} (hr : Room 0 (A.deeper (envOfC "_law_share" (defScope s__law_share) s.heap.objs.size f cdv))) :
    DSs (cxOf CX0 P w K mg base ["_law_number"] "_law_share" (defScope s__law_share) f cdv A outer s H E).nox (defBody s__law_share) (rd__law_share_2) :=
  have nd := sc__law_share.nd
  dss_one (ds_ret (de_ix (DE.bor (DO.val (do_lst (da_cons (de_int) (da_cons (de_op od_add (DE.bor (de_int)) (DE.bor (de_op od_mod (DE.bor (de_op od_fdiv (dvb 0) (DE.bor (de_int)))) (DE.bor (de_int))))) (da_cons (de_op od_add (DE.bor (de_int)) (DE.bor (de_op od_mod (DE.bor (de_op od_fdiv (dvb 0) (DE.bor (de_int)))) (DE.bor (de_op od_pow (DE.bor (de_int)) (DE.bor (de_int))))))) (da_nil))))))) (DE.bor (de_op od_mod (dvb 0) (DE.bor (de_int))))))
theorem ok__law_share (Z : DefAt K mg "_law_share" s__law_share ["_law_number"]) {F : FD} (len : ∀ ds Q, F ds Q → ds.length = 1) (pure : ∀ ds Q, F ds Q → rd__law_share_2 { nx := fun _ => Q .non, rt := Q } (startD ["_law_number"] ds)) : FnAt P w K mg base "_law_share" ["_law_number"] 1 F :=
  Z.ok sc__law_share (fun cdv A outer s H E hr => bd__law_share hr) len pure
theorem sc__law_fraction : FnScope ["_law_top", "_law_bottom", "_law_most"] ["_law_top", "_law_bottom"] (defScope s__law_fraction) := ⟨rfl, rfl, rfl, by decide +kernel, rfl, by decide +kernel, by decide +kernel⟩
theorem bd__law_fraction {f : Addr} {cdv : Value} {A : Around} {outer : List Env} {s : Shared} {H : Hp} {E : XK} {F__law_divisor : FD} (C__law_divisor : FnAt P w K mg base "_law_divisor" ["_law_one", "_law_other"] 1 F__law_divisor) (hr : Room 1 (A.deeper (envOfC "_law_fraction" (defScope s__law_fraction) s.heap.objs.size f cdv))) :
    DSs (cxOf CX0 P w K mg base ["_law_top", "_law_bottom", "_law_most"] "_law_fraction" (defScope s__law_fraction) f cdv A outer s H E).nox (defBody s__law_fraction) (rd__law_fraction F__law_divisor) :=
  have nd := sc__law_fraction.nd
  dss_cons (ds_set nd (de_callF C__law_divisor (hr.mono (by decide)) (da_cons (dv 0) (da_cons (dv 1) (da_nil)))))
  (dss_one (ds_ret (de_tup (da_cons (de_op od_fdiv (dvb 0) (dvb 2)) (da_cons (de_op od_fdiv (dvb 1) (dvb 2)) (da_nil))))))
theorem ok__law_fraction (Z : DefAt K mg "_law_fraction" s__law_fraction ["_law_top", "_law_bottom"]) {F__law_divisor : FD} (C__law_divisor : FnAt P w K mg base "_law_divisor" ["_law_one", "_law_other"] 1 F__law_divisor) {F : FD} (len : ∀ ds Q, F ds Q → ds.length = 2) (pure : ∀ ds Q, F ds Q → rd__law_fraction F__law_divisor { nx := fun _ => Q .non, rt := Q } (startD ["_law_top", "_law_bottom", "_law_most"] ds)) : FnAt P w K mg base "_law_fraction" ["_law_top", "_law_bottom"] 2 F :=
  Z.ok sc__law_fraction (fun cdv A outer s H E hr => bd__law_fraction C__law_divisor hr) len pure
theorem sc__law_way : FnScope ["_law_number", "_law_top"] ["_law_number"] (defScope s__law_way) := ⟨rfl, rfl, rfl, by decide +kernel, rfl, by decide +kernel, by decide +kernel⟩
theorem bd__law_way {f : Addr} {cdv : Value} {A : Around} {outer : List Env} {s : Shared} {H : Hp} {E : XK} {F__law_fraction : FD} (C__law_fraction : FnAt P w K mg base "_law_fraction" ["_law_top", "_law_bottom"] 2 F__law_fraction) {F__law_share : FD} (C__law_share : FnAt P w K mg base "_law_share" ["_law_number"] 1 F__law_share) (hr : Room 2 (A.deeper (envOfC "_law_way" (defScope s__law_way) s.heap.objs.size f cdv))) :
    DSs (cxOf CX0 P w K mg base ["_law_number", "_law_top"] "_law_way" (defScope s__law_way) f cdv A outer s H E).nox (defBody s__law_way) (rd__law_way F__law_fraction F__law_share) :=
  have nd := sc__law_way.nd
  dss_cons (ds_set nd (de_op od_sub (DE.bor (de_op od_mod (dvb 0) (DE.bor (de_op od_add (DE.bor (de_op od_mul (DE.bor (de_int)) (DE.bor (de_op od_pow (DE.bor (de_int)) (DE.bor (de_int)))))) (DE.bor (de_int)))))) (DE.bor (de_op od_pow (DE.bor (de_int)) (DE.bor (de_int))))))
  (dss_cons (ds_if (dt_cmp od_eqS (DE.bor (de_op od_mod (DE.bor (de_op od_fdiv (dvb 0) (DE.bor (de_int)))) (DE.bor (de_int)))) (DE.bor (de_int))) (dss_one (ds_set nd (de_op od_sub (DE.bor (de_op od_mod (DE.bor (de_op od_mod (DE.bor (de_op od_mul (dvb 0) (DE.bor (de_int)))) (DE.bor (de_int)))) (DE.bor (de_int)))) (DE.bor (de_int))))) (dss_nil))
  (dss_one (ds_ret (de_callF C__law_fraction (hr.mono (by decide)) (da_cons (dv 1) (da_cons (de_callF C__law_share (hr.mono (by decide)) (da_cons (de_op od_mod (DE.bor (de_op od_mul (dvb 0) (DE.bor (de_int)))) (DE.bor (de_int))) (da_nil))) (da_nil)))))))
theorem ok__law_way (Z : DefAt K mg "_law_way" s__law_way ["_law_number"]) {F__law_fraction : FD} (C__law_fraction : FnAt P w K mg base "_law_fraction" ["_law_top", "_law_bottom"] 2 F__law_fraction) {F__law_share : FD} (C__law_share : FnAt P w K mg base "_law_share" ["_law_number"] 1 F__law_share) {F : FD} (len : ∀ ds Q, F ds Q → ds.length = 1) (pure : ∀ ds Q, F ds Q → rd__law_way F__law_fraction F__law_share { nx := fun _ => Q .non, rt := Q } (startD ["_law_number", "_law_top"] ds)) : FnAt P w K mg base "_law_way" ["_law_number"] 3 F :=
  Z.ok sc__law_way (fun cdv A outer s H E hr => bd__law_way C__law_fraction C__law_share hr) len pure
theorem sc_turn : FnScope ["one", "middle", "other", "along", "across"] ["one", "middle", "other"] (defScope s_turn) := ⟨rfl, rfl, rfl, by decide +kernel, rfl, by decide +kernel, by decide +kernel⟩
theorem bd_turn {f : Addr} {cdv : Value} {A : Around} {outer : List Env} {s : Shared} {H : Hp} {E : XK} (hr : Room 0 (A.deeper (envOfC "turn" (defScope s_turn) s.heap.objs.size f cdv))) :
    DSs (cxOf CX0 P w K mg base ["one", "middle", "other", "along", "across"] "turn" (defScope s_turn) f cdv A outer s H E).nox (defBody s_turn) (rd_turn) :=
  have nd := sc_turn.nd
  dss_cons (ds_set nd (de_op od_mul (DE.bor (de_op od_sub (DE.bor (de_ix (dvb 1) (DE.bor (de_int)))) (DE.bor (de_ix (dvb 0) (DE.bor (de_int)))))) (DE.bor (de_op od_sub (DE.bor (de_ix (dvb 2) (DE.bor (de_int)))) (DE.bor (de_ix (dvb 0) (DE.bor (de_int))))))))
  (dss_cons (ds_set nd (de_op od_mul (DE.bor (de_op od_sub (DE.bor (de_ix (dvb 1) (DE.bor (de_int)))) (DE.bor (de_ix (dvb 0) (DE.bor (de_int)))))) (DE.bor (de_op od_sub (DE.bor (de_ix (dvb 2) (DE.bor (de_int)))) (DE.bor (de_ix (dvb 0) (DE.bor (de_int))))))))
  (dss_one (ds_ret (de_op od_sub (dvb 3) (dvb 4)))))
theorem ok_turn (Z : DefAt K mg "turn" s_turn ["one", "middle", "other"]) {F : FD} (len : ∀ ds Q, F ds Q → ds.length = 3) (pure : ∀ ds Q, F ds Q → rd_turn { nx := fun _ => Q .non, rt := Q } (startD ["one", "middle", "other", "along", "across"] ds)) : FnAt P w K mg base "turn" ["one", "middle", "other"] 1 F :=
  Z.ok sc_turn (fun cdv A outer s H E hr => bd_turn hr) len pure
theorem sc_half_round : FnScope ["points", "chain", "point"] ["points"] (defScope s_half_round) := ⟨rfl, rfl, rfl, by decide +kernel, rfl, by decide +kernel, by decide +kernel⟩
theorem bd_half_round {f : Addr} {cdv : Value} {A : Around} {outer : List Env} {s : Shared} {H : Hp} {E : XK} {F_turn : FD} (C_turn : FnAt P w K mg base "turn" ["one", "middle", "other"] 1 F_turn) (m_len : mg "len" = none) (hr : Room 1 (A.deeper (envOfC "half_round" (defScope s_half_round) s.heap.objs.size f cdv))) :
    DSs (cxOf CX0 P w K mg base ["points", "chain", "point"] "half_round" (defScope s_half_round) f cdv A outer s H E).nox (defBody s_half_round) (rd_half_round F_turn) :=
  have nd := sc_half_round.nd
  dss_cons (ds_setO nd (do_lst (da_nil)))
  (dss_cons (ds_for PassesOwn.never rfl (di_list (dv 0)) (dg_name nd) (dss_cons (ds_while PassesOwn.never (DW.tst (dw_and (dt_cmp od_gt (DE.bor (de_len m_len (dvb 1))) (DE.bor (de_int))) (dw_and1 (dt_cmp od_le (DE.bor (de_callF C_turn (hr.mono (by decide)) (da_cons (de_ix (dvb 1) (DE.bor (de_un ud_neg (DE.bor (de_int))))) (da_cons (de_ix (dvb 1) (DE.bor (de_un ud_neg (DE.bor (de_int))))) (da_cons (dv 2) (da_nil)))))) (DE.bor (de_int)))))) (dss_one (ds_pop 1)))
  (dss_one (ds_append 1 (dv 2)))))
  (dss_one (ds_ret (de_slice (dvb 1) (dp_none) (dp_some (de_un ud_neg (DE.bor (de_int))))))))
theorem ok_half_round (Z : DefAt K mg "half_round" s_half_round ["points"]) {F_turn : FD} (C_turn : FnAt P w K mg base "turn" ["one", "middle", "other"] 1 F_turn) (m_len : mg "len" = none) {F : FD} (len : ∀ ds Q, F ds Q → ds.length = 1) (pure : ∀ ds Q, F ds Q → rd_half_round F_turn { nx := fun _ => Q .non, rt := Q } (startD ["points", "chain", "point"] ds)) : FnAt P w K mg base "half_round" ["points"] 2 F :=
  Z.ok sc_half_round (fun cdv A outer s H E hr => bd_half_round C_turn m_len hr) len pure
theorem sc_outline : FnScope ["points", "rising"] ["points"] (defScope s_outline) := ⟨rfl, rfl, rfl, by decide +kernel, rfl, by decide +kernel, by decide +kernel⟩
theorem bd_outline {f : Addr} {cdv : Value} {A : Around} {outer : List Env} {s : Shared} {H : Hp} {E : XK} {F_half_round : FD} (C_half_round : FnAt P w K mg base "half_round" ["points"] 2 F_half_round) (m_list : mg "list" = none) (m_reversed : mg "reversed" = none) (m_sorted : mg "sorted" = none) (m_set : mg "set" = none) (hr : Room 2 (A.deeper (envOfC "outline" (defScope s_outline) s.heap.objs.size f cdv))) :
    DSs (cxOf CX0 P w K mg base ["points", "rising"] "outline" (defScope s_outline) f cdv A outer s H E).nox (defBody s_outline) (rd_outline F_half_round) :=
  have nd := sc_outline.nd
  dss_cons (ds_set nd (DO.val (do_sortSet hr m_sorted m_set rfl (dvb 0))))
  (dss_one (ds_ret (de_op od_addA (DE.bor (de_callF C_half_round (hr.mono (by decide)) (da_cons (dv 1) (da_nil)))) (DE.bor (de_callF C_half_round (hr.mono (by decide)) (da_cons (DO.val (do_listRev m_list m_reversed rfl (dvb 1))) (da_nil)))))))
theorem ok_outline (Z : DefAt K mg "outline" s_outline ["points"]) {F_half_round : FD} (C_half_round : FnAt P w K mg base "half_round" ["points"] 2 F_half_round) (m_list : mg "list" = none) (m_reversed : mg "reversed" = none) (m_sorted : mg "sorted" = none) (m_set : mg "set" = none) {F : FD} (len : ∀ ds Q, F ds Q → ds.length = 1) (pure : ∀ ds Q, F ds Q → rd_outline F_half_round { nx := fun _ => Q .non, rt := Q } (startD ["points", "rising"] ds)) : FnAt P w K mg base "outline" ["points"] 3 F :=
  Z.ok sc_outline (fun cdv A outer s H E hr => bd_outline C_half_round m_list m_reversed m_sorted m_set hr) len pure
theorem sc_shared_divisor : FnScope ["one", "other", "larger", "smaller", "rest"] ["one", "other"] (defScope s_shared_divisor) := ⟨rfl, rfl, rfl, by decide +kernel, rfl, by decide +kernel, by decide +kernel⟩
theorem bd_shared_divisor {f : Addr} {cdv : Value} {A : Around} {outer : List Env} {s : Shared} {H : Hp} {E : XK} (m_abs : mg "abs" = none) (hr : Room 0 (A.deeper (envOfC "shared_divisor" (defScope s_shared_divisor) s.heap.objs.size f cdv))) :
    DSs (cxOf CX0 P w K mg base ["one", "other", "larger", "smaller", "rest"] "shared_divisor" (defScope s_shared_divisor) f cdv A outer s H E).nox (defBody s_shared_divisor) (rd_shared_divisor) :=
  have nd := sc_shared_divisor.nd
  dss_cons (ds_set nd (de_callB cd_abs m_abs boot_abs' (da_cons (dv 0) (da_nil))))
  (dss_cons (ds_set nd (de_callB cd_abs m_abs boot_abs' (da_cons (dv 1) (da_nil))))
  (dss_cons (ds_while PassesOwn.never (dt_cmp od_neS (dvb 3) (DE.bor (de_int))) (dss_cons (ds_set nd (de_op od_mod (dvb 2) (dvb 3)))
  (dss_cons (ds_set nd (dv 3))
  (dss_one (ds_set nd (dv 4))))))
  (dss_one (ds_ret (dv 2)))))
theorem ok_shared_divisor (Z : DefAt K mg "shared_divisor" s_shared_divisor ["one", "other"]) (m_abs : mg "abs" = none) {F : FD} (len : ∀ ds Q, F ds Q → ds.length = 2) (pure : ∀ ds Q, F ds Q → rd_shared_divisor { nx := fun _ => Q .non, rt := Q } (startD ["one", "other", "larger", "smaller", "rest"] ds)) : FnAt P w K mg base "shared_divisor" ["one", "other"] 1 F :=
  Z.ok sc_shared_divisor (fun cdv A outer s H E hr => bd_shared_divisor m_abs hr) len pure
theorem sc_settled : FnScope ["share", "points", "corners", "divisor", "x", "y"] ["share", "points"] (defScope s_settled) := ⟨rfl, rfl, rfl, by decide +kernel, rfl, by decide +kernel, by decide +kernel⟩
theorem ndc_settled_1 : List.Nodup (["x", "y", "divisor"] : List Str) := by decide +kernel
theorem bd_settled {f : Addr} {cdv : Value} {A : Around} {outer : List Env} {s : Shared} {H : Hp} {E : XK} {F_outline : FD} (C_outline : FnAt P w K mg base "outline" ["points"] 3 F_outline) {F_shared_divisor : FD} (C_shared_divisor : FnAt P w K mg base "shared_divisor" ["one", "other"] 1 F_shared_divisor) (m_tuple : mg "tuple" = none) (m_len : mg "len" = none) (hr : Room 3 (A.deeper (envOfC "settled" (defScope s_settled) s.heap.objs.size f cdv))) :
    DSs (cxOf CX0 P w K mg base ["share", "points", "corners", "divisor", "x", "y"] "settled" (defScope s_settled) f cdv A outer s H E).nox (defBody s_settled) (rd_settled F_outline F_shared_divisor) :=
  have nd := sc_settled.nd
  dss_cons (ds_set nd (de_callF C_outline (hr.mono (by decide)) (da_cons (dv 1) (da_nil))))
  (dss_cons (ds_if (dt_cmp od_lt (DE.bor (de_len m_len (dvb 2))) (DE.bor (de_int))) (dss_one (ds_ret (de_non))) (dss_nil))
  (dss_cons (ds_set nd (dv 0))
  (dss_cons (ds_for PassesOwn.never rfl (di_list (dv 2)) (dg_tup rfl (dgs_cons (dg_name nd) (dgs_cons (dg_name nd) (dgs_nil)))) (dss_one (ds_set nd (de_callF C_shared_divisor (hr.mono (by decide)) (da_cons (de_callF C_shared_divisor (hr.mono (by decide)) (da_cons (dv 3) (da_cons (dv 4) (da_nil)))) (da_cons (dv 5) (da_nil)))))))
  (dss_one (ds_ret (de_tup (da_cons (de_op od_fdiv (dvb 0) (dvb 3)) (da_cons (de_tupOf m_tuple (DE.bor (DO.val (do_comp ["x", "y", "divisor"] 2 [3] (di_list (dv 2)) (fun cl C s H fp => dg_tup rfl (dgs_cons (dg_name ndc_settled_1) (dgs_cons (dg_name ndc_settled_1) (dgs_nil)))) (fun cl C s H fp => de_tup (da_cons (de_op od_fdiv (dvb 0) (dvb 2)) (da_cons (de_op od_fdiv (dvb 1) (dvb 2)) (da_nil)))))))) (da_nil)))))))))
theorem ok_settled (Z : DefAt K mg "settled" s_settled ["share", "points"]) {F_outline : FD} (C_outline : FnAt P w K mg base "outline" ["points"] 3 F_outline) {F_shared_divisor : FD} (C_shared_divisor : FnAt P w K mg base "shared_divisor" ["one", "other"] 1 F_shared_divisor) (m_tuple : mg "tuple" = none) (m_len : mg "len" = none) {F : FD} (len : ∀ ds Q, F ds Q → ds.length = 2) (pure : ∀ ds Q, F ds Q → rd_settled F_outline F_shared_divisor { nx := fun _ => Q .non, rt := Q } (startD ["share", "points", "corners", "divisor", "x", "y"] ds)) : FnAt P w K mg base "settled" ["share", "points"] 4 F :=
  Z.ok sc_settled (fun cdv A outer s H E hr => bd_settled C_outline C_shared_divisor m_tuple m_len hr) len pure
theorem sc_shared_multiple : FnScope ["one", "other"] ["one", "other"] (defScope s_shared_multiple) := ⟨rfl, rfl, rfl, by decide +kernel, rfl, by decide +kernel, by decide +kernel⟩
theorem bd_shared_multiple {f : Addr} {cdv : Value} {A : Around} {outer : List Env} {s : Shared} {H : Hp} {E : XK} {F_shared_divisor : FD} (C_shared_divisor : FnAt P w K mg base "shared_divisor" ["one", "other"] 1 F_shared_divisor) (hr : Room 1 (A.deeper (envOfC "shared_multiple" (defScope s_shared_multiple) s.heap.objs.size f cdv))) :
    DSs (cxOf CX0 P w K mg base ["one", "other"] "shared_multiple" (defScope s_shared_multiple) f cdv A outer s H E).nox (defBody s_shared_multiple) (rd_shared_multiple F_shared_divisor) :=
  have nd := sc_shared_multiple.nd
  dss_one (ds_ret (de_op od_mul (dvb 0) (DE.bor (de_op od_fdiv (dvb 1) (DE.bor (de_callF C_shared_divisor (hr.mono (by decide)) (da_cons (dv 0) (da_cons (dv 1) (da_nil)))))))))
theorem ok_shared_multiple (Z : DefAt K mg "shared_multiple" s_shared_multiple ["one", "other"]) {F_shared_divisor : FD} (C_shared_divisor : FnAt P w K mg base "shared_divisor" ["one", "other"] 1 F_shared_divisor) {F : FD} (len : ∀ ds Q, F ds Q → ds.length = 2) (pure : ∀ ds Q, F ds Q → rd_shared_multiple F_shared_divisor { nx := fun _ => Q .non, rt := Q } (startD ["one", "other"] ds)) : FnAt P w K mg base "shared_multiple" ["one", "other"] 2 F :=
  Z.ok sc_shared_multiple (fun cdv A outer s H E hr => bd_shared_multiple C_shared_divisor hr) len pure
theorem sc_pushed : FnScope ["piece", "move", "dx", "dy", "share", "scale", "right", "up"] ["piece", "move"] (defScope s_pushed) := ⟨rfl, rfl, rfl, by decide +kernel, rfl, by decide +kernel, by decide +kernel⟩
theorem ndc_pushed_1 : List.Nodup (["x", "y", "scale", "right", "up"] : List Str) := by decide +kernel
theorem bd_pushed {f : Addr} {cdv : Value} {A : Around} {outer : List Env} {s : Shared} {H : Hp} {E : XK} {F_settled : FD} (C_settled : FnAt P w K mg base "settled" ["share", "points"] 4 F_settled) {F_shared_multiple : FD} (C_shared_multiple : FnAt P w K mg base "shared_multiple" ["one", "other"] 2 F_shared_multiple) (hr : Room 4 (A.deeper (envOfC "pushed" (defScope s_pushed) s.heap.objs.size f cdv))) :
    DSs (cxOf CX0 P w K mg base ["piece", "move", "dx", "dy", "share", "scale", "right", "up"] "pushed" (defScope s_pushed) f cdv A outer s H E).nox (defBody s_pushed) (rd_pushed F_settled F_shared_multiple) :=
  have nd := sc_pushed.nd
  dss_cons (ds_set nd (de_ix (dvb 1) (DE.bor (de_int))))
  (dss_cons (ds_set nd (de_ix (dvb 1) (DE.bor (de_int))))
  (dss_cons (ds_set nd (de_callF C_shared_multiple (hr.mono (by decide)) (da_cons (de_callF C_shared_multiple (hr.mono (by decide)) (da_cons (de_ix (dvb 0) (DE.bor (de_int))) (da_cons (de_ix (dvb 2) (DE.bor (de_int))) (da_nil)))) (da_cons (de_ix (dvb 3) (DE.bor (de_int))) (da_nil)))))
  (dss_cons (ds_set nd (de_op od_mul (DE.bor (de_ix (dvb 1) (DE.bor (de_int)))) (DE.bor (de_op od_fdiv (dvb 4) (DE.bor (de_ix (dvb 0) (DE.bor (de_int))))))))
  (dss_cons (ds_set nd (de_op od_mul (DE.bor (de_ix (dvb 2) (DE.bor (de_int)))) (DE.bor (de_op od_fdiv (dvb 4) (DE.bor (de_ix (dvb 2) (DE.bor (de_int))))))))
  (dss_cons (ds_set nd (de_op od_mul (DE.bor (de_ix (dvb 3) (DE.bor (de_int)))) (DE.bor (de_op od_fdiv (dvb 4) (DE.bor (de_ix (dvb 3) (DE.bor (de_int))))))))
  (dss_one (ds_ret (de_callF C_settled (hr.mono (by decide)) (da_cons (dv 4) (da_cons (DO.val (do_comp ["x", "y", "scale", "right", "up"] 2 [5, 6, 7] (di_tup (de_ix (dvb 0) (DE.bor (de_int)))) (fun cl C s H fp => dg_tup rfl (dgs_cons (dg_name ndc_pushed_1) (dgs_cons (dg_name ndc_pushed_1) (dgs_nil)))) (fun cl C s H fp => de_tup (da_cons (de_op od_add (DE.bor (de_op od_mul (dvb 2) (dvb 0))) (dvb 3)) (da_cons (de_op od_add (DE.bor (de_op od_mul (dvb 2) (dvb 1))) (dvb 4)) (da_nil)))))) (da_nil)))))))))))
theorem ok_pushed (Z : DefAt K mg "pushed" s_pushed ["piece", "move"]) {F_settled : FD} (C_settled : FnAt P w K mg base "settled" ["share", "points"] 4 F_settled) {F_shared_multiple : FD} (C_shared_multiple : FnAt P w K mg base "shared_multiple" ["one", "other"] 2 F_shared_multiple) {F : FD} (len : ∀ ds Q, F ds Q → ds.length = 2) (pure : ∀ ds Q, F ds Q → rd_pushed F_settled F_shared_multiple { nx := fun _ => Q .non, rt := Q } (startD ["piece", "move", "dx", "dy", "share", "scale", "right", "up"] ds)) : FnAt P w K mg base "pushed" ["piece", "move"] 5 F :=
  Z.ok sc_pushed (fun cdv A outer s H E hr => bd_pushed C_settled C_shared_multiple hr) len pure
theorem sc_law : FnScope ["_law_script", "_law_head", "_law_ring_here", "_law_share_here", "_law_sign", "_law_dx", "_law_dy", "_law_by", "_law_there", "_law_x", "_law_y", "_law_piece", "_law_found"] ["_law_script"] (defScope s_law) := ⟨rfl, rfl, rfl, by decide +kernel, rfl, by decide +kernel, by decide +kernel⟩
theorem bd_law {f : Addr} {cdv : Value} {A : Around} {outer : List Env} {s : Shared} {H : Hp} {E : XK} {F__law_due : FD} (C__law_due : FnAt P w K mg base "_law_due" ["_law_share_here", "_law_ring_here"] 2 F__law_due) {F__law_numbers : FD} (C__law_numbers : FnAt P w K mg base "_law_numbers" ["_law_script", "_law_many"] 1 F__law_numbers) {F__law_ring : FD} (C__law_ring : FnAt P w K mg base "_law_ring" ["_law_head", "_law_far"] 2 F__law_ring) {F__law_same : FD} (C__law_same : FnAt P w K mg base "_law_same" ["_law_found", "_law_due_here"] 2 F__law_same) {F__law_share : FD} (C__law_share : FnAt P w K mg base "_law_share" ["_law_number"] 1 F__law_share) {F__law_way : FD} (C__law_way : FnAt P w K mg base "_law_way" ["_law_number"] 3 F__law_way) {F_pushed : FD} (C_pushed : FnAt P w K mg base "pushed" ["piece", "move"] 5 F_pushed) (hr : Room 5 (A.deeper (envOfC "law" (defScope s_law) s.heap.objs.size f cdv))) :
    DSs (cxOf CX0 P w K mg base ["_law_script", "_law_head", "_law_ring_here", "_law_share_here", "_law_sign", "_law_dx", "_law_dy", "_law_by", "_law_there", "_law_x", "_law_y", "_law_piece", "_law_found"] "law" (defScope s_law) f cdv A outer s H E).nox (defBody s_law) (rd_law_k16 F__law_due F__law_numbers F__law_ring F__law_same F__law_share F__law_way F_pushed) :=
  have nd := sc_law.nd
  dss_cons (ds_set nd (de_callF C__law_numbers (hr.mono (by decide)) (da_cons (dv 0) (da_cons (de_int) (da_nil)))))
  (dss_cons (ds_set nd (de_callF C__law_ring (hr.mono (by decide)) (da_cons (dv 1) (da_cons (de_ix (DE.bor (DO.val (do_lst (da_cons (de_int) (da_cons (de_op od_pow (DE.bor (de_int)) (DE.bor (de_int))) (da_nil)))))) (DE.bor (de_op od_mod (DE.bor (de_ix (dvb 1) (DE.bor (de_int)))) (DE.bor (de_int))))) (da_nil)))))
  (dss_cons (ds_set nd (de_callF C__law_share (hr.mono (by decide)) (da_cons (de_op od_fdiv (DE.bor (de_ix (dvb 1) (DE.bor (de_int)))) (DE.bor (de_int))) (da_nil))))
  (dss_cons (ds_set nd (de_op od_sub (DE.bor (de_int)) (DE.bor (de_op od_mul (DE.bor (de_int)) (DE.bor (de_op od_mod (DE.bor (de_ix (dvb 1) (DE.bor (de_int)))) (DE.bor (de_int))))))))
  (dss_cons (ds_set nd (de_callF C__law_way (hr.mono (by decide)) (da_cons (de_ix (dvb 1) (DE.bor (de_int))) (da_nil))))
  (dss_cons (ds_set nd (de_callF C__law_way (hr.mono (by decide)) (da_cons (de_ix (dvb 1) (DE.bor (de_int))) (da_nil))))
  (dss_cons (ds_set nd (de_op od_mul (DE.bor (de_ix (dvb 5) (DE.bor (de_int)))) (DE.bor (de_ix (dvb 6) (DE.bor (de_int))))))
  (dss_cons (ds_setO nd (do_lst (da_nil)))
  (dss_cons (ds_for PassesOwn.never rfl (di_list (dv 2)) (dg_tup rfl (dgs_cons (dg_name nd) (dgs_cons (dg_name nd) (dgs_nil)))) (dss_one (ds_append 8 (de_tup (da_cons (de_op od_add (DE.bor (de_op od_mul (DE.bor (de_op od_mul (dvb 4) (dvb 9))) (dvb 7))) (DE.bor (de_op od_mul (DE.bor (de_op od_mul (DE.bor (de_ix (dvb 5) (DE.bor (de_int)))) (DE.bor (de_ix (dvb 6) (DE.bor (de_int)))))) (dvb 3)))) (da_cons (de_op od_add (DE.bor (de_op od_mul (DE.bor (de_op od_mul (dvb 4) (dvb 10))) (dvb 7))) (DE.bor (de_op od_mul (DE.bor (de_op od_mul (DE.bor (de_ix (dvb 6) (DE.bor (de_int)))) (DE.bor (de_ix (dvb 5) (DE.bor (de_int)))))) (dvb 3)))) (da_nil)))))))
  (dss_cons (ds_set nd (de_callF C__law_due (hr.mono (by decide)) (da_cons (dv 3) (da_cons (dv 2) (da_nil)))))
  (dss_cons (ds_set nd (de_callF C_pushed (hr.mono (by decide)) (da_cons (dv 11) (da_cons (de_tup (da_cons (dv 4) (da_cons (dv 5) (da_cons (dv 6) (da_nil))))) (da_nil)))))
  (dss_cons (ds_fz 8 (ds_if (dt_not (dt_val (de_callF C__law_same (hr.mono (by decide)) (da_cons (dv 12) (da_cons (de_callF C__law_due (hr.mono (by decide)) (da_cons (de_op od_mul (dvb 3) (dvb 7)) (da_cons (dv 8) (da_nil)))) (da_nil)))))) (dss_one (ds_ret (de_bl))) (dss_nil)))
  (dss_one (ds_ret (de_callF C__law_same (hr.mono (by decide)) (da_cons (de_callF C_pushed (hr.mono (by decide)) (da_cons (dv 12) (da_cons (de_tup (da_cons (dv 4) (da_cons (de_tup (da_cons (de_op od_sub (DE.bor (de_int)) (DE.bor (de_op od_mul (dvb 4) (DE.bor (de_ix (dvb 5) (DE.bor (de_int))))))) (da_cons (de_ix (dvb 5) (DE.bor (de_int))) (da_nil)))) (da_cons (de_tup (da_cons (de_op od_sub (DE.bor (de_int)) (DE.bor (de_op od_mul (dvb 4) (DE.bor (de_ix (dvb 6) (DE.bor (de_int))))))) (da_cons (de_ix (dvb 6) (DE.bor (de_int))) (da_nil)))) (da_nil))))) (da_nil)))) (da_cons (dv 11) (da_nil)))))))))))))))))
theorem fo_law {F__law_due : FD} (C__law_due : FnAt P w K mg base "_law_due" ["_law_share_here", "_law_ring_here"] 2 F__law_due) {F__law_numbers : FD} (C__law_numbers : FnAt P w K mg base "_law_numbers" ["_law_script", "_law_many"] 1 F__law_numbers) {F__law_ring : FD} (C__law_ring : FnAt P w K mg base "_law_ring" ["_law_head", "_law_far"] 2 F__law_ring) {F__law_same : FD} (C__law_same : FnAt P w K mg base "_law_same" ["_law_found", "_law_due_here"] 2 F__law_same) {F__law_share : FD} (C__law_share : FnAt P w K mg base "_law_share" ["_law_number"] 1 F__law_share) {F__law_way : FD} (C__law_way : FnAt P w K mg base "_law_way" ["_law_number"] 3 F__law_way) {F_pushed : FD} (C_pushed : FnAt P w K mg base "pushed" ["piece", "move"] 5 F_pushed) {F : FD} {f : Addr} {fd : FuncData} (Fu : Fun K "law" "law" s_law f fd) (len : ∀ ds Q, F ds Q → ds.length = 1) (pure : ∀ ds Q, F ds Q → rd_law_k16 F__law_due F__law_numbers F__law_ring F__law_same F__law_share F__law_way F_pushed { nx := fun _ => Q .non, rt := Q } (startD ["_law_script", "_law_head", "_law_ring_here", "_law_share_here", "_law_sign", "_law_dx", "_law_dy", "_law_by", "_law_there", "_law_x", "_law_y", "_law_piece", "_law_found"] ds)) : FnOk P w K mg base CX0 6 f fd ["_law_script"] (spD K F) :=
  fn_ok Fu sc_law (fun cdv A outer s H E hr => bd_law C__law_due C__law_numbers C__law_ring C__law_same C__law_share C__law_way C_pushed hr) len pure
end
structure TopF (K : PySem.W.Frag) (mg : Str → Option Value) : Prop where
  d__law_divisor : DefAt K mg "_law_divisor" s__law_divisor ["_law_one", "_law_other"]
  d__law_due : DefAt K mg "_law_due" s__law_due ["_law_share_here", "_law_ring_here"]
  d__law_numbers : DefAt K mg "_law_numbers" s__law_numbers ["_law_script", "_law_many"]
  d__law_rises : DefAt K mg "_law_rises" s__law_rises ["_law_number", "_law_many"]
  d__law_ring : DefAt K mg "_law_ring" s__law_ring ["_law_head", "_law_far"]
  d__law_whole : DefAt K mg "_law_whole" s__law_whole ["_law_found"]
  d__law_same : DefAt K mg "_law_same" s__law_same ["_law_found", "_law_due_here"]
  d__law_share : DefAt K mg "_law_share" s__law_share ["_law_number"]
  d__law_fraction : DefAt K mg "_law_fraction" s__law_fraction ["_law_top", "_law_bottom"]
  d__law_way : DefAt K mg "_law_way" s__law_way ["_law_number"]
  d_turn : DefAt K mg "turn" s_turn ["one", "middle", "other"]
  d_half_round : DefAt K mg "half_round" s_half_round ["points"]
  d_outline : DefAt K mg "outline" s_outline ["points"]
  d_shared_divisor : DefAt K mg "shared_divisor" s_shared_divisor ["one", "other"]
  d_settled : DefAt K mg "settled" s_settled ["share", "points"]
  d_shared_multiple : DefAt K mg "shared_multiple" s_shared_multiple ["one", "other"]
  d_pushed : DefAt K mg "pushed" s_pushed ["piece", "move"]
  d_law : DefAt K mg "law" s_law ["_law_script"]
  m_abs : mg "abs" = none
  m_tuple : mg "tuple" = none
  m_min : mg "min" = none
  m_len : mg "len" = none
  m_max : mg "max" = none
  m_range : mg "range" = none
  m_reversed : mg "reversed" = none
  m_isinstance : mg "isinstance" = none
  m_bool : mg "bool" = none
  m_int : mg "int" = none
  m_list : mg "list" = none
  m_sorted : mg "sorted" = none
  m_set : mg "set" = none
theorem top_mk {K : PySem.W.Frag} {h : Heap} {mg : Str → Option Value} (X : K.In h) (G : h.Ns mainGlobals mg)
    {f0 : Addr} {od0 an0 : Option Addr} {sl0 : Array (Option Value)} {oc0 kV0 dc0 pm0 cd0 ct0 : Value}
    {f1 : Addr} {od1 an1 : Option Addr} {sl1 : Array (Option Value)} {oc1 kV1 dc1 pm1 cd1 ct1 : Value}
    {f2 : Addr} {od2 an2 : Option Addr} {sl2 : Array (Option Value)} {oc2 kV2 dc2 pm2 cd2 ct2 : Value}
    {f3 : Addr} {od3 an3 : Option Addr} {sl3 : Array (Option Value)} {oc3 kV3 dc3 pm3 cd3 ct3 : Value}
    {f4 : Addr} {od4 an4 : Option Addr} {sl4 : Array (Option Value)} {oc4 kV4 dc4 pm4 cd4 ct4 : Value}
    {f5 : Addr} {od5 an5 : Option Addr} {sl5 : Array (Option Value)} {oc5 kV5 dc5 pm5 cd5 ct5 : Value}
    {f6 : Addr} {od6 an6 : Option Addr} {sl6 : Array (Option Value)} {oc6 kV6 dc6 pm6 cd6 ct6 : Value}
    {f7 : Addr} {od7 an7 : Option Addr} {sl7 : Array (Option Value)} {oc7 kV7 dc7 pm7 cd7 ct7 : Value}
    {f8 : Addr} {od8 an8 : Option Addr} {sl8 : Array (Option Value)} {oc8 kV8 dc8 pm8 cd8 ct8 : Value}
    {f9 : Addr} {od9 an9 : Option Addr} {sl9 : Array (Option Value)} {oc9 kV9 dc9 pm9 cd9 ct9 : Value}
    {f10 : Addr} {od10 an10 : Option Addr} {sl10 : Array (Option Value)} {oc10 kV10 dc10 pm10 cd10 ct10 : Value}
    {f11 : Addr} {od11 an11 : Option Addr} {sl11 : Array (Option Value)} {oc11 kV11 dc11 pm11 cd11 ct11 : Value}
    {f12 : Addr} {od12 an12 : Option Addr} {sl12 : Array (Option Value)} {oc12 kV12 dc12 pm12 cd12 ct12 : Value}
    {f13 : Addr} {od13 an13 : Option Addr} {sl13 : Array (Option Value)} {oc13 kV13 dc13 pm13 cd13 ct13 : Value}
    {f14 : Addr} {od14 an14 : Option Addr} {sl14 : Array (Option Value)} {oc14 kV14 dc14 pm14 cd14 ct14 : Value}
    {f15 : Addr} {od15 an15 : Option Addr} {sl15 : Array (Option Value)} {oc15 kV15 dc15 pm15 cd15 ct15 : Value}
    {f16 : Addr} {od16 an16 : Option Addr} {sl16 : Array (Option Value)} {oc16 kV16 dc16 pm16 cd16 ct16 : Value}
    {f17 : Addr} {od17 an17 : Option Addr} {sl17 : Array (Option Value)} {oc17 kV17 dc17 pm17 cd17 ct17 : Value}
    (a0 : PySem.W.nsIn K mainGlobals "_law_divisor" = some (some (.ref f0))) (l0 : K.lookup f0 = some ⟨oc0, od0, .func (PySem.W.fnOf "_law_divisor" "_law_divisor" (defArgs s__law_divisor) (defBody s__law_divisor) (defScope s__law_divisor) .none kV0 dc0 pm0 an0 cd0 ct0), sl0⟩) (c0 : PySem.W.codeIn K cd0 "_law_divisor" = true) (k0 : PySem.W.keepIn K (.ref f0) = true)
    (a1 : PySem.W.nsIn K mainGlobals "_law_due" = some (some (.ref f1))) (l1 : K.lookup f1 = some ⟨oc1, od1, .func (PySem.W.fnOf "_law_due" "_law_due" (defArgs s__law_due) (defBody s__law_due) (defScope s__law_due) .none kV1 dc1 pm1 an1 cd1 ct1), sl1⟩) (c1 : PySem.W.codeIn K cd1 "_law_due" = true) (k1 : PySem.W.keepIn K (.ref f1) = true)
    (a2 : PySem.W.nsIn K mainGlobals "_law_numbers" = some (some (.ref f2))) (l2 : K.lookup f2 = some ⟨oc2, od2, .func (PySem.W.fnOf "_law_numbers" "_law_numbers" (defArgs s__law_numbers) (defBody s__law_numbers) (defScope s__law_numbers) .none kV2 dc2 pm2 an2 cd2 ct2), sl2⟩) (c2 : PySem.W.codeIn K cd2 "_law_numbers" = true) (k2 : PySem.W.keepIn K (.ref f2) = true)
    (a3 : PySem.W.nsIn K mainGlobals "_law_rises" = some (some (.ref f3))) (l3 : K.lookup f3 = some ⟨oc3, od3, .func (PySem.W.fnOf "_law_rises" "_law_rises" (defArgs s__law_rises) (defBody s__law_rises) (defScope s__law_rises) .none kV3 dc3 pm3 an3 cd3 ct3), sl3⟩) (c3 : PySem.W.codeIn K cd3 "_law_rises" = true) (k3 : PySem.W.keepIn K (.ref f3) = true)
    (a4 : PySem.W.nsIn K mainGlobals "_law_ring" = some (some (.ref f4))) (l4 : K.lookup f4 = some ⟨oc4, od4, .func (PySem.W.fnOf "_law_ring" "_law_ring" (defArgs s__law_ring) (defBody s__law_ring) (defScope s__law_ring) .none kV4 dc4 pm4 an4 cd4 ct4), sl4⟩) (c4 : PySem.W.codeIn K cd4 "_law_ring" = true) (k4 : PySem.W.keepIn K (.ref f4) = true)
    (a5 : PySem.W.nsIn K mainGlobals "_law_whole" = some (some (.ref f5))) (l5 : K.lookup f5 = some ⟨oc5, od5, .func (PySem.W.fnOf "_law_whole" "_law_whole" (defArgs s__law_whole) (defBody s__law_whole) (defScope s__law_whole) .none kV5 dc5 pm5 an5 cd5 ct5), sl5⟩) (c5 : PySem.W.codeIn K cd5 "_law_whole" = true) (k5 : PySem.W.keepIn K (.ref f5) = true)
    (a6 : PySem.W.nsIn K mainGlobals "_law_same" = some (some (.ref f6))) (l6 : K.lookup f6 = some ⟨oc6, od6, .func (PySem.W.fnOf "_law_same" "_law_same" (defArgs s__law_same) (defBody s__law_same) (defScope s__law_same) .none kV6 dc6 pm6 an6 cd6 ct6), sl6⟩) (c6 : PySem.W.codeIn K cd6 "_law_same" = true) (k6 : PySem.W.keepIn K (.ref f6) = true)
    (a7 : PySem.W.nsIn K mainGlobals "_law_share" = some (some (.ref f7))) (l7 : K.lookup f7 = some ⟨oc7, od7, .func (PySem.W.fnOf "_law_share" "_law_share" (defArgs s__law_share) (defBody s__law_share) (defScope s__law_share) .none kV7 dc7 pm7 an7 cd7 ct7), sl7⟩) (c7 : PySem.W.codeIn K cd7 "_law_share" = true) (k7 : PySem.W.keepIn K (.ref f7) = true)
    (a8 : PySem.W.nsIn K mainGlobals "_law_fraction" = some (some (.ref f8))) (l8 : K.lookup f8 = some ⟨oc8, od8, .func (PySem.W.fnOf "_law_fraction" "_law_fraction" (defArgs s__law_fraction) (defBody s__law_fraction) (defScope s__law_fraction) .none kV8 dc8 pm8 an8 cd8 ct8), sl8⟩) (c8 : PySem.W.codeIn K cd8 "_law_fraction" = true) (k8 : PySem.W.keepIn K (.ref f8) = true)
    (a9 : PySem.W.nsIn K mainGlobals "_law_way" = some (some (.ref f9))) (l9 : K.lookup f9 = some ⟨oc9, od9, .func (PySem.W.fnOf "_law_way" "_law_way" (defArgs s__law_way) (defBody s__law_way) (defScope s__law_way) .none kV9 dc9 pm9 an9 cd9 ct9), sl9⟩) (c9 : PySem.W.codeIn K cd9 "_law_way" = true) (k9 : PySem.W.keepIn K (.ref f9) = true)
    (a10 : PySem.W.nsIn K mainGlobals "turn" = some (some (.ref f10))) (l10 : K.lookup f10 = some ⟨oc10, od10, .func (PySem.W.fnOf "turn" "turn" (defArgs s_turn) (defBody s_turn) (defScope s_turn) .none kV10 dc10 pm10 an10 cd10 ct10), sl10⟩) (c10 : PySem.W.codeIn K cd10 "turn" = true) (k10 : PySem.W.keepIn K (.ref f10) = true)
    (a11 : PySem.W.nsIn K mainGlobals "half_round" = some (some (.ref f11))) (l11 : K.lookup f11 = some ⟨oc11, od11, .func (PySem.W.fnOf "half_round" "half_round" (defArgs s_half_round) (defBody s_half_round) (defScope s_half_round) .none kV11 dc11 pm11 an11 cd11 ct11), sl11⟩) (c11 : PySem.W.codeIn K cd11 "half_round" = true) (k11 : PySem.W.keepIn K (.ref f11) = true)
    (a12 : PySem.W.nsIn K mainGlobals "outline" = some (some (.ref f12))) (l12 : K.lookup f12 = some ⟨oc12, od12, .func (PySem.W.fnOf "outline" "outline" (defArgs s_outline) (defBody s_outline) (defScope s_outline) .none kV12 dc12 pm12 an12 cd12 ct12), sl12⟩) (c12 : PySem.W.codeIn K cd12 "outline" = true) (k12 : PySem.W.keepIn K (.ref f12) = true)
    (a13 : PySem.W.nsIn K mainGlobals "shared_divisor" = some (some (.ref f13))) (l13 : K.lookup f13 = some ⟨oc13, od13, .func (PySem.W.fnOf "shared_divisor" "shared_divisor" (defArgs s_shared_divisor) (defBody s_shared_divisor) (defScope s_shared_divisor) .none kV13 dc13 pm13 an13 cd13 ct13), sl13⟩) (c13 : PySem.W.codeIn K cd13 "shared_divisor" = true) (k13 : PySem.W.keepIn K (.ref f13) = true)
    (a14 : PySem.W.nsIn K mainGlobals "settled" = some (some (.ref f14))) (l14 : K.lookup f14 = some ⟨oc14, od14, .func (PySem.W.fnOf "settled" "settled" (defArgs s_settled) (defBody s_settled) (defScope s_settled) .none kV14 dc14 pm14 an14 cd14 ct14), sl14⟩) (c14 : PySem.W.codeIn K cd14 "settled" = true) (k14 : PySem.W.keepIn K (.ref f14) = true)
    (a15 : PySem.W.nsIn K mainGlobals "shared_multiple" = some (some (.ref f15))) (l15 : K.lookup f15 = some ⟨oc15, od15, .func (PySem.W.fnOf "shared_multiple" "shared_multiple" (defArgs s_shared_multiple) (defBody s_shared_multiple) (defScope s_shared_multiple) .none kV15 dc15 pm15 an15 cd15 ct15), sl15⟩) (c15 : PySem.W.codeIn K cd15 "shared_multiple" = true) (k15 : PySem.W.keepIn K (.ref f15) = true)
    (a16 : PySem.W.nsIn K mainGlobals "pushed" = some (some (.ref f16))) (l16 : K.lookup f16 = some ⟨oc16, od16, .func (PySem.W.fnOf "pushed" "pushed" (defArgs s_pushed) (defBody s_pushed) (defScope s_pushed) .none kV16 dc16 pm16 an16 cd16 ct16), sl16⟩) (c16 : PySem.W.codeIn K cd16 "pushed" = true) (k16 : PySem.W.keepIn K (.ref f16) = true)
    (a17 : PySem.W.nsIn K mainGlobals "law" = some (some (.ref f17))) (l17 : K.lookup f17 = some ⟨oc17, od17, .func (PySem.W.fnOf "law" "law" (defArgs s_law) (defBody s_law) (defScope s_law) .none kV17 dc17 pm17 an17 cd17 ct17), sl17⟩) (c17 : PySem.W.codeIn K cd17 "law" = true) (k17 : PySem.W.keepIn K (.ref f17) = true)
    (z0 : PySem.W.nsIn K mainGlobals "abs" = some none)
    (z1 : PySem.W.nsIn K mainGlobals "tuple" = some none)
    (z2 : PySem.W.nsIn K mainGlobals "min" = some none)
    (z3 : PySem.W.nsIn K mainGlobals "len" = some none)
    (z4 : PySem.W.nsIn K mainGlobals "max" = some none)
    (z5 : PySem.W.nsIn K mainGlobals "range" = some none)
    (z6 : PySem.W.nsIn K mainGlobals "reversed" = some none)
    (z7 : PySem.W.nsIn K mainGlobals "isinstance" = some none)
    (z8 : PySem.W.nsIn K mainGlobals "bool" = some none)
    (z9 : PySem.W.nsIn K mainGlobals "int" = some none)
    (z10 : PySem.W.nsIn K mainGlobals "list" = some none)
    (z11 : PySem.W.nsIn K mainGlobals "sorted" = some none)
    (z12 : PySem.W.nsIn K mainGlobals "set" = some none) : TopF K mg :=
  ⟨⟨_, _, fun_mk (st := s__law_divisor) l0 c0 k0, PySem.W.mg_of X G a0, fun us hl => match us, hl with | [_, _], _ => rfl⟩,
   ⟨_, _, fun_mk (st := s__law_due) l1 c1 k1, PySem.W.mg_of X G a1, fun us hl => match us, hl with | [_, _], _ => rfl⟩,
   ⟨_, _, fun_mk (st := s__law_numbers) l2 c2 k2, PySem.W.mg_of X G a2, fun us hl => match us, hl with | [_, _], _ => rfl⟩,
   ⟨_, _, fun_mk (st := s__law_rises) l3 c3 k3, PySem.W.mg_of X G a3, fun us hl => match us, hl with | [_, _], _ => rfl⟩,
   ⟨_, _, fun_mk (st := s__law_ring) l4 c4 k4, PySem.W.mg_of X G a4, fun us hl => match us, hl with | [_, _], _ => rfl⟩,
   ⟨_, _, fun_mk (st := s__law_whole) l5 c5 k5, PySem.W.mg_of X G a5, fun us hl => match us, hl with | [_], _ => rfl⟩,
   ⟨_, _, fun_mk (st := s__law_same) l6 c6 k6, PySem.W.mg_of X G a6, fun us hl => match us, hl with | [_, _], _ => rfl⟩,
   ⟨_, _, fun_mk (st := s__law_share) l7 c7 k7, PySem.W.mg_of X G a7, fun us hl => match us, hl with | [_], _ => rfl⟩,
   ⟨_, _, fun_mk (st := s__law_fraction) l8 c8 k8, PySem.W.mg_of X G a8, fun us hl => match us, hl with | [_, _], _ => rfl⟩,
   ⟨_, _, fun_mk (st := s__law_way) l9 c9 k9, PySem.W.mg_of X G a9, fun us hl => match us, hl with | [_], _ => rfl⟩,
   ⟨_, _, fun_mk (st := s_turn) l10 c10 k10, PySem.W.mg_of X G a10, fun us hl => match us, hl with | [_, _, _], _ => rfl⟩,
   ⟨_, _, fun_mk (st := s_half_round) l11 c11 k11, PySem.W.mg_of X G a11, fun us hl => match us, hl with | [_], _ => rfl⟩,
   ⟨_, _, fun_mk (st := s_outline) l12 c12 k12, PySem.W.mg_of X G a12, fun us hl => match us, hl with | [_], _ => rfl⟩,
   ⟨_, _, fun_mk (st := s_shared_divisor) l13 c13 k13, PySem.W.mg_of X G a13, fun us hl => match us, hl with | [_, _], _ => rfl⟩,
   ⟨_, _, fun_mk (st := s_settled) l14 c14 k14, PySem.W.mg_of X G a14, fun us hl => match us, hl with | [_, _], _ => rfl⟩,
   ⟨_, _, fun_mk (st := s_shared_multiple) l15 c15 k15, PySem.W.mg_of X G a15, fun us hl => match us, hl with | [_, _], _ => rfl⟩,
   ⟨_, _, fun_mk (st := s_pushed) l16 c16 k16, PySem.W.mg_of X G a16, fun us hl => match us, hl with | [_, _], _ => rfl⟩,
   ⟨_, _, fun_mk (st := s_law) l17 c17 k17, PySem.W.mg_of X G a17, fun us hl => match us, hl with | [_], _ => rfl⟩,
   PySem.W.mg_none_of X G z0,
   PySem.W.mg_none_of X G z1,
   PySem.W.mg_none_of X G z2,
   PySem.W.mg_none_of X G z3,
   PySem.W.mg_none_of X G z4,
   PySem.W.mg_none_of X G z5,
   PySem.W.mg_none_of X G z6,
   PySem.W.mg_none_of X G z7,
   PySem.W.mg_none_of X G z8,
   PySem.W.mg_none_of X G z9,
   PySem.W.mg_none_of X G z10,
   PySem.W.mg_none_of X G z11,
   PySem.W.mg_none_of X G z12⟩
theorem law_fn {P : Program} {w : World} {K : PySem.W.Frag} {mg : Str → Option Value} {base : Heap} {f : Addr} {fd : FuncData} (T : TopF K mg) (Fu : Fun K "law" "law" s_law f fd) : FnOk P w K mg base CX0 6 f fd ["_law_script"] (spD K (FLaw 63)) := by
  have C__law_divisor := ok__law_divisor (P := P) (w := w) (base := base) T.d__law_divisor T.m_abs (F := F_gcd) len_gcd pure_law_divisor
  have C__law_due := ok__law_due (P := P) (w := w) (base := base) T.d__law_due C__law_divisor T.m_tuple T.m_min (F := F_due) len_due pure_law_due
  have C__law_numbers := ok__law_numbers (P := P) (w := w) (base := base) T.d__law_numbers T.m_len T.m_min T.m_max T.m_range (F := F_numbers) len_numbers pure_law_numbers
  have C__law_rises := ok__law_rises (P := P) (w := w) (base := base) T.d__law_rises T.m_range (F := F_rises) len_rises pure_law_rises
  have C__law_ring := ok__law_ring (P := P) (w := w) (base := base) T.d__law_ring C__law_rises T.m_reversed T.m_max (F := F_ring) len_ring pure_law_ring_2
  have C__law_whole := ok__law_whole (P := P) (w := w) (base := base) T.d__law_whole T.m_isinstance T.m_bool T.m_int (F := F_whole) len_whole pure_law_whole
  have C__law_same := ok__law_same (P := P) (w := w) (base := base) T.d__law_same C__law_whole T.m_isinstance T.m_tuple (F := F_same2) len_same2 pure_law_same_2
  have C__law_share := ok__law_share (P := P) (w := w) (base := base) T.d__law_share (F := F_share) len_share pure_law_share_2
  have C__law_fraction := ok__law_fraction (P := P) (w := w) (base := base) T.d__law_fraction C__law_divisor (F := F_low) len_low pure_law_fraction
  have C__law_way := ok__law_way (P := P) (w := w) (base := base) T.d__law_way C__law_fraction C__law_share (F := F_way) len_way pure_law_way
  have C_turn := ok_turn (P := P) (w := w) (base := base) T.d_turn (F := F_turn) len_turn pure_turn
  have C_half_round := ok_half_round (P := P) (w := w) (base := base) T.d_half_round C_turn T.m_len (F := F_half) len_half pure_half_round
  have C_outline := ok_outline (P := P) (w := w) (base := base) T.d_outline C_half_round T.m_list T.m_reversed T.m_sorted T.m_set (F := F_outline) len_outline pure_outline
  have C_shared_divisor := ok_shared_divisor (P := P) (w := w) (base := base) T.d_shared_divisor T.m_abs (F := F_gcd) len_gcd pure_shared_divisor
  have C_settled := ok_settled (P := P) (w := w) (base := base) T.d_settled C_outline C_shared_divisor T.m_tuple T.m_len (F := F_settled) len_settled pure_settled
  have C_shared_multiple := ok_shared_multiple (P := P) (w := w) (base := base) T.d_shared_multiple C_shared_divisor (F := F_lcm) len_lcm pure_shared_multiple
  have C_pushed := ok_pushed (P := P) (w := w) (base := base) T.d_pushed C_settled C_shared_multiple (F := F_pushed) len_pushed pure_pushed
  exact fo_law C__law_due C__law_numbers C__law_ring C__law_same C__law_share C__law_way C_pushed (F := FLaw 63) Fu len_law pure_law
end K16
end L2.R2
open PySem PySem.W PyProof.Rows
set_option maxRecDepth 100000 in
set_option maxHeartbeats 0 in
theorem PySem.Challenge.cw_recut_k16_a_piece_pushed_holds : PySem.Challenge.rw_recut_k16_a_piece_pushed.Holds := by
  w_on; o_law; k_head; (case hw => w_witness2)
  k_fill
  refine L2.R2.walk_law (l := PySem.Challenge.rw_recut_k16_a_piece_pushed) (k := 6) (x := "_law_script") rfl rfl ⟨rfl, by decide, by decide⟩ (fun w h Y => PySem.W.kIn_of Y) rfl ?F
  case F =>
    intro w mg h KX G
    have T : L2.R2.K16.TopF (L2.KOf KX) mg := by
      dsimp only [L2.KOf]
      refine' L2.R2.K16.top_mk KX G ?a0 ?l0 ?c0 ?k0 ?a1 ?l1 ?c1 ?k1 ?a2 ?l2 ?c2 ?k2 ?a3 ?l3 ?c3 ?k3 ?a4 ?l4 ?c4 ?k4 ?a5 ?l5 ?c5 ?k5 ?a6 ?l6 ?c6 ?k6 ?a7 ?l7 ?c7 ?k7 ?a8 ?l8 ?c8 ?k8 ?a9 ?l9 ?c9 ?k9 ?a10 ?l10 ?c10 ?k10 ?a11 ?l11 ?c11 ?k11 ?a12 ?l12 ?c12 ?k12 ?a13 ?l13 ?c13 ?k13 ?a14 ?l14 ?c14 ?k14 ?a15 ?l15 ?c15 ?k15 ?a16 ?l16 ?c16 ?k16 ?a17 ?l17 ?c17 ?k17 ?z0 ?z1 ?z2 ?z3 ?z4 ?z5 ?z6 ?z7 ?z8 ?z9 ?z10 ?z11 ?z12
      (case a0 => k_is); (case l0 => k_is); (case c0 => k_is); (case k0 => k_is)
      (case a1 => k_is); (case l1 => k_is); (case c1 => k_is); (case k1 => k_is)
      (case a2 => k_is); (case l2 => k_is); (case c2 => k_is); (case k2 => k_is)
      (case a3 => k_is); (case l3 => k_is); (case c3 => k_is); (case k3 => k_is)
      (case a4 => k_is); (case l4 => k_is); (case c4 => k_is); (case k4 => k_is)
      (case a5 => k_is); (case l5 => k_is); (case c5 => k_is); (case k5 => k_is)
      (case a6 => k_is); (case l6 => k_is); (case c6 => k_is); (case k6 => k_is)
      (case a7 => k_is); (case l7 => k_is); (case c7 => k_is); (case k7 => k_is)
      (case a8 => k_is); (case l8 => k_is); (case c8 => k_is); (case k8 => k_is)
      (case a9 => k_is); (case l9 => k_is); (case c9 => k_is); (case k9 => k_is)
      (case a10 => k_is); (case l10 => k_is); (case c10 => k_is); (case k10 => k_is)
      (case a11 => k_is); (case l11 => k_is); (case c11 => k_is); (case k11 => k_is)
      (case a12 => k_is); (case l12 => k_is); (case c12 => k_is); (case k12 => k_is)
      (case a13 => k_is); (case l13 => k_is); (case c13 => k_is); (case k13 => k_is)
      (case a14 => k_is); (case l14 => k_is); (case c14 => k_is); (case k14 => k_is)
      (case a15 => k_is); (case l15 => k_is); (case c15 => k_is); (case k15 => k_is)
      (case a16 => k_is); (case l16 => k_is); (case c16 => k_is); (case k16 => k_is)
      (case a17 => k_is); (case l17 => k_is); (case c17 => k_is); (case k17 => k_is)
      (case z0 => k_is)
      (case z1 => k_is)
      (case z2 => k_is)
      (case z3 => k_is)
      (case z4 => k_is)
      (case z5 => k_is)
      (case z6 => k_is)
      (case z7 => k_is)
      (case z8 => k_is)
      (case z9 => k_is)
      (case z10 => k_is)
      (case z11 => k_is)
      (case z12 => k_is)
    exact T.d_law.okL fun base f fd Fu => L2.R2.K16.law_fn T Fu
