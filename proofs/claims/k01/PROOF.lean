import PyProof.Rows.All
import Wide.All
import OpenK.AllK
import Wide.FinOn
import Lean
import PyProof.EqAt
import PyProof.EqKinds
import PyProof.TupleCall
import PySem.Challenge.RW_recut_k01_a_fraction
-- CHANGE: your row's module here, as the last of these rows
set_option Elab.async false
set_option linter.all false
set_option maxRecDepth 100000
/-! THE HAND LAYER, for ints, bools, texts, own classes, LISTS and tuples (index, slices, in, append, pop ..), calls, loops. Paste it whole ahead of your own text; what your proof does not reach may be deleted. -/
namespace L2
open PySem PySem.Spec PyProof.Rows

/-- a key: an int or a str -/
abbrev Key := Sum Int Str
def keyIs : Key → Value → Bool
  | .inl k, v => Value.isInt k v
  | .inr x, v => Value.isStrOf x v
def keyH (w : World) : Key → Int
  | .inl k => hashInt k
  | .inr x => hashStr w x
theorem keyIs_shape : ∀ {k : Key} {v : Value}, keyIs k v = true → (∃ i t, k = Sum.inl i ∧ v = Value.int i t) ∨ (∃ x t, k = Sum.inr x ∧ v = Value.str x t)
  | .inl i, v, h => by
    obtain ⟨t, e⟩ := Value.isInt_shape (k := i) (v := v) h
    exact .inl ⟨i, t, rfl, e⟩
  | .inr x, v, h => by
    obtain ⟨t, e⟩ := Value.isStrOf_shape (x := x) (v := v) h
    exact .inr ⟨x, t, rfl, e⟩
theorem key_ll (a b : Int) : decide ((Sum.inl a : Key) = Sum.inl b) = (a == b) := by
  by_cases e : a = b
  · subst e; simp
  · have h : ¬ (Sum.inl a : Key) = Sum.inl b := fun q => e (Sum.inl.inj q)
    rw [decide_eq_false h]
    exact (beq_eq_false_iff_ne.mpr e).symm
theorem key_rr (a b : Str) : decide ((Sum.inr a : Key) = Sum.inr b) = decide (a = b) := by
  by_cases e : a = b
  · subst e; simp
  · have h : ¬ (Sum.inr a : Key) = Sum.inr b := fun q => e (Sum.inr.inj q)
    rw [decide_eq_false h, decide_eq_false e]
theorem key_lr (a : Int) (b : Str) : decide ((Sum.inl a : Key) = Sum.inr b) = false := decide_eq_false (fun q => nomatch q)
theorem key_rl (a : Str) (b : Int) : decide ((Sum.inr a : Key) = Sum.inl b) = false := decide_eq_false (fun q => nomatch q)

def mixKind (prog : Program) (w : World) : PySem.KeyKind prog w Key where
  is := keyIs
  hash := keyH w
  inj := fun v a b ha hb => by
    rcases keyIs_shape ha with ⟨i, t, rfl, rfl⟩ | ⟨x, t, rfl, rfl⟩
    · rcases keyIs_shape hb with ⟨j, u, rfl, e⟩ | ⟨y, u, rfl, e⟩
      · injection e with e1 _; rw [e1]
      · exact nomatch e
    · rcases keyIs_shape hb with ⟨j, u, rfl, e⟩ | ⟨y, u, rfl, e⟩
      · exact nomatch e
      · injection e with e1 _; rw [e1]
  byValue := fun k v h => by
    rcases keyIs_shape h with ⟨i, t, rfl, rfl⟩ | ⟨x, t, rfl, rfl⟩ <;> rfl
  pyHash := fun hv h => by
    rcases keyIs_shape hv with ⟨i, t, rfl, rfl⟩ | ⟨x, t, rfl, rfl⟩
    · exact wpAny_pyHash_int h
    · exact wpAny_pyHash_str h
  eqBool := fun hu hv h => by
    rcases keyIs_shape hu with ⟨i, t, rfl, rfl⟩ | ⟨x, t, rfl, rfl⟩
    · rcases keyIs_shape hv with ⟨j, u, rfl, rfl⟩ | ⟨y, u, rfl, rfl⟩
      · rw [key_ll] at h; exact wpAny_eqBool_int h
      · rw [key_lr] at h; exact SeqAt.EqAt.int_str i t y u _ _ _ _ h
    · rcases keyIs_shape hv with ⟨j, u, rfl, rfl⟩ | ⟨y, u, rfl, rfl⟩
      · rw [key_rl] at h; exact SeqAt.EqAt.str_int x t j u _ _ _ _ h
      · rw [key_rr] at h; exact wpAny_eqBool_str h
  «strs» := fun k x t v h => by
    rcases keyIs_shape h with ⟨i, u, rfl, e⟩ | ⟨y, u, rfl, e⟩
    · exact nomatch e
    · injection e with e1 _
      subst e1
      cases v <;> rfl

end L2

namespace L2
open PySem PySem.Spec PyProof.Rows

/-- a value, without the heap -/
inductive V where
  | non | bl (b : Bool) | int (i : Int) | str (x : Str) | byt (b : Array UInt8) | flt (b : UInt64) | ref (a : Addr) | ty (n : String)
  deriving DecidableEq

def RelV : V → Value → Prop
  | .non, u => u = Value.none
  | .bl b, u => u = Value.bool b
  | .int i, u => ∃ t, u = Value.int i t
  | .str x, u => ∃ t, u = Value.str x t
  | .byt b, u => ∃ t, u = Value.bytes b t
  | .flt b, u => ∃ t, u = Value.float b t
  | .ref a, u => u = Value.ref a
  | .ty n, u => u = Value.type n

abbrev Vals : List V → List Value → Prop := Paired RelV
theorem Vals.length {xs : List V} {us : List Value} (r : Vals xs us) : xs.length = us.length := Paired.length r
theorem Vals.get : ∀ {xs : List V} {us : List Value} {i : Nat} {x : V}, Vals xs us → xs[i]? = some x → ∃ u, us[i]? = some u ∧ RelV x u
  | _, _, _, _, .nil, e => by simp at e
  | _, _, 0, _, .cons r _, e => by simp at e; subst e; exact ⟨_, rfl, r⟩
  | _, _, i + 1, x, .cons _ t, e => by
    obtain ⟨u, h1, h2⟩ := Vals.get (i := i) (x := x) t (by simpa using e)
    exact ⟨u, by simpa using h1, h2⟩
theorem Vals.set {x : V} {u : Value} (r : RelV x u) : ∀ {xs : List V} {us : List Value} (i : Nat), Vals xs us → Vals (xs.set i x) (us.set i u)
  | _, _, _, .nil => .nil
  | _, _, 0, .cons _ t => .cons r t
  | _, _, i + 1, .cons q t => .cons q (Vals.set r i t)
theorem Vals.append : ∀ {xs ys : List V} {us ws : List Value}, Vals xs us → Vals ys ws → Vals (xs ++ ys) (us ++ ws)
  | _, _, _, _, .nil, s => s
  | _, _, _, _, .cons r t, s => .cons r (Vals.append t s)
theorem Vals.take : ∀ {xs : List V} {us : List Value} (n : Nat), Vals xs us → Vals (xs.take n) (us.take n)
  | _, _, 0, _ => .nil
  | _, _, _ + 1, .nil => .nil
  | _, _, n + 1, .cons r t => .cons r (Vals.take n t)
theorem Vals.drop : ∀ {xs : List V} {us : List Value} (n : Nat), Vals xs us → Vals (xs.drop n) (us.drop n)
  | _, _, 0, r => r
  | _, _, _ + 1, .nil => .nil
  | _, _, n + 1, .cons _ t => Vals.drop n t
def RelO : Option V → Option Value → Prop
  | some v, some u => RelV v u
  | none, none => True
  | _, _ => False
def KV {κ : Type} : List (κ × V) → List (κ × Value) → Prop := Paired fun (p : κ × V) (q : κ × Value) => p.1 = q.1 ∧ RelV p.2 q.2

/-- a key of a dict (00_mix): an int or a text -/
def kV : Key → V
  | .inl i => .int i
  | .inr x => .str x

/-- what stands at a tracked address -/
inductive HO where
  /-- a list -/
  | lst (xs : List V)
  /-- a tuple (never changes) -/
  | tup (xs : List V)
  /-- a dict whose keys are ints and texts; one whose keys are tuples of ints and texts (the empty one is both) -/
  | dK (kvs : List (Key × V)) | dT (kvs : List (List Key × V))
  /-- a set of ints: its members, its size -/
  | set (S : Int → Bool) (n : Nat)
  /-- an instance of the class at C, its dict at dx, its attributes -/
  | ins (C dx : Addr) (fs : List (Str × V))
  /-- the dict of the instance at x -/
  | own (x : Addr)
  /-- the dict of an exception -/
  | xd (fs : List (Str × V))
  /-- a bound method, f of x -/
  | met (f x : Addr)
  /-- a range object lo, lo + 1, .. below hi -/
  | rng (lo hi : Int)
  /-- a thing that is known to the object (the script; a dict while a loop walks it): read, never written while it is so -/
  | frz (o : Obj) (u : HO)
  /-- a code object's table -/
  | tbl (ps : Array Value)
  /-- any other thing, by what is true of its one object (a def of one's own: SetO a S n := HO.ext fun h => ..) -/
  | ext (φ : Heap → Prop)

abbrev Hp := Addr → Option HO
def upd (H : Hp) (a : Addr) (o : HO) : Hp := fun b => if b = a then some o else H b
theorem upd_same {H : Hp} {a : Addr} {o : HO} : upd H a o a = some o := by unfold upd; rw [if_pos rfl]
theorem upd_ne {H : Hp} {a b : Addr} {o : HO} (h : b ≠ a) : upd H a o b = H b := by unfold upd; rw [if_neg h]
theorem ne_of_none {H : Hp} {a b : Addr} {o : HO} (h : H a = some o) (h' : H b = none) : a ≠ b := by
  intro e; subst e; rw [h] at h'; cases h'

section
variable (P : Program) (w : World)
def ObjOk (H : Hp) (h : Heap) (a : Addr) : HO → Prop
  | .lst xs => xs.length ≤ sizeLine ∧ ∃ (its : List Value) (n : Nat), Vals xs its ∧ h.get? a = some { cls := .type "list", data := .seq its.toArray n }
  | .tup xs => xs.length ≤ sizeLine ∧ ∃ its : List Value, Vals xs its ∧ IsTup h a its.toArray
  | .dK kvs => kvs.length ≤ sizeLine ∧ (a == sysModules) = false ∧ ∃ vs, KV kvs vs ∧ h.DictOf (mixKind P w) a vs
  | .dT kvs => kvs.length ≤ sizeLine ∧ (a == sysModules) = false ∧ ∃ xs : List (List Key × Addr × Value),
      Paired (fun (p : List Key × V) (q : List Key × Addr × Value) => p.1 = q.1 ∧ H q.2.1 = some (.tup (p.1.map kV)) ∧ RelV p.2 q.2.2) kvs xs ∧
      ∃ o es ep, h.get? a = some o ∧ o.ExactDict ∧ o.data = .dict es ep ∧ es.toList = xs.map (entryOfKey (tupleKind (mixKind P w))) ∧ (xs.map (·.1)).Nodup
  | .set S n => h.SetOf (intKind P w) a S n
  | .ins C dx fs => H dx = some (.own a) ∧ fs.length ≤ 1000 ∧ dx ≠ a ∧ h.get? a = some (PySem.W.instObj C dx) ∧
      ∃ mA, h.Ns1 dx mA ∧ (∀ f, RelO (fs.lookup f) (mA f)) ∧ PySem.Within mA (fs.map (·.1))
  | .own _ => ∃ o, h.get? a = some o
  | .xd fs => ∃ mA, h.Ns1 a mA ∧ ∀ f, RelO (fs.lookup f) (mA f)
  | .rng lo hi => ∃ t u v, h.get? a = some { cls := .type "range", data := .fields #[.int lo t, .int hi u, .int 1 v] }
  | .frz o u => h.get? a = some o ∧ ObjOk H h a u
  | .tbl ps => h.get? a = some { cls := .none, data := .fields ps }
  | .met f x => h.get? a = some (PySem.W.methodObj (.ref f) (.ref x))
  | .ext φ => φ h ∧ (∃ o, h.get? a = some o) ∧ ∀ h1 h2 : Heap, φ h1 → (∀ o, h1.get? a = some o → h2.get? a = some o) → φ h2
/-- the abstract heap is held -/
def HOk (H : Hp) (h : Heap) : Prop := ∀ a o, H a = some o → ObjOk P w H h a o
end

section
variable {P : Program} {w : World} {H H' : Hp} {h h' : Heap} {a : Addr} {o : HO}
theorem ObjOk.lt (x : ObjOk P w H h a o) : a < h.objs.size := by
  cases o with
  | lst xs => obtain ⟨_, _, _, _, e⟩ := x; exact Heap.lt_size e
  | tup xs => obtain ⟨_, _, _, p⟩ := x; exact p.lt
  | dK kvs => obtain ⟨_, _, _, _, o, _, _, e, _⟩ := x; exact Heap.lt_size e
  | dT kvs => obtain ⟨_, _, _, _, o, _, _, e, _⟩ := x; exact Heap.lt_size e
  | set S n => obtain ⟨o, _, _, _, e, _⟩ := x; exact Heap.lt_size e
  | ins C dx fs => obtain ⟨_, _, _, e, _⟩ := x; exact Heap.lt_size e
  | own y => obtain ⟨_, e⟩ := x; exact Heap.lt_size e
  | xd fs => obtain ⟨_, ⟨_, _, _, e, _⟩, _⟩ := x; exact Heap.lt_size e
  | rng lo hi => obtain ⟨_, _, _, e⟩ := x; exact Heap.lt_size e
  | frz ob u => obtain ⟨e, _⟩ := x; exact Heap.lt_size e
  | tbl ps => exact Heap.lt_size (show h.get? a = some _ from x)
  | met f y => exact Heap.lt_size (show h.get? a = some _ from x)
  | ext φ => obtain ⟨_, ⟨_, e⟩, _⟩ := x; exact Heap.lt_size e
theorem Paired.mapP {α β : Type} {F G : α → β → Prop} : ∀ {l₁ : List α} {l₂ : List β}, Paired F l₁ l₂ → (∀ a b, F a b → G a b) → Paired G l₁ l₂
  | _, _, .nil, _ => .nil
  | _, _, .cons r t, f => .cons (f _ _ r) (Paired.mapP t f)
/-- what an object's description leans on: its own object, its own dict, the tuples -/
theorem ObjOk.stay (x : ObjOk P w H h a o) (k : ∀ b u, (b = a ∨ H b = some (.own a)) → h.get? b = some u → h'.get? b = some u)
    (ho : ∀ b, H b = some (.own a) → H' b = some (.own a)) (ht : ∀ b xs, H b = some (.tup xs) → H' b = some (.tup xs)) : ObjOk P w H' h' a o := by
  induction o with
  | lst xs => obtain ⟨z, its, n, r, e⟩ := x; exact ⟨z, its, n, r, k _ _ (.inl rfl) e⟩
  | tup xs => obtain ⟨z, its, r, ob, e, c⟩ := x; exact ⟨z, its, r, ob, k _ _ (.inl rfl) e, c⟩
  | dK kvs => obtain ⟨z, y, vs, r, ob, es, ep, e, c⟩ := x; exact ⟨z, y, vs, r, ob, es, ep, k _ _ (.inl rfl) e, c⟩
  | dT kvs =>
    obtain ⟨z, y, xs, r, ob, es, ep, e, c⟩ := x
    exact ⟨z, y, xs, Paired.mapP r fun p q z => ⟨z.1, ht _ _ z.2.1, z.2.2⟩, ob, es, ep, k _ _ (.inl rfl) e, c⟩
  | set S n => obtain ⟨ob, es, ep, t, e, c⟩ := x; exact ⟨ob, es, ep, t, k _ _ (.inl rfl) e, c⟩
  | ins C dx fs =>
    obtain ⟨d, z, ne, e, mA, ⟨od, es, ep, e2, c⟩, r⟩ := x
    exact ⟨ho _ d, z, ne, k _ _ (.inl rfl) e, mA, ⟨od, es, ep, k _ _ (.inr d) e2, c⟩, r⟩
  | own y => obtain ⟨ob, e⟩ := x; exact ⟨ob, k _ _ (.inl rfl) e⟩
  | xd fs => obtain ⟨mA, ⟨od, es, ep, e, c⟩, r⟩ := x; exact ⟨mA, ⟨od, es, ep, k _ _ (.inl rfl) e, c⟩, r⟩
  | rng lo hi => obtain ⟨t, u, v, e⟩ := x; exact ⟨t, u, v, k _ _ (.inl rfl) e⟩
  | frz ob u ih => obtain ⟨e, q⟩ := x; exact ⟨k _ _ (.inl rfl) e, ih q⟩
  | tbl ps =>
    have e : h.get? a = some { cls := .none, data := .fields ps } := x
    show h'.get? a = some { cls := .none, data := .fields ps }
    exact k a _ (.inl rfl) e
  | met f y =>
    have e : h.get? a = some (PySem.W.methodObj (.ref f) (.ref y)) := x
    show h'.get? a = some (PySem.W.methodObj (.ref f) (.ref y))
    exact k a _ (.inl rfl) e
  | ext φ => obtain ⟨p, ⟨o, e⟩, st⟩ := x; exact ⟨st _ _ p fun o q => k _ _ (.inl rfl) q, ⟨o, k _ _ (.inl rfl) e⟩, st⟩
theorem HOk.lt (x : HOk P w H h) (e : H a = some o) : a < h.objs.size := (x a o e).lt
theorem HOk.fresh (x : HOk P w H h) (e : h.objs.size ≤ a) : H a = none := by
  cases q : H a with
  | none => rfl
  | some u => exact absurd (Nat.lt_of_lt_of_le (x.lt q) e) (Nat.lt_irrefl _)
/-- every object of the heap is kept -/
theorem HOk.kept (x : HOk P w H h) (k : ∀ b u, h.get? b = some u → h'.get? b = some u) : HOk P w H h' := fun a o e =>
  (x a o e).stay (fun b u _ q => k b u q) (fun _ q => q) fun _ _ q => q
/-- a new object is laid and tracked -/
theorem HOk.laid (x : HOk P w H h) (k : ∀ b u, h.get? b = some u → h'.get? b = some u) (hp : h.objs.size ≤ a) (new : ObjOk P w (upd H a o) h' a o) : HOk P w (upd H a o) h' := fun b u e => by
  have hn := x.fresh hp
  by_cases hb : b = a
  · subst hb; rw [upd_same] at e; cases e; exact new
  · rw [upd_ne hb] at e
    exact (x b u e).stay (fun c v _ q => k c v q) (fun c q => by rw [upd_ne (ne_of_none q hn)]; exact q) fun c xs q => by rw [upd_ne (ne_of_none q hn)]; exact q
end

/-- what may be read as u: it is u, or a known u -/
def Rd (H : Hp) (a : Addr) (u : HO) : Prop := H a = some u ∨ ∃ o, H a = some (.frz o u)
theorem Rd.of {H : Hp} {a : Addr} {u : HO} (h : H a = some u) : Rd H a u := .inl h
theorem Rd.ok {P : Program} {w : World} {H : Hp} {h : Heap} {a : Addr} {u : HO} (r : Rd H a u) (x : HOk P w H h) : ObjOk P w H h a u := by
  rcases r with r | ⟨o, r⟩
  · exact x a u r
  · obtain ⟨_, q⟩ := x a _ r
    exact q
/-- what may be written -/
def Mut : Option HO → Prop
  | some (.lst _) => True
  | some (.dK _) => True
  | some (.dT _) => True
  | some (.set _ _) => True
  | some (.ins _ _ _) => True
  | some (.ext _) => True
  | _ => False
section
variable {P : Program} {w : World} {H : Hp} {h h' : Heap} {x e : Addr} {o' : HO}
/-- the object at e is changed: x itself, or the dict of the instance x -/
theorem HOk.write (ok : HOk P w H h) (mu : Mut (H x)) (he : e = x ∨ H e = some (.own x)) (k : ∀ b u, b ≠ e → h.get? b = some u → h'.get? b = some u) (heo : ∃ u, h'.get? e = some u)
    (new : ObjOk P w (upd H x o') h' x o') : HOk P w (upd H x o') h' := fun b u q => by
  have nown : ∀ c y, H c = some (.own y) → c ≠ x := fun c y r z => by subst z; rw [r] at mu; exact mu
  have ntup : ∀ c xs, H c = some (.tup xs) → c ≠ x := fun c xs r z => by subst z; rw [r] at mu; exact mu
  by_cases hb : b = x
  · subst hb; rw [upd_same] at q; cases q; exact new
  · rw [upd_ne hb] at q
    by_cases hbe : b = e
    · have q' : H b = some (.own x) := by
        rcases he with z | z
        · exact absurd (hbe.trans z) hb
        · rw [hbe]; exact z
      rw [q] at q'; cases q'
      obtain ⟨v, hv⟩ := heo
      exact ⟨v, by rw [hbe]; exact hv⟩
    · refine (ok b u q).stay (fun c v hc r => k c v ?_ r) (fun c r => by rw [upd_ne (nown c b r)]; exact r) fun c xs r => by rw [upd_ne (ntup c xs r)]; exact r
      rcases hc with rfl | hc
      · exact hbe
      · rintro rfl
        rcases he with z | z
        · exact nown c b hc z
        · rw [hc] at z; cases z; exact hb rfl
end

/-! ### kept unless tracked; of the frames at fs (the callers') the slots may change (an exception that passes writes there); of the records at ex (iterators) nothing is said -/
structure Un (fs ex : List Addr) (H H' : Hp) (h h' : Heap) : Prop where
  keep : ∀ b o, h.get? b = some o → H b = none → b ∉ fs → b ∉ ex → h'.get? b = some o
  slot : ∀ b o, h.get? b = some o → H b = none → b ∈ fs → b ∉ ex → ∃ sl, h'.get? b = some { o with slots := sl }
  free : ∀ b o, h.get? b = some o → H b = none → b ∉ ex → H' b = none
  there : ∀ b o, h.get? b = some o → b ∉ ex → ∃ o', h'.get? b = some o'
  tups : ∀ b xs, H b = some (.tup xs) → H' b = some (.tup xs)
  frzs : ∀ b o u, H b = some (.frz o u) → H' b = some (.frz o u)
  tbls : ∀ b ps, H b = some (.tbl ps) → ∃ more, H' b = some (.tbl (ps ++ more))
section
variable {fs fs' ex ex' : List Addr} {H H1 H2 : Hp} {h h1 h2 h' : Heap} {a x e : Addr} {o : HO}
theorem Un.any (u : Un fs ex H H1 h h1) {b : Addr} {ob : Obj} (q : h.get? b = some ob) (n : H b = none) (hx : b ∉ ex) : ∃ sl, h1.get? b = some { ob with slots := sl } := by
  by_cases hb : b ∈ fs
  · exact u.slot b ob q n hb hx
  · exact ⟨ob.slots, u.keep b ob q n hb hx⟩
theorem Un.trans (a : Un fs ex H H1 h h1) (b : Un fs ex H1 H2 h1 h2) : Un fs ex H H2 h h2 where
  keep := fun c ob q n hc hx => b.keep c ob (a.keep c ob q n hc hx) (a.free c ob q n hx) hc hx
  slot := fun c ob q n hc hx => by
    obtain ⟨sl, e1⟩ := a.slot c ob q n hc hx
    obtain ⟨sl', e2⟩ := b.slot c _ e1 (a.free c ob q n hx) hc hx
    exact ⟨sl', e2⟩
  free := fun c ob q n hx => by
    obtain ⟨o', e1⟩ := a.there c ob q hx
    exact b.free c o' e1 (a.free c ob q n hx) hx
  there := fun c ob q hx => by
    obtain ⟨o', e1⟩ := a.there c ob q hx
    exact b.there c o' e1 hx
  tups := fun c xs q => b.tups c xs (a.tups c xs q)
  frzs := fun c ob xs q => b.frzs c ob xs (a.frzs c ob xs q)
  tbls := fun c ps q => by
    obtain ⟨m1, e1⟩ := a.tbls c ps q
    obtain ⟨m2, e2⟩ := b.tbls c _ e1
    exact ⟨m1 ++ m2, by rw [e2, Array.append_assoc]⟩
theorem Un.kept (k : ∀ b u, h.get? b = some u → h'.get? b = some u) : Un fs ex H H h h' :=
  ⟨fun b ob q _ _ _ => k b ob q, fun b ob q _ _ _ => ⟨ob.slots, k b ob q⟩, fun _ _ _ n _ => n, fun b ob q _ => ⟨ob, k b ob q⟩, fun _ _ q => q, fun _ _ _ q => q, fun _ ps q => ⟨#[], by rw [q]; simp⟩⟩
theorem Un.refl : Un fs ex H H h h := Un.kept fun _ _ q => q
theorem Un.laid (k : ∀ b u, h.get? b = some u → h'.get? b = some u) (hp : h.objs.size ≤ a) (hn : H a = none) : Un fs ex H (upd H a o) h h' where
  keep := fun b u q _ _ _ => k b u q
  slot := fun b u q _ _ _ => ⟨u.slots, k b u q⟩
  free := fun b u q n _ => by rw [upd_ne (Nat.ne_of_lt (Nat.lt_of_lt_of_le (Heap.lt_size q) hp))]; exact n
  there := fun b u q _ => ⟨u, k b u q⟩
  tups := fun b xs q => by rw [upd_ne (ne_of_none q hn)]; exact q
  frzs := fun b u xs q => by rw [upd_ne (ne_of_none q hn)]; exact q
  tbls := fun b ps q => ⟨#[], by rw [upd_ne (ne_of_none q hn), q]; simp⟩
theorem Un.write (mu : Mut (H x)) (he : e = x ∨ H e = some (.own x)) (k : ∀ b u, b ≠ e → h.get? b = some u → h'.get? b = some u) (heo : ∃ u, h'.get? e = some u) : Un fs ex H (upd H x o) h h' := by
  have hx : ∀ b, H b = none → b ≠ x := fun b n z => by subst z; rw [n] at mu; exact mu
  have hb : ∀ b, H b = none → b ≠ e := fun b n z => by
    subst z
    rcases he with r | r
    · exact hx b n r
    · rw [n] at r; cases r
  have hm : ∀ b u, H b = some u → ¬ Mut (some u) → b ≠ x := fun b u q nm z => by subst z; rw [q] at mu; exact nm mu
  refine ⟨fun b u q n _ _ => k b u (hb b n) q, fun b u q n _ _ => ⟨u.slots, k b u (hb b n) q⟩, fun b u q n _ => by rw [upd_ne (hx b n)]; exact n, fun b u q _ => ?_,
    fun b xs q => by rw [upd_ne (hm b _ q fun z => z)]; exact q, fun b u xs q => by rw [upd_ne (hm b _ q fun z => z)]; exact q, fun b ps q => ⟨#[], by rw [upd_ne (hm b _ q fun z => z), q]; simp⟩⟩
  by_cases hbe : b = e
  · subst hbe; exact heo
  · exact ⟨u, k b u hbe q⟩
theorem Un.mono (u : Un fs ex H H1 h h1) (hs : ∀ b ∈ fs, b ∈ fs') (hx : ∀ b ∈ ex, b ∈ ex') : Un fs' ex' H H1 h h1 :=
  ⟨fun b ob q n hb he => u.keep b ob q n (fun z => hb (hs b z)) fun z => he (hx b z), fun _ _ q n _ he => u.any q n fun z => he (hx _ z), fun b ob q n he => u.free b ob q n fun z => he (hx b z), fun b ob q he => u.there b ob q fun z => he (hx b z), u.tups, u.frzs, u.tbls⟩
end

/-! ### the heap without what is tracked -/
def trk (h : Heap) (H : Hp) : List Addr := (List.range h.objs.size).filter fun a => (H a).isSome
def hidT (h : Heap) (H : Hp) : Heap := PySem.W.hideAll h (trk h H)
theorem hidT_size (h : Heap) (H : Hp) : (hidT h H).objs.size = h.objs.size := PySem.W.hideAll_size _ _
theorem hidT_get {h : Heap} {H : Hp} {b : Addr} {o : Obj} (e : h.get? b = some o) (n : H b = none) : (hidT h H).get? b = some o :=
  PySem.W.hideAll_get _ e fun hm => by
    have q : (H b).isSome = true := (List.mem_filter.mp hm).2
    rw [n] at q; simp at q
theorem of_hidT {h : Heap} {H : Hp} {b : Addr} {o : Obj} (e : (hidT h H).get? b = some o) : h.get? b = some o ∧ H b = none := by
  have e' : h.get? b = some o := PySem.W.of_hideAll (trk h H) e
  refine ⟨e', ?_⟩
  cases q : H b with
  | none => rfl
  | some x =>
    have hm : b ∈ trk h H := List.mem_filter.mpr ⟨List.mem_range.mpr (Heap.lt_size e'), by simp [q]⟩
    have z : (hidT h H).get? b = none := PySem.W.hideAll_none (trk h H) hm
    rw [z] at e; cases e

/-! ### OpenK's ledger, filled with every new object but one -/
def allNews (g h : Heap) (L : Addr) : List (Addr × Obj) := (List.range h.objs.size).filterMap fun a => if a = L ∨ (g.get? a).isSome = true then none else (h.get? a).map fun o => (a, o)
def rest (g h : Heap) (L d : Addr) : List (Addr × Obj) := (allNews g h L).filter fun p => decide (p.1 ≠ d)
end L2

namespace L2
open PySem PySem.Spec PyProof.Rows

/-- the module's facts, over the base: the heap at the law's entry without what is tracked there -/
structure Mod (K : PySem.W.Frag) (mg : Str → Option Value) (base : Heap) : Prop where
  kin : K.In base
  glob : base.Ns mainGlobals mg
  blt : ∃ mb, base.Ns builtinsNs mb ∧ ∀ x : Str, x ≠ "__name__" → mb x = bootBuiltins x
  nolimit : base.NoLimit

/-- the context: a def's body (or a comprehension's block) running. base: fixed through the whole law; s₀, H₀: the entry; outer: the frames whose slots others may change (a def's callers); stack: all frames that run;
   ex: iterators that were made ahead of the entry and are walked here (a comprehension's); fn: the names whose cells were made at the entry (a def: all; a comprehension's block: its own); calm: not within an except suite; pn: pins that every state bears; xe: what is wanted of an exception that leaves the code -/
structure Cx where
  prog : Program
  w : World
  K : PySem.W.Frag
  mg : Str → Option Value
  base : Heap
  A : Around
  N : List Str
  s₀ : Shared
  H₀ : Hp
  env : Env
  outer : List Env
  stack : List Env
  ex : List Addr
  fn : Str → Bool
  calm : Bool
  pn : List (Addr × Obj)
  xe : Value → Shared → Prop
/-- the callers' frames -/
def frs (l : List Env) : List Addr := l.filterMap (·.frame)
abbrev Cx.fs (X : Cx) : List Addr := frs X.outer

def Vis (sc : Scope) (x : Str) : Prop := sc.names.lookup x = some .local ∨ sc.names.lookup x = some .cell ∨ sc.names.lookup x = some .free
def Loc (sc : Scope) (x : Str) : Prop := sc.names.lookup x = some .local ∨ sc.names.lookup x = some .cell
def Look (env : Env) (h : Heap) (m : Str → Option Value) (x : Str) (u : Value) : Prop :=
  (env.kindOf x = some .local ∧ m x = some u) ∨ ((env.kindOf x = some .cell ∨ env.kindOf x = some .free) ∧ ∃ c, env.cells.lookup x = some c ∧ h.IsCell c (some u))

structure Cx.Ok (X : Cx) : Prop where
  mod : Mod X.K X.mg X.base
  kind : X.env.scope.kind = .function
  glob : X.env.globals = mainGlobals
  blt : X.env.builtins = builtinsNs
  above : X.s₀.heap.objs.size ≤ X.env.locals
  inj : ∀ x y c, X.env.cells.lookup x = some c → X.env.cells.lookup y = some c → x = y
  has : ∀ x, (X.env.kindOf x = some .cell ∨ X.env.kindOf x = some .free) → ∃ c, X.env.cells.lookup x = some c
  cab : ∀ x c, X.fn x = true → X.env.cells.lookup x = some c → X.s₀.heap.objs.size ≤ c
  hd : X.calm = true → X.A.handled = none
  frames : X.A.frames = some X.stack
  stk : X.stack = X.outer ∨ (X.stack = X.env :: X.outer ∧ X.env.frame = some X.env.locals)
  exf : ∀ b ∈ X.ex, b ≠ X.env.locals ∧ ∀ x c, X.env.cells.lookup x = some c → c ≠ b
  bs : ∀ b o, X.base.get? b = some o → X.s₀.heap.get? b = some o ∧ X.H₀ b = none
  bsz : X.base.objs.size ≤ X.s₀.heap.objs.size
  noex : ∀ b o, X.base.get? b = some o → b ∉ X.ex
  exfs : ∀ b ∈ X.ex, b ∉ X.fs
  funs : X.s₀.heap.FunFrames X.base X.outer
  frf : ∀ b ∈ X.fs, X.H₀ b = none

structure Inv (X : Cx) (pins : List (Addr × Obj)) (σ : List (Option V)) (H : Hp) (s : Shared) : Prop where
  ok : X.Ok
  os : s.os = X.s₀.os
  bare : AllBare s.gens
  base : Un X.fs X.ex X.H₀ H X.s₀.heap s.heap
  loc : ∃ m, s.heap.Ns X.env.locals m ∧ ∀ (i : Nat) (x : Str) (v : V), X.N[i]? = some x → σ[i]? = some (some v) → Vis X.env.scope x → ∃ u, RelV v u ∧ Look X.env s.heap m x u
  cell : ∀ x c, X.env.cells.lookup x = some c → ∃ v, s.heap.IsCell c v
  free : H X.env.locals = none
  freeC : ∀ x c, X.env.cells.lookup x = some c → H c = none
  pin : ∀ p ∈ X.pn ++ pins, s.heap.get? p.1 = some p.2 ∧ H p.1 = none ∧ p.1 ≠ X.env.locals ∧ p.1 ∉ X.fs ∧ ∀ v, p.2.data ≠ .cell v
  hok : HOk X.prog X.w H s.heap
  len : σ.length = X.N.length

section
variable {X : Cx} {pins : List (Addr × Obj)} {σ : List (Option V)} {H H' : Hp} {s : Shared} {h' : Heap}

theorem Cx.Ok.nofr (ok : X.Ok) {b : Addr} {o : Obj} (e : X.base.get? b = some o) : b ∉ X.fs := fun hb => by
  have := (ok.funs.mem hb).1
  rw [e] at this; cases this
theorem Inv.bs (I : Inv X pins σ H s) : ∀ b o, X.base.get? b = some o → s.heap.get? b = some o ∧ H b = none := fun b o e =>
  ⟨I.base.keep b o (I.ok.bs b o e).1 (I.ok.bs b o e).2 (I.ok.nofr e) (I.ok.noex b o e), I.base.free b o (I.ok.bs b o e).1 (I.ok.bs b o e).2 (I.ok.noex b o e)⟩
theorem Inv.bk (I : Inv X pins σ H s) : ∀ b o, X.base.get? b = some o → s.heap.get? b = some o := fun b o e => (I.bs b o e).1
theorem Inv.mod (I : Inv X pins σ H s) : Mod X.K X.mg X.base := I.ok.mod
theorem Inv.kIn (I : Inv X pins σ H s) : X.K.In s.heap := I.ok.mod.kin.keeps I.bk
theorem Inv.nolimit (I : Inv X pins σ H s) : s.heap.NoLimit := I.ok.mod.nolimit.keeps I.bk
/-- the frame over the base: for OpenK's rules (K.In X.base is I.mod.kin) -/
theorem Inv.fr (I : Inv X pins σ H s) : ∃ m, Fr X.base X.env.locals s.heap m :=
  let ⟨m, hn, _⟩ := I.loc
  ⟨m, hn, I.bk, Nat.le_trans I.ok.bsz I.ok.above⟩
theorem Inv.lt (I : Inv X pins σ H s) : X.env.locals < s.heap.objs.size := let ⟨_, hn, _⟩ := I.loc; hn.lt
theorem Inv.sz (I : Inv X pins σ H s) : X.s₀.heap.objs.size ≤ s.heap.objs.size := Nat.le_trans I.ok.above (Nat.le_of_lt I.lt)
theorem Inv.nofs (I : Inv X pins σ H s) {a : Addr} (h : s.heap.objs.size ≤ a) : a ∉ X.fs := fun hb => by
  obtain ⟨_, o, ho, _⟩ := I.ok.funs.mem hb
  exact absurd (Nat.lt_of_lt_of_le (Heap.lt_size ho) (Nat.le_trans I.sz h)) (Nat.lt_irrefl _)
theorem Inv.cne (I : Inv X pins σ H s) : ∀ x c, X.env.cells.lookup x = some c → c ≠ X.env.locals := fun x c e z => by
  obtain ⟨v, o, ho, hd⟩ := I.cell x c e
  obtain ⟨m, ⟨o', es, ep, ho', hd', _⟩, _⟩ := I.loc
  rw [z, ho'] at ho; cases ho; rw [hd'] at hd; cases hd
theorem Inv.funs (I : Inv X pins σ H s) : s.heap.FunFrames X.base X.outer := by
  have all : ∀ (l : List Env), (∀ b ∈ frs l, b ∈ X.fs) → X.s₀.heap.FunFrames X.base l → s.heap.FunFrames X.base l := by
    intro l
    induction l with
    | nil => intro _ _; trivial
    | cons env r ih =>
      intro hs hl
      obtain ⟨hk, ⟨L, o, hf, hn, ho, hd⟩, hr⟩ := hl
      have hL : L ∈ X.fs := hs L (by unfold frs; rw [List.filterMap_cons, hf]; exact List.mem_cons_self)
      obtain ⟨sl, e⟩ := I.base.slot L o ho (I.ok.frf L hL) hL fun z => I.ok.exfs L z hL
      exact ⟨hk, ⟨L, _, hf, hn, e, hd⟩, ih (fun b hb => hs b (by unfold frs; rw [List.filterMap_cons, hf]; exact List.mem_cons_of_mem _ hb)) hr⟩
  exact all X.outer (fun _ hb => hb) I.ok.funs

/-- the frames that run, for a call -/
theorem Inv.stack (I : Inv X pins σ H s) : s.heap.FunFrames X.base X.stack := by
  rcases I.ok.stk with e | ⟨e, hf⟩
  · rw [e]; exact I.funs
  · rw [e]
    obtain ⟨m, hn, _⟩ := I.loc
    refine .cons (by rw [I.ok.kind]; decide) hf hn ?_ I.funs
    exact Heap.get?_none_of_le (Nat.le_trans I.ok.bsz I.ok.above)
theorem Inv.stkSub (I : Inv X pins σ H s) : ∀ b ∈ frs X.stack, b ∈ X.env.locals :: X.fs := fun b hb => by
  rcases I.ok.stk with e | ⟨e, hf⟩
  · rw [e] at hb; exact List.mem_cons_of_mem _ hb
  · rw [e] at hb
    unfold frs at hb
    rw [List.filterMap_cons, hf] at hb
    exact hb
theorem Inv.stkFree (I : Inv X pins σ H s) : ∀ b ∈ frs X.stack, H b = none := fun b hb => by
  rcases List.mem_cons.mp (I.stkSub b hb) with e | hb
  · rw [e]; exact I.free
  · obtain ⟨_, o, ho, _⟩ := I.ok.funs.mem hb
    exact I.base.free b o ho (I.ok.frf b hb) fun z => I.ok.exfs b z hb

/-- THE STEP: the untracked objects but the frame and the records at ch are kept (the callers' frames up to slots), the frame's map is kept, the new abstract heap is held -/
theorem Inv.step {g' : Array GenState} {t' : Nat} {d' : Drawn} {ch : List Addr} (I : Inv X pins σ H s)
    (hch : ∀ b ∈ ch, (b ∈ X.ex ∨ X.s₀.heap.objs.size ≤ b) ∧ b ≠ X.env.locals ∧ (∀ x c, X.env.cells.lookup x = some c → c ≠ b) ∧ ∀ p ∈ X.pn ++ pins, p.1 ≠ b)
    (keep : ∀ b o, b ≠ X.env.locals → b ∉ X.fs → b ∉ ch → s.heap.get? b = some o → H b = none → h'.get? b = some o)
    (slot : ∀ b o, b ≠ X.env.locals → b ∈ X.fs → b ∉ ch → s.heap.get? b = some o → H b = none → ∃ sl, h'.get? b = some { o with slots := sl }) (free : ∀ b o, b ∉ ch → s.heap.get? b = some o → H b = none → H' b = none)
    (there : ∀ b o, b ∉ ch → s.heap.get? b = some o → ∃ o', h'.get? b = some o')
    (tups : ∀ b xs, H b = some (.tup xs) → H' b = some (.tup xs)) (frzs : ∀ b o u, H b = some (.frz o u) → H' b = some (.frz o u)) (tbls : ∀ b ps, H b = some (.tbl ps) → ∃ more, H' b = some (.tbl (ps ++ more)))
    (ns : ∀ m, s.heap.Ns X.env.locals m → h'.Ns X.env.locals m) (hok : HOk X.prog X.w H' h') (hg : AllBare g') :
    Inv X pins σ H' { s with heap := h', gens := g', drawn := d', toks := t' } := by
  have neL : ∀ b o, X.s₀.heap.get? b = some o → b ≠ X.env.locals := fun b o e => Nat.ne_of_lt (Nat.lt_of_lt_of_le (Heap.lt_size e) I.ok.above)
  have neC : ∀ b o, X.s₀.heap.get? b = some o → b ∉ X.ex → b ∉ ch := fun b o e hx hb => by
    rcases (hch b hb).1 with z | z
    · exact hx z
    · exact absurd (Nat.lt_of_lt_of_le (Heap.lt_size e) z) (Nat.lt_irrefl _)
  have cellK : ∀ x c, X.env.cells.lookup x = some c → ∀ v, s.heap.IsCell c v → h'.IsCell c v := fun x c e v ⟨o, ho, hd⟩ => by
    have nch : c ∉ ch := fun z => (hch c z).2.2.1 x c e rfl
    by_cases hc : c ∈ X.fs
    · obtain ⟨sl, q⟩ := slot c o (I.cne x c e) hc nch ho (I.freeC x c e)
      exact ⟨_, q, hd⟩
    · exact ⟨o, keep c o (I.cne x c e) hc nch ho (I.freeC x c e), hd⟩
  refine ⟨I.ok, I.os, hg, ⟨fun b o e n hb hx => ?_, fun b o e n hb hx => ?_, fun b o e n hx => ?_, fun b o e hx => ?_, fun b xs e => tups b xs (I.base.tups b xs e), fun b o xs e => frzs b o xs (I.base.frzs b o xs e), fun b ps e => ?_⟩, ?_, fun x c e => ?_, ?_, fun x c e => ?_, fun p hp => ?_, hok, I.len⟩
  · exact keep b o (neL b o e) hb (neC b o e hx) (I.base.keep b o e n hb hx) (I.base.free b o e n hx)
  · obtain ⟨sl, e1⟩ := I.base.slot b o e n hb hx
    obtain ⟨sl', e2⟩ := slot b _ (neL b o e) hb (neC b o e hx) e1 (I.base.free b o e n hx)
    exact ⟨sl', e2⟩
  · obtain ⟨o', e1⟩ := I.base.there b o e hx
    exact free b o' (neC b o e hx) e1 (I.base.free b o e n hx)
  · obtain ⟨o', e1⟩ := I.base.there b o e hx
    exact there b o' (neC b o e hx) e1
  · obtain ⟨m1, e1⟩ := I.base.tbls b ps e
    obtain ⟨m2, e2⟩ := tbls b _ e1
    exact ⟨m1 ++ m2, by rw [e2, Array.append_assoc]⟩
  · obtain ⟨m, hn, hl⟩ := I.loc
    refine ⟨m, ns m hn, fun i x v e1 e2 e3 => ?_⟩
    obtain ⟨u, r, l⟩ := hl i x v e1 e2 e3
    refine ⟨u, r, ?_⟩
    rcases l with l | ⟨k, c, e, z⟩
    · exact .inl l
    · exact .inr ⟨k, c, e, cellK x c e _ z⟩
  · obtain ⟨v, z⟩ := I.cell x c e
    exact ⟨v, cellK x c e v z⟩
  · obtain ⟨m, ⟨o, _, _, ho, _⟩, _⟩ := I.loc
    exact free _ o (fun z => (hch _ z).2.1 rfl) ho I.free
  · obtain ⟨v, o, ho, hd⟩ := I.cell x c e
    exact free c o (fun z => (hch c z).2.2.1 x c e rfl) ho (I.freeC x c e)
  · obtain ⟨e, n, ne, nf, d⟩ := I.pin p hp
    have nch : p.1 ∉ ch := fun z => (hch p.1 z).2.2.2 p hp rfl
    exact ⟨keep p.1 p.2 ne nf nch e n, free p.1 p.2 nch e n, ne, nf, d⟩
/-- .. where the frame's own object is kept too -/
theorem Inv.un {t' : Nat} (I : Inv X pins σ H s) (u : Un X.fs [] H H' s.heap h') (hok : HOk X.prog X.w H' h') : Inv X pins σ H' { s with heap := h', toks := t' } := by
  obtain ⟨m, ⟨o, es, ep, ho, r⟩, _⟩ := id I.loc
  obtain ⟨sl, hL⟩ := u.any ho I.free (by simp)
  exact I.step (g' := s.gens) (d' := s.drawn) (ch := []) (fun _ z => nomatch z) (fun b o _ hb _ e n => u.keep b o e n hb (by simp)) (fun b o _ hb _ e n => u.slot b o e n hb (by simp)) (fun b o _ e n => u.free b o e n (by simp)) (fun b o _ e => u.there b o e (by simp)) u.tups u.frzs u.tbls (fun m' hm => by
    obtain ⟨o', es', ep', ho', r'⟩ := hm
    rw [ho] at ho'; cases ho'
    exact ⟨_, es', ep', hL, r'⟩) hok I.bare
/-- behind a call (or a comprehension's block): the slots of this frame may have changed too, the records at ch may have turned -/
theorem Inv.call {g' : Array GenState} {t' : Nat} {d' : Drawn} {ch : List Addr} (I : Inv X pins σ H s) (u : Un (frs X.stack) ch H H' s.heap h') (hok : HOk X.prog X.w H' h') (hg : AllBare g')
    (hch : ∀ b ∈ ch, (b ∈ X.ex ∨ X.s₀.heap.objs.size ≤ b) ∧ b ≠ X.env.locals ∧ (∀ x c, X.env.cells.lookup x = some c → c ≠ b) ∧ ∀ p ∈ X.pn ++ pins, p.1 ≠ b) :
    Inv X pins σ H' { s with heap := h', gens := g', drawn := d', toks := t' } := by
  obtain ⟨m, ⟨o, es, ep, ho, r⟩, _⟩ := id I.loc
  obtain ⟨sl, hL⟩ := u.any ho I.free fun z => (hch _ z).2.1 rfl
  exact I.step (ch := ch) hch (fun b o hL hb hc e n => u.keep b o e n (fun z => (List.mem_cons.mp (I.stkSub b z)).elim hL hb) hc) (fun b o _ _ hc e n => u.any e n hc) (fun b o hc e n => u.free b o e n hc) (fun b o hc e => u.there b o e hc) u.tups u.frzs u.tbls (fun m' hm => by
    obtain ⟨o', es', ep', ho', r'⟩ := hm
    rw [ho] at ho'; cases ho'
    exact ⟨_, es', ep', hL, r'⟩) hok hg
/-- an untracked record of ours (an iterator) has turned -/
theorem Inv.turned {t' : Nat} {it : Addr} (I : Inv X pins σ H s) (k : ∀ b o, b ≠ it → s.heap.get? b = some o → h'.get? b = some o) (hn : H it = none) (hL : it ≠ X.env.locals)
    (h1 : it ∈ X.ex ∨ X.s₀.heap.objs.size ≤ it) (h2 : ∀ x c, X.env.cells.lookup x = some c → c ≠ it) (h3 : ∀ p ∈ X.pn ++ pins, p.1 ≠ it) : Inv X pins σ H { s with heap := h', toks := t' } := by
  have nit : ∀ b u, H b = some u → b ≠ it := fun b u e z => by rw [z, hn] at e; cases e
  refine I.step (g' := s.gens) (d' := s.drawn) (ch := [it]) (fun b hb => ?_) (fun b o _ _ hc e _ => k b o (fun z => hc (by simp [z])) e) (fun b o _ _ hc e _ => ⟨o.slots, k b o (fun z => hc (by simp [z])) e⟩) (fun _ _ _ _ n => n)
    (fun b o hc e => ⟨o, k b o (fun z => hc (by simp [z])) e⟩) (fun _ _ e => e) (fun _ _ _ e => e) (fun b ps e => ⟨#[], by rw [e]; simp⟩) (fun m hm => ?_) (fun b u e => ?_) I.bare
  · have e : b = it := by simpa using hb
    subst e
    exact ⟨h1, hL, h2, h3⟩
  · obtain ⟨o, es, ep, ho, r⟩ := hm
    exact ⟨o, es, ep, k _ o (Ne.symm hL) ho, r⟩
  · refine (I.hok b u e).stay (fun c v hc q => k c v ?_ q) (fun _ q => q) fun _ _ q => q
    rcases hc with z | z
    · rw [z]; exact nit b u e
    · exact nit c _ z
theorem Inv.tok (I : Inv X pins σ H s) (t : Nat) : Inv X pins σ H { s with toks := t } := I.un (h' := s.heap) (t' := t) Un.refl I.hok
/-- all objects kept -/
theorem Inv.kept {t' : Nat} (I : Inv X pins σ H s) (k : ∀ b u, s.heap.get? b = some u → h'.get? b = some u) : Inv X pins σ H { s with heap := h', toks := t' } := I.un (Un.kept k) (I.hok.kept k)
/-- a new object laid and tracked -/
theorem Inv.laid {a : Addr} {o : HO} {t' : Nat} (I : Inv X pins σ H s) (k : ∀ b u, s.heap.get? b = some u → h'.get? b = some u) (hp : s.heap.objs.size ≤ a) (new : ObjOk X.prog X.w (upd H a o) h' a o) :
    Inv X pins σ (upd H a o) { s with heap := h', toks := t' } := I.un (Un.laid k hp (I.hok.fresh hp)) (I.hok.laid k hp new)
/-- an object written -/
theorem Inv.write {x e : Addr} {o : HO} {t' : Nat} (I : Inv X pins σ H s) (mu : Mut (H x)) (he : e = x ∨ H e = some (.own x)) (k : ∀ b u, b ≠ e → s.heap.get? b = some u → h'.get? b = some u) (heo : ∃ u, h'.get? e = some u)
    (new : ObjOk X.prog X.w (upd H x o) h' x o) : Inv X pins σ (upd H x o) { s with heap := h', toks := t' } := I.un (Un.write mu he k heo) (I.hok.write mu he k heo new)
theorem Inv.pins_of {pins' : List (Addr × Obj)} (I : Inv X pins σ H s) (h : ∀ p ∈ pins', s.heap.get? p.1 = some p.2 ∧ H p.1 = none ∧ p.1 ≠ X.env.locals ∧ p.1 ∉ X.fs ∧ ∀ v, p.2.data ≠ .cell v) : Inv X pins' σ H s :=
  ⟨I.ok, I.os, I.bare, I.base, I.loc, I.cell, I.free, I.freeC, fun p hp => (List.mem_append.mp hp).elim (fun z => I.pin p (List.mem_append_left _ z)) (h p), I.hok, I.len⟩

theorem nodup_ix {N : List Str} (hN : N.Nodup) {i j : Nat} {x : Str} (a : N[i]? = some x) (b : N[j]? = some x) : i = j := by
  obtain ⟨h1, e1⟩ := List.getElem?_eq_some_iff.mp a
  obtain ⟨h2, e2⟩ := List.getElem?_eq_some_iff.mp b
  exact (List.getElem_inj hN).mp (e1.trans e2.symm)

/-- a name is stored; what changed -/
theorem store_ok2 {M : Model} {A : Around} {E : Value → Shared → Prop} {i : Nat} {x : Str} {v : V} {u : Value} {Q : Unit → Shared → Prop} (I : Inv X pins σ H s) (hN : X.N.Nodup) (hi : X.N[i]? = some x) (hx : Loc X.env.scope x) (r : RelV v u)
    (h : ∀ s', Inv X pins (σ.set i (some v)) H s' → (∃ a, Heap.SameBut a s.heap s'.heap ∧ (a = X.env.locals ∨ X.env.cells.lookup x = some a)) → Q () s') (hf : X.fn x = true ∨ X.env.scope.names.lookup x = some .local := by first | exact .inl rfl | exact .inr rfl | assumption) : wpAny M A (storeName X.env x u) Q E s := by
  obtain ⟨m, hn, hl⟩ := id I.loc
  have hcls : (X.env.scope.kind == .class || (X.env.scope.kind == .module && X.env.locals != X.env.globals)) = false := by rw [I.ok.kind]; rfl
  have hiσ : i < σ.length := by rw [I.len]; exact (List.getElem?_eq_some_iff.mp hi).1
  have cne := I.cne
  have tracked : ∀ {a : Addr} {h' : Heap}, (∃ o, s.heap.get? a = some o ∧ H a = none) → Heap.SameBut a s.heap h' → HOk X.prog X.w H h' := fun {a h'} ha hs b ob e => by
    obtain ⟨_, _, hfree⟩ := ha
    refine (I.hok b ob e).stay (fun c w' hc q => (hs.2 c ?_).trans q) (fun _ q => q) fun _ _ q => q
    rintro rfl
    rcases hc with rfl | hc
    · rw [hfree] at e; cases e
    · rw [hfree] at hc; cases hc
  rcases hx with hk | hk
  · refine wpAny_storeName_local hk hn (fun h' hn' hs => ?_) hcls
    obtain ⟨oL, _, _, hoL, _⟩ := id hn
    refine h _ ⟨I.ok, I.os, I.bare, ⟨fun b o e n hb hx => ?_, fun b o e n hb hx => ?_, I.base.free, fun b o e hx => ?_, I.base.tups, I.base.frzs, I.base.tbls⟩, ⟨_, hn', fun j y v' e1 e2 e3 => ?_⟩, fun y c e => ?_, I.free, I.freeC, fun p hp => ?_, tracked ⟨oL, hoL, I.free⟩ hs, by simpa using I.len⟩ ⟨_, hs, .inl rfl⟩
    · exact (hs.2 b (Nat.ne_of_lt (Nat.lt_of_lt_of_le (Heap.lt_size e) I.ok.above))).trans (I.base.keep b o e n hb hx)
    · obtain ⟨sl, e1⟩ := I.base.slot b o e n hb hx
      exact ⟨sl, (hs.2 b (Nat.ne_of_lt (Nat.lt_of_lt_of_le (Heap.lt_size e) I.ok.above))).trans e1⟩
    · obtain ⟨o', e1⟩ := I.base.there b o e hx
      exact ⟨o', (hs.2 b (Nat.ne_of_lt (Nat.lt_of_lt_of_le (Heap.lt_size e) I.ok.above))).trans e1⟩
    · by_cases hj : j = i
      · subst hj
        rw [hi] at e1; cases e1
        rw [List.getElem?_set_self hiσ] at e2
        cases e2
        exact ⟨u, r, .inl ⟨hk, by simp⟩⟩
      · rw [List.getElem?_set_ne (Ne.symm hj)] at e2
        obtain ⟨u', r', q⟩ := hl j y v' e1 e2 e3
        refine ⟨u', r', ?_⟩
        rcases q with ⟨k, e⟩ | ⟨k, c, e, z⟩
        · refine .inl ⟨k, ?_⟩
          have : y ≠ x := fun e => hj (nodup_ix hN e1 (e ▸ hi))
          simp [this, e]
        · exact .inr ⟨k, c, e, z.sameBut hs (cne y c e)⟩
    · obtain ⟨w', z⟩ := I.cell y c e
      exact ⟨w', z.sameBut hs (cne y c e)⟩
    · obtain ⟨e, n, ne, nf, d⟩ := I.pin p hp
      exact ⟨(hs.2 p.1 ne).trans e, n, ne, nf, d⟩
  · have hfn : X.fn x = true := by
      rcases hf with z | z
      · exact z
      · rw [z] at hk; cases hk
    obtain ⟨c, hc⟩ := I.ok.has x (.inl hk)
    obtain ⟨w', z⟩ := I.cell x c hc
    refine wpAny_storeName_cell I.ok.kind hk hc z (fun h' hc' hs => ?_)
    obtain ⟨oc, hoc, hocd⟩ := id z
    refine h { s with heap := h' } ⟨I.ok, I.os, I.bare, ⟨fun b o e n hb hx => ?_, fun b o e n hb hx => ?_, I.base.free, fun b o e hx => ?_, I.base.tups, I.base.frzs, I.base.tbls⟩, ⟨m, hn.sameBut hs (Ne.symm (cne x c hc)), fun j y v' e1 e2 e3 => ?_⟩, fun y c' e => ?_, I.free, I.freeC, fun p hp => ?_, tracked ⟨oc, hoc, I.freeC x c hc⟩ hs, by simpa using I.len⟩ ⟨c, hs, .inr hc⟩
    · exact (hs.2 b (Nat.ne_of_lt (Nat.lt_of_lt_of_le (Heap.lt_size e) (I.ok.cab x c hfn hc)))).trans (I.base.keep b o e n hb hx)
    · obtain ⟨sl, e1⟩ := I.base.slot b o e n hb hx
      exact ⟨sl, (hs.2 b (Nat.ne_of_lt (Nat.lt_of_lt_of_le (Heap.lt_size e) (I.ok.cab x c hfn hc)))).trans e1⟩
    · obtain ⟨o', e1⟩ := I.base.there b o e hx
      exact ⟨o', (hs.2 b (Nat.ne_of_lt (Nat.lt_of_lt_of_le (Heap.lt_size e) (I.ok.cab x c hfn hc)))).trans e1⟩
    · by_cases hj : j = i
      · subst hj
        rw [hi] at e1; cases e1
        rw [List.getElem?_set_self hiσ] at e2
        cases e2
        exact ⟨u, r, .inr ⟨.inl hk, c, hc, hc'⟩⟩
      · rw [List.getElem?_set_ne (Ne.symm hj)] at e2
        obtain ⟨u', r', q⟩ := hl j y v' e1 e2 e3
        refine ⟨u', r', ?_⟩
        rcases q with q | ⟨k, c', e, z'⟩
        · exact .inl q
        · refine .inr ⟨k, c', e, z'.sameBut hs ?_⟩
          rintro rfl
          exact hj (nodup_ix hN e1 (I.ok.inj _ _ _ e hc ▸ hi))
    · by_cases hcc : c' = c
      · subst hcc; exact ⟨_, hc'⟩
      · obtain ⟨w2, z2⟩ := I.cell y c' e
        exact ⟨w2, z2.sameBut hs hcc⟩
    · obtain ⟨e, n, ne, nf, d⟩ := I.pin p hp
      refine ⟨(hs.2 p.1 ?_).trans e, n, ne, nf, d⟩
      intro q
      rw [q, hoc] at e
      have q' : oc = p.2 := Option.some.inj e
      exact d w' (by rw [← q']; exact hocd)
theorem store_ok {M : Model} {A : Around} {E : Value → Shared → Prop} {i : Nat} {x : Str} {v : V} {u : Value} {Q : Unit → Shared → Prop} (I : Inv X pins σ H s) (hN : X.N.Nodup) (hi : X.N[i]? = some x) (hx : Loc X.env.scope x) (r : RelV v u)
    (h : ∀ s', Inv X pins (σ.set i (some v)) H s' → Q () s') (hf : X.fn x = true ∨ X.env.scope.names.lookup x = some .local := by first | exact .inl rfl | exact .inr rfl | assumption) : wpAny M A (storeName X.env x u) Q E s :=
  store_ok2 I hN hi hx r (fun s' I' _ => h s' I') hf
/-- behind a call or a block, the state as it is -/
theorem Inv.call' {s' : Shared} {ch : List Addr} (I : Inv X pins σ H s) (ho : s'.os = s.os) (u : Un (frs X.stack) ch H H' s.heap s'.heap) (hok : HOk X.prog X.w H' s'.heap) (hg : AllBare s'.gens)
    (hch : ∀ b ∈ ch, (b ∈ X.ex ∨ X.s₀.heap.objs.size ≤ b) ∧ b ≠ X.env.locals ∧ (∀ x c, X.env.cells.lookup x = some c → c ≠ b) ∧ ∀ p ∈ X.pn ++ pins, p.1 ≠ b) : Inv X pins σ H' s' := by
  obtain ⟨h', g', d', t', o'⟩ := s'
  have e : o' = s.os := ho
  subst e
  exact I.call (g' := g') (t' := t') (d' := d') u hok hg hch
end

/-! ### the judgements -/
/-- an exception: its class, its own dict's address (where it has one), the abstract heap behind it -/
abbrev XK := Value → Option Addr → Hp → Prop
abbrev St := List (Option V)
abbrev VK := V → Hp → Prop
/-- an expression's reading; a test's; an argument list's -/
abbrev TE := St → Hp → VK → Prop
abbrev TT := St → Hp → (Bool → Hp → Prop) → Prop
abbrev TA := St → Hp → (List V → Hp → Prop) → Prop
/-- what is wanted behind a statement -/
structure Ends where
  nx : St → Hp → Prop
  rt : VK
  bk : St → Hp → Prop := fun _ _ => False
  ct : St → Hp → Prop := fun _ _ => False
abbrev TS := Ends → St → Hp → Prop

def EP (X : Cx) (pins : List (Addr × Obj)) (σ : St) (Q : VK) (u : Value) (s' : Shared) : Prop := ∃ v H', Inv X pins σ H' s' ∧ RelV v u ∧ Q v H'
def TP (X : Cx) (pins : List (Addr × Obj)) (σ : St) (Q : Bool → Hp → Prop) (b : Bool) (s' : Shared) : Prop := ∃ H', Inv X pins σ H' s' ∧ Q b H'
def AP (X : Cx) (pins : List (Addr × Obj)) (σ : St) (Q : List V → Hp → Prop) (us : List Value) (s' : Shared) : Prop := ∃ vs H', Inv X pins σ H' s' ∧ Vals vs us ∧ Q vs H'
def SP (X : Cx) (pins : List (Addr × Obj)) (D : Ends) (f : Flow) (s' : Shared) : Prop :=
  match f with
  | .next => ∃ σ' H', Inv X pins σ' H' s' ∧ D.nx σ' H'
  | .brk => ∃ σ' H', Inv X pins σ' H' s' ∧ D.bk σ' H'
  | .cont => ∃ σ' H', Inv X pins σ' H' s' ∧ D.ct σ' H'
  | .ret u => ∃ v σ' H', Inv X pins σ' H' s' ∧ RelV v u ∧ D.rt v H'

def PE (X : Cx) (e : Expr) (t : TE) : Prop :=
  ∀ (pins : List (Addr × Obj)) (s : Shared) (σ : St) (H : Hp) (Q : VK), Inv X pins σ H s → t σ H Q → wpAny (model X.prog X.w) X.A (eval e X.env) (EP X pins σ Q) X.xe s
def PT (X : Cx) (e : Expr) (t : TT) : Prop :=
  ∀ (pins : List (Addr × Obj)) (s : Shared) (σ : St) (H : Hp) (Q : Bool → Hp → Prop), Inv X pins σ H s → t σ H Q → wpAny (model X.prog X.w) X.A (isTrue e X.env (eval e X.env)) (TP X pins σ Q) X.xe s
/-- a test whatever its 'whole' is (and, or) -/
def PW (X : Cx) (e : Expr) (t : TT) : Prop :=
  ∀ (whole : Sem Value) (pins : List (Addr × Obj)) (s : Shared) (σ : St) (H : Hp) (Q : Bool → Hp → Prop), Inv X pins σ H s → t σ H Q → wpAny (model X.prog X.w) X.A (isTrue e X.env whole) (TP X pins σ Q) X.xe s
theorem PW.pt {X : Cx} {e : Expr} {t : TT} (h : PW X e t) : PT X e t := h _
/-- an argument list (no star), from the left -/
def PA (X : Cx) (es : List Expr) (t : TA) : Prop :=
  ∀ (pos : Pos) (pins : List (Addr × Obj)) (s : Shared) (σ : St) (H : Hp) (Q : List V → Hp → Prop), Inv X pins σ H s → t σ H Q → wpAny (model X.prog X.w) X.A (spliced (backTo pos (starEach es X.env))) (AP X pins σ Q) X.xe s
def PS (X : Cx) (st : Stmt) (t : TS) : Prop :=
  ∀ (pins : List (Addr × Obj)) (s : Shared) (σ : St) (H : Hp) (D : Ends), Inv X pins σ H s → t D σ H → wpAny (model X.prog X.w) X.A (exec st X.env) (SP X pins D) X.xe s
def PSs (X : Cx) (st : List Stmt) (t : TS) : Prop :=
  ∀ (pins : List (Addr × Obj)) (s : Shared) (σ : St) (H : Hp) (D : Ends), Inv X pins σ H s → t D σ H → wpAny (model X.prog X.w) X.A (execs st X.env) (SP X pins D) X.xe s
/-- weaken the end -/
theorem thn {α : Type} {t : Sem α} {Q Q' : α → Shared → Prop} {M : Model} {A : Around} {E : Value → Shared → Prop} {s : Shared} (h : wpAny M A t Q E s) (hQ : ∀ a s, Q a s → Q' a s) : wpAny M A t Q' E s := wpAny_mono h hQ fun _ _ x => x
end L2

namespace L2
open PySem PySem.Spec PyProof.Rows
section
variable {X : Cx}

/-! ### names and constants -/
def tVar (i : Nat) : TE := fun σ H Q => ∃ v, σ[i]? = some (some v) ∧ Q v H
def tC (v : V) : TE := fun _ H Q => Q v H
theorem pe_var {i : Nat} {x : Str} {pos : Pos} (hN : X.N[i]? = some x) (hv : Vis X.env.scope x) (hd : (x == ("__debug__" : Str)) = false := by decide) (hcd : (x == ("__classdict__" : Str)) = false := by decide) : PE X (.Name x pos) (tVar i) := by
  intro pins s σ H Q I h
  obtain ⟨v, e, h⟩ := h
  obtain ⟨m, hn, hl⟩ := I.loc
  obtain ⟨u, r, l⟩ := hl i x v hN e hv
  have fin : EP X pins σ Q u s := ⟨v, H, I, r, h⟩
  rcases l with ⟨hk, hm⟩ | ⟨hk, c, hc, hcell⟩
  · exact wpAny_Name (wpAny_loadName_local I.ok.kind hk hn hm fin) hd
  · rcases hk with hk | hk
    · exact wpAny_Name (wpAny_loadName_cell I.ok.kind hk hc hcell fin) hd
    · exact wpAny_Name (wpAny_loadName_free I.ok.kind hk hc hcell fin hcd) hd
theorem pe_int {i j pos} : PE X (.Constant (.int i) j pos) (tC (.int i)) := fun _ _ _ H _ I h => wpAny_Constant_int ⟨.int i, H, I.tok _, ⟨_, rfl⟩, h⟩
theorem pe_bl {b j pos} : PE X (.Constant (.bool b) j pos) (tC (.bl b)) := fun _ _ _ H _ I h => Constant_bool ⟨.bl b, H, I, rfl, h⟩
theorem pe_non {j pos} : PE X (.Constant .none j pos) (tC .non) := fun _ _ _ H _ I h => Constant_none ⟨.non, H, I, rfl, h⟩
theorem pe_str {x j pos} : PE X (.Constant (.str x) j pos) (tC (.str x)) := fun _ _ _ H _ I h => Calls.Constant_str ⟨.str x, H, I.tok _, ⟨_, rfl⟩, h⟩

/-- a global name of the def -/
def Gl (X : Cx) (x : Str) : Prop := X.env.kindOf x = some .globalImplicit
theorem ld_glob {E : Value → Shared → Prop} {pins : List (Addr × Obj)} {s : Shared} {σ : St} {H : Hp} {x : Str} {u : Value} {pos : Pos} {Q : Value → Shared → Prop} (I : Inv X pins σ H s) (hg : Gl X x) (hm : X.mg x = some u) (h : Q u s)
    (hd : (x == ("__debug__" : Str)) = false := by decide) : wpAny (model X.prog X.w) X.A (eval (.Name x pos) X.env) Q E s :=
  Calls.Name_function_global I.ok.kind hg (Calls.loadGlobal_global (by rw [I.ok.glob]; exact I.mod.glob.keeps I.bk) hm h) hd
theorem ld_blt {E : Value → Shared → Prop} {pins : List (Addr × Obj)} {s : Shared} {σ : St} {H : Hp} {x : Str} {u : Value} {pos : Pos} {Q : Value → Shared → Prop} (I : Inv X pins σ H s) (hg : Gl X x) (hm : X.mg x = none) (hv : bootBuiltins x = some u) (h : Q u s)
    (hn : x ≠ "__name__" := by decide) (hd : (x == ("__debug__" : Str)) = false := by decide) : wpAny (model X.prog X.w) X.A (eval (.Name x pos) X.env) Q E s := by
  obtain ⟨mb, h1, h2⟩ := I.mod.blt
  exact Calls.Name_function_global I.ok.kind hg (Calls.loadGlobal_builtin (by rw [I.ok.glob]; exact I.mod.glob.keeps I.bk) hm (by rw [I.ok.blt]; exact h1.keeps I.bk) ((h2 x hn).trans hv) h) hd
/-- a module's constant, a class, a function, as a value -/
theorem pe_glob {x : Str} {v : V} {u : Value} {pos : Pos} (hg : Gl X x) (hm : X.mg x = some u) (r : RelV v u) (hd : (x == ("__debug__" : Str)) = false := by decide) : PE X (.Name x pos) (tC v) :=
  fun _ _ _ H _ I h => ld_glob I hg hm ⟨v, H, I, r, h⟩ hd
theorem pe_bltn {x : Str} {v : V} {u : Value} {pos : Pos} (hg : Gl X x) (hm : X.mg x = none) (hv : bootBuiltins x = some u) (r : RelV v u) (hn : x ≠ "__name__" := by decide) (hd : (x == ("__debug__" : Str)) = false := by decide) : PE X (.Name x pos) (tC v) :=
  fun _ _ _ H _ I h => ld_blt I hg hm hv ⟨v, H, I, r, h⟩ hn hd

/-! ### arithmetic -/
variable {a b : Expr} {ta tb : TE} {pos : Pos}
/-! ### comparisons -/
/-- a comparison as a value, as a test -/
def tB (t : TE) : TT := fun σ H Q => t σ H fun x H1 => ∃ c, x = .bl c ∧ Q c H1
/-- an expression whose value is a bool, as a test -/
theorem pt_val {e : Expr} {t : TE} (h : PE X e t) (he : ∀ whole, isTrue e X.env whole = (do let v ← whole; standAt e.pos; holding [v] (truthy v)) := by intro _; rfl) : PT X e (tB t) := by
  intro pins s σ H Q I hw
  refine isTrue_plain (thn (h pins s σ H _ I hw) fun v s1 ⟨x, H1, I1, r1, q1⟩ => ?_) (he _)
  obtain ⟨d, rfl, q⟩ := q1
  cases r1
  exact wpAny_truthy_bool ⟨H1, I1, q⟩

/-! ### and, or, not -/
variable {tA tB' : TT} {rest : List Expr}
def tOr (t u : TT) : TT := fun σ H Q => t σ H fun c H1 => if c = true then Q true H1 else u σ H1 Q
def tNot (t : TT) : TT := fun σ H Q => t σ H fun c H1 => Q (!c) H1
theorem pw_or1 (ha : PT X a tA) : PW X (.BoolOp .Or [a] pos) tA := by
  intro wh pins s σ H Q I h
  refine isTrue_or (thn (ha pins s σ H Q I h) fun c s1 e => ?_)
  cases c with
  | false => exact isTrue_or_nil e
  | true => exact e
theorem pw_or (ha : PT X a tA) (hb : PW X (.BoolOp .Or (b :: rest) pos) tB') : PW X (.BoolOp .Or (a :: b :: rest) pos) (tOr tA tB') := by
  intro wh pins s σ H Q I h
  refine isTrue_or (thn (ha pins s σ H _ I h) fun c s1 ⟨H1, I1, q1⟩ => ?_)
  cases c with
  | true => exact ⟨H1, I1, q1⟩
  | false => exact hb wh pins s1 σ H1 Q I1 q1
theorem pt_not (ha : PT X a tA) : PT X (.UnaryOp .Not a pos) (tNot tA) := by
  intro pins s σ H Q I h
  exact isTrue_not (ha pins s σ H (fun c H1 => Q (!c) H1) I h)
/-- .. as values (bools) -/
def tAndV (ta tb : TE) : TE := fun σ H Q => ta σ H fun x H1 => ∃ c, x = .bl c ∧ if c = true then tb σ H1 Q else Q (.bl false) H1
def tNotV (ta : TE) : TE := fun σ H Q => ta σ H fun x H1 => ∃ c, x = .bl c ∧ Q (.bl (!c)) H1
theorem pe_one {op} {t : TE} (h : PE X a t) : PE X (.BoolOp op [a] pos) t := fun pins s σ H Q I hw => BoolOp_one (h pins s σ H Q I hw)
theorem pe_and (ha : PE X a ta) (hb : PE X (.BoolOp .And (b :: rest) pos) tb) : PE X (.BoolOp .And (a :: b :: rest) pos) (tAndV ta tb) := by
  intro pins s σ H Q I h
  refine BoolOp_and (thn (ha pins s σ H _ I h) fun v s1 ⟨x, H1, I1, r1, q1⟩ => ?_)
  obtain ⟨c, rfl, q1⟩ := q1
  cases r1
  refine wpAny_truthy_bool ?_
  cases c with
  | true => exact hb pins s1 σ H1 Q I1 q1
  | false => exact ⟨.bl false, H1, I1, rfl, q1⟩
theorem pe_not (ha : PE X a ta) : PE X (.UnaryOp .Not a pos) (tNotV ta) := by
  intro pins s σ H Q I h
  refine UnaryOp_ (thn (ha pins s σ H _ I h) fun v s1 ⟨x, H1, I1, r1, q1⟩ => ?_)
  obtain ⟨c, rfl, q1⟩ := q1
  cases r1
  exact not_of (wpAny_truthy_bool ⟨.bl (!c), H1, I1, rfl, q1⟩)
end
end L2

namespace L2
open PySem PySem.Spec PyProof.Rows

/-! ### a list, a tuple that is read: tracked, frozen, or an object of the module -/
def SqL (K : PySem.W.Frag) (H : Hp) (a : Addr) (xs : List V) : Prop :=
  Rd H a (.lst xs) ∨
    ∃ (o : Obj) (its : Array Value) (n : Nat), K.lookup a = some o ∧ o.cls = .type "list" ∧ o.dict = none ∧ o.data = .seq its n ∧ its.size ≤ sizeLine ∧ Vals xs its.toList
def SqT (K : PySem.W.Frag) (H : Hp) (a : Addr) (xs : List V) : Prop :=
  Rd H a (.tup xs) ∨
    ∃ (o : Obj) (its : Array Value) (n : Nat), K.lookup a = some o ∧ o.cls = .type "tuple" ∧ o.data = .seq its n ∧ its.size ≤ sizeLine ∧ Vals xs its.toList
def absV : Value → Option V
  | .none => some .non
  | .bool b => some (.bl b)
  | .int i _ => some (.int i)
  | .str x _ => some (.str x)
  | .bytes b _ => some (.byt b)
  | .float b _ => some (.flt b)
  | .ref a => some (.ref a)
  | .type n => some (.ty n)
  | _ => none
theorem RelV.abs {x : V} {u : Value} (r : RelV x u) : absV u = some x := by
  cases x with
  | non => cases r; rfl
  | bl _ => cases r; rfl
  | int _ => obtain ⟨t, rfl⟩ := r; rfl
  | str _ => obtain ⟨t, rfl⟩ := r; rfl
  | byt _ => obtain ⟨t, rfl⟩ := r; rfl
  | flt _ => obtain ⟨t, rfl⟩ := r; rfl
  | ref _ => cases r; rfl
  | ty _ => cases r; rfl
theorem RelV.inj {x y : V} {u : Value} (r : RelV x u) (q : RelV y u) : x = y := Option.some.inj (r.abs.symm.trans q.abs)
theorem Vals.inj : ∀ {xs ys : List V} {us : List Value}, Vals xs us → Vals ys us → xs = ys
  | _, _, _, .nil, .nil => rfl
  | _, _, _, .cons r t, .cons r' t' => by rw [r.inj r', Vals.inj t t']
section
variable {X : Cx} {pins : List (Addr × Obj)} {σ : St} {H : Hp} {s : Shared} {a : Addr} {xs ys : List V}
theorem SqL.of {K : PySem.W.Frag} (h : H a = some (.lst xs)) : SqL K H a xs := .inl (.inl h)
theorem SqT.of {K : PySem.W.Frag} (h : H a = some (.tup xs)) : SqT K H a xs := .inl (.inl h)
theorem Inv.list (I : Inv X pins σ H s) (h : SqL X.K H a xs) : ∃ its : List Value, Vals xs its ∧ PlainL s.heap a its.toArray ∧ xs.length ≤ sizeLine := by
  rcases h with h | ⟨o, its, n, hk, hc, hd, hs, hz, r⟩
  · obtain ⟨z, its, n, r, e⟩ := h.ok I.hok
    exact ⟨its, r, ⟨_, n, e, rfl, rfl, rfl⟩, z⟩
  · refine ⟨its.toList, r, ⟨o, n, I.kIn a o hk, hc, hd, by simpa using hs⟩, ?_⟩
    have e := r.length
    simp only [Array.length_toList] at e
    omega
theorem Inv.tuple (I : Inv X pins σ H s) (h : SqT X.K H a xs) : ∃ its : List Value, Vals xs its ∧ IsTup s.heap a its.toArray ∧ xs.length ≤ sizeLine := by
  rcases h with h | ⟨o, its, n, hk, hc, hs, hz, r⟩
  · obtain ⟨z, its, r, p⟩ := h.ok I.hok
    exact ⟨its, r, p, z⟩
  · refine ⟨its.toList, r, ⟨o, I.kIn a o hk, hc, n, by simpa using hs⟩, ?_⟩
    have e := r.length
    simp only [Array.length_toList] at e
    omega
theorem Inv.list_inj (I : Inv X pins σ H s) (h : SqL X.K H a xs) (h' : SqL X.K H a ys) : xs = ys := by
  obtain ⟨its, r, ⟨o, n, e, _, _, d⟩, _⟩ := I.list h
  obtain ⟨its', r', ⟨o', n', e', _, _, d'⟩, _⟩ := I.list h'
  rw [e] at e'; cases e'
  rw [d] at d'
  injection d' with d1 _
  have : its = its' := by simpa using congrArg Array.toList d1
  subst this
  exact r.inj r'
end

/-! ### another wish about exceptions -/
abbrev Cx.wish (X : Cx) (E : Value → Shared → Prop) : Cx := { X with xe := E }
/-- no exception leaves -/
abbrev Cx.nox (X : Cx) : Cx := X.wish fun _ _ => False
theorem Cx.Ok.wish {X : Cx} (ok : X.Ok) (E : Value → Shared → Prop) : (X.wish E).Ok :=
  ⟨ok.mod, ok.kind, ok.glob, ok.blt, ok.above, ok.inj, ok.has, ok.cab, ok.hd, ok.frames, ok.stk, ok.exf, ok.bs, ok.bsz, ok.noex, ok.exfs, ok.funs, ok.frf⟩
theorem Cx.Ok.unwish {X : Cx} {E : Value → Shared → Prop} (ok : (X.wish E).Ok) : X.Ok :=
  ⟨ok.mod, ok.kind, ok.glob, ok.blt, ok.above, ok.inj, ok.has, ok.cab, ok.hd, ok.frames, ok.stk, ok.exf, ok.bs, ok.bsz, ok.noex, ok.exfs, ok.funs, ok.frf⟩
section
variable {X : Cx} {pins : List (Addr × Obj)} {σ : St} {H : Hp} {s : Shared} {E : Value → Shared → Prop}
theorem Inv.wish (I : Inv X pins σ H s) (E : Value → Shared → Prop) : Inv (X.wish E) pins σ H s := ⟨I.ok.wish E, I.os, I.bare, I.base, I.loc, I.cell, I.free, I.freeC, I.pin, I.hok, I.len⟩
theorem Inv.unwish (I : Inv (X.wish E) pins σ H s) : Inv X pins σ H s := ⟨I.ok.unwish, I.os, I.bare, I.base, I.loc, I.cell, I.free, I.freeC, I.pin, I.hok, I.len⟩
theorem SP.unwish {D : Ends} {f : Flow} {s' : Shared} (h : SP (X.wish E) pins D f s') : SP X pins D f s' := by
  cases f with
  | next => obtain ⟨σ', H', I, q⟩ := h; exact ⟨σ', H', I.unwish, q⟩
  | brk => obtain ⟨σ', H', I, q⟩ := h; exact ⟨σ', H', I.unwish, q⟩
  | cont => obtain ⟨σ', H', I, q⟩ := h; exact ⟨σ', H', I.unwish, q⟩
  | ret u => obtain ⟨v, σ', H', I, r, q⟩ := h; exact ⟨v, σ', H', I.unwish, r, q⟩
theorem PE.nox {e : Expr} {t : TE} (h : PE X.nox e t) : PE X e t := fun pins s σ H Q I hw =>
  wpAny_mono (h pins s σ H Q (I.wish _) hw) (fun _ _ ⟨v, H', I', r, q⟩ => ⟨v, H', I'.unwish, r, q⟩) fun _ _ z => False.elim z
theorem PT.nox {e : Expr} {t : TT} (h : PT X.nox e t) : PT X e t := fun pins s σ H Q I hw =>
  wpAny_mono (h pins s σ H Q (I.wish _) hw) (fun _ _ ⟨H', I', q⟩ => ⟨H', I'.unwish, q⟩) fun _ _ z => False.elim z
theorem PSs.nox {st : List Stmt} {t : TS} (h : PSs X.nox st t) : PSs X st t := fun pins s σ H D I hw =>
  wpAny_mono (h pins s σ H D (I.wish _) hw) (fun _ _ q => q.unwish) fun _ _ z => False.elim z
end

/-! ### blocks and small statements -/
section
variable {X : Cx} {st : Stmt} {rest : List Stmt} {t u : TS} {e : Expr} {te : TE} {pos : Pos}
def tNext : TS := fun D σ H => D.nx σ H
def tSeq (t u : TS) : TS := fun D σ H => t { D with nx := u D } σ H
theorem pss_nil : PSs X [] tNext := fun _ _ σ H _ I h => wpAny_execs_nil ⟨σ, H, I, h⟩
theorem pss_cons (h1 : PS X st t) (h2 : PSs X rest u) : PSs X (st :: rest) (tSeq t u) := by
  intro pins s σ H D I h
  refine wpAny_execs_cons (thn (h1 pins s σ H { D with nx := u D } I h) fun f s1 q => ?_)
  cases f with
  | next =>
    obtain ⟨σ', H', I', q⟩ := q
    exact h2 pins s1 σ' H' D I' q
  | ret v => exact q
  | brk => exact q
  | cont => exact q
theorem pss_one (h1 : PS X st t) : PSs X [st] t := by
  intro pins s σ H D I h
  refine wpAny_execs_cons (thn (h1 pins s σ H D I h) fun f s1 q => ?_)
  cases f with
  | next => exact wpAny_execs_nil q
  | ret v => exact q
  | brk => exact q
  | cont => exact q
/-- in a def's body nothing is shown -/
theorem Inv.quiet {pins : List (Addr × Obj)} {σ : St} {H : Hp} {s : Shared} (I : Inv X pins σ H s) : interactive X.env = false := by simp [interactive, I.ok.kind]
def tRet (te : TE) : TS := fun D σ H => te σ H D.rt
theorem ps_ret (he : PE X e te) : PS X (.Return (some e) pos) (tRet te) := by
  intro pins s σ H D I h
  exact wpAny_Return_some (thn (he pins s σ H _ I h) fun v s1 ⟨x, H1, I1, r1, q1⟩ => ⟨x, σ, H1, I1, r1, q1⟩)
def tIfS (c : TT) (t u : TS) : TS := fun D σ H => c σ H fun b H1 => if b = true then t D σ H1 else u D σ H1
theorem ps_if {c : Expr} {a b : List Stmt} {tc : TT} (hc : PT X c tc) (ha : PSs X a t) (hb : PSs X b u) : PS X (.If c a b pos) (tIfS tc t u) := by
  intro pins s σ H D I h
  refine wpAny_If (thn (hc pins s σ H _ I h) fun d s1 ⟨H1, I1, q1⟩ => ?_)
  cases d with
  | true => exact ha pins s1 σ H1 D I1 q1
  | false => exact hb pins s1 σ H1 D I1 q1
/-- code that the proof never comes to -/
def tNever : TS := fun _ _ _ => False
theorem ps_never : PS X st tNever := fun _ _ _ _ _ _ h => h.elim
end

/-! ### targets -/
abbrev TG := V → St → Hp → (St → Hp → Prop) → Prop
abbrev TGs := List V → St → Hp → (St → Hp → Prop) → Prop
def PG (X : Cx) (target : Expr) (t : TG) : Prop :=
  ∀ (pins : List (Addr × Obj)) (s : Shared) (σ : St) (H : Hp) (v : V) (u : Value) (Q : St → Hp → Prop), Inv X pins σ H s → RelV v u → t v σ H Q →
    wpAny (model X.prog X.w) X.A (assign target X.env u) (fun _ s' => ∃ σ' H', Inv X pins σ' H' s' ∧ Q σ' H') X.xe s
/-- several targets, one after another -/
def PGs (X : Cx) (ts : List Expr) (t : TGs) : Prop :=
  ∀ (pins : List (Addr × Obj)) (s : Shared) (σ : St) (H : Hp) (vs : List V) (us : List Value) (Q : St → Hp → Prop), Inv X pins σ H s → Vals vs us → t vs σ H Q →
    wpAny (model X.prog X.w) X.A (assignInOrder ((assignEach ts X.env).map (·.2)) us) (fun _ s' => ∃ σ' H', Inv X pins σ' H' s' ∧ Q σ' H') X.xe s
section
variable {X : Cx} {pos : Pos}
def gName (i : Nat) : TG := fun v σ H Q => Q (σ.set i (some v)) H
theorem pg_name {i : Nat} {x : Str} (hN : X.N.Nodup) (hi : X.N[i]? = some x) (hx : Loc X.env.scope x) (hf : X.fn x = true ∨ X.env.scope.names.lookup x = some .local := by first | exact .inl rfl | exact .inr rfl | assumption) : PG X (.Name x pos) (gName i) := by
  intro pins s σ H v u Q I r h
  exact wpAny_assign_Name (store_ok I hN hi hx r (fun s' I' => ⟨_, H, I', h⟩) hf)
/-- target = value -/
def tAsg (te : TE) (g : TG) : TS := fun D σ H => te σ H fun x H1 => g x σ H1 D.nx
/-- name = value -/
theorem ps_set {i : Nat} {x : Str} {e : Expr} {te : TE} {pos' : Pos} (hN : X.N.Nodup) (hi : X.N[i]? = some x) (hx : Loc X.env.scope x) (he : PE X e te) (hs : swapsWith e (some (.Name x pos')) pos.line X.env = pure false := by rfl) (hf : X.fn x = true ∨ X.env.scope.names.lookup x = some .local := by first | exact .inl rfl | exact .inr rfl | assumption) :
    PS X (.Assign [.Name x pos'] e pos) (tAsg te (gName i)) := by
  intro pins s σ H D I h
  refine wpAny_Assign_Name (thn (he pins s σ H _ I h) fun v s1 ⟨y, H1, I1, r1, q1⟩ => ?_) hs
  exact store_ok I1 hN hi hx r1 (fun s2 I2 => ⟨_, H1, I2, q1⟩) hf
/-- a, b = x, y with plain local names: stored from the right; the pair itself is not tracked (the opening rows as in PyProof/Rows/TupAssign.lean:23) -/
def tPar (i j : Nat) (ta : TA) : TS := fun D σ H => ta σ H fun vs H1 => ∃ v w, vs = [v, w] ∧ D.nx ((σ.set i (some v)).set j (some w)) H1
theorem ps_par {i j : Nat} {x y : Str} {a b : Expr} {ta : TA} {px py pt : Pos} {kt k2 pt2} (hc : X.calm = true) (hN : X.N.Nodup) (hi : X.N[i]? = some x) (hj : X.N[j]? = some y) (hij : i ≠ j)
    (hx : X.env.scope.names.lookup x = some .local) (hy : X.env.scope.names.lookup y = some .local) (ha : PA X [a, b] ta)
    (hw : swappedStores [.Tuple [.Name x px, .Name y py] kt pt] (.Tuple [a, b] k2 pt2) X.env = pure (some [x, y]))
    (hs : swapsWithSole [.Tuple [.Name x px, .Name y py] kt pt] (.Tuple [a, b] k2 pt2) pos.line X.env = pure false := by rfl) :
    PS X (.Assign [.Tuple [.Name x px, .Name y py] kt pt] (.Tuple [a, b] k2 pt2) pos) (tPar i j ta) := by
  intro pins s σ H D I h
  rw [exec_Assign_arm]
  refine wpAny_bind (wpAny_standAt ?_)
  rw [hs]
  refine wpAny_bind (wpAny_pure ?_)
  rw [if_neg (by decide)]
  refine wpAny_bind (Tuple_ (thn (ha _ pins s σ H _ I h) fun us s1 ⟨vs, H1, I1, r1, q1⟩ => ?_))
  obtain ⟨v, w, e1, q1⟩ := q1
  subst e1
  obtain ⟨u1, u2, rfl, rv, rw'⟩ : ∃ u1 u2, us = [u1, u2] ∧ RelV v u1 ∧ RelV w u2 := by
    cases r1 with
    | cons p q =>
      cases q with
      | cons p' q' =>
        cases q'
        exact ⟨_, _, rfl, p, p'⟩
  refine wpAny_newObj_type ?_ (by show 2 ≤ sizeLine; decide)
  have I2 : Inv X pins σ H1 { s1 with heap := s1.heap.push { cls := .type "tuple", data := .seq [u1, u2].toArray } } := I1.kept (t' := s1.toks) fun b o e => Heap.get?_push_of_some _ e
  rw [hw]
  refine wpAny_bind (wpAny_pure ?_)
  show wpAny (model X.prog X.w) X.A (do rule "assign.swapped-stores"; let items ← unpackItems (.ref s1.heap.objs.size) 2 none; assignInOrder [fun v => bindName X.env y v, fun v => bindName X.env x v] items.reverse; pure Flow.next) _ _ _
  refine wpAny_bind (wpAny_rule (wpAny_bind (unpackItems_tuple (items := #[u1, u2]) (I.ok.hd hc) (IsTup.new s1.heap _) fun h' hx' => ?_)))
  have I3 := I2.kept (h' := h') (t' := s1.toks) fun b o e => hx' b o (Nat.ne_of_lt (Heap.lt_size e)) e
  show wpAny _ _ (assignInOrder [fun v => bindName X.env y v, fun v => bindName X.env x v] [u2, u1] >>= fun _ => pure Flow.next) _ _ _
  refine wpAny_bind (assignInOrder_cons (wpAny_bindName (store_ok I3 hN hj (.inl hy) rw' (fun s2 I4 => ?_) (.inr hy))))
  refine assignInOrder_cons (wpAny_bindName (store_ok I4 hN hi (.inl hx) rv (fun s3 I5 => assignInOrder_nil (wpAny_pure ?_)) (.inr hx)))
  rw [List.set_comm _ _ (Ne.symm hij)] at I5
  exact ⟨_, H1, I5, q1⟩
end

/-! ### while -/
section
variable {X : Cx} {pos : Pos}
/-- the invariant W with its measure -/
def tWhile (c : TT) (tb : TS) : TS := fun D σ H => ∃ W : Nat → St → Hp → Prop, (∃ m, W m σ H) ∧ ∀ m σ H, W m σ H →
  c σ H fun b H1 => if b = true then ∃ N : St → Hp → Prop, (∀ σ' H', N σ' H' → ∃ m', m' < m ∧ W m' σ' H') ∧ tb { D with nx := N, ct := N, bk := D.nx } σ H1 else D.nx σ H1
theorem ps_while {c : Expr} {body : List Stmt} {tc : TT} {tb : TS} (hp : PassesOwn (model X.prog X.w) X.A X.env X.xe) (hc : PT X c tc) (hb : PSs X body tb) : PS X (.While c body [] pos) (tWhile tc tb) := by
  intro pins s σ H D I h
  obtain ⟨W, ⟨m0, w0⟩, turn⟩ := h
  refine wpAny_While (codeAny_whileLoop (fun n s' => ∃ σ' H', Inv X pins σ' H' s' ∧ W n σ' H') ?_ m0 ⟨σ, H, I, w0⟩)
  rintro n s1 ⟨σ1, H1, I1, w1⟩
  refine wpAny_passesOwn hp (thn (hc pins s1 σ1 H1 _ I1 (turn n σ1 H1 w1)) fun b s2 ⟨H2, I2, q2⟩ => ?_)
  cases b with
  | true =>
    obtain ⟨N, hN, q2⟩ := q2
    rw [if_pos rfl]
    refine wpAny_passesOwn hp (thn (hb pins s2 σ1 H2 _ I2 q2) fun f s3 q3 => ?_)
    cases f with
    | next =>
      obtain ⟨σ3, H3, I3, n3⟩ := q3
      obtain ⟨m', hm, w3⟩ := hN σ3 H3 n3
      exact ⟨m', hm, σ3, H3, I3, w3⟩
    | cont =>
      obtain ⟨σ3, H3, I3, n3⟩ := q3
      obtain ⟨m', hm, w3⟩ := hN σ3 H3 n3
      exact ⟨m', hm, σ3, H3, I3, w3⟩
    | brk => exact q3
    | ret v => exact q3
  | false =>
    rw [if_neg Bool.false_ne_true]
    exact wpAny_execs_nil ⟨σ1, H2, I2, q2⟩
end

/-! ### what a loop or a comprehension walks -/
/-- at turn i: it yields x (the heap may grow), or it stops -/
structure It where
  go : Nat → Hp → Prop
  yld : Nat → Hp → V → Hp → Prop
  stop : Nat → Hp → Prop
/-- the iterator's own objects may turn: they are not the frame's, not pinned, younger than the entry (or a comprehension's own) -/
def FpOk (X : Cx) (pins : List (Addr × Obj)) (H : Hp) (b : Addr) : Prop :=
  H b = none ∧ b ≠ X.env.locals ∧ b ∉ X.fs ∧ (b ∈ X.ex ∨ X.s₀.heap.objs.size ≤ b) ∧ (∀ x c, X.env.cells.lookup x = some c → c ≠ b) ∧ ∀ p ∈ X.pn ++ pins, p.1 ≠ b
theorem Inv.fpOk {X : Cx} {pins : List (Addr × Obj)} {σ : St} {H H' : Hp} {s : Shared} {b : Addr} (I : Inv X pins σ H s) (hb : s.heap.objs.size ≤ b) (hn : H' b = none) : FpOk X pins H' b := by
  refine ⟨hn, Nat.ne_of_gt (Nat.lt_of_lt_of_le I.lt hb), I.nofs hb, .inr (Nat.le_trans I.sz hb), fun x c e z => ?_, fun p hp z => ?_⟩
  · obtain ⟨v, q⟩ := I.cell x c e
    exact absurd (Nat.lt_of_lt_of_le q.lt (by rw [z]; exact hb)) (Nat.lt_irrefl _)
  · exact absurd (Nat.lt_of_lt_of_le (Heap.lt_size (I.pin p hp).1) (by rw [z]; exact hb)) (Nat.lt_irrefl _)
structure Turn (P : Program) (w : World) (K : PySem.W.Frag) (tg : Expr) (J : It) (fp : List Addr) (it : Addr) (tn : Nat → Heap → Prop) : Prop where
  mem : it ∈ fp
  obj : ∀ i h, tn i h → ∀ b ∈ fp, ∃ o, h.get? b = some o ∧ ∀ v, o.data ≠ .cell v
  keep : ∀ i h h', tn i h → (∀ b ∈ fp, ∀ o, h.get? b = some o → h'.get? b = some o) → tn i h'
  item : ∀ (X : Cx), X.prog = P → X.w = w → X.K = K → X.calm = true → ∀ (i : Nat) (pins : List (Addr × Obj)) (s : Shared) (σ : St) (H : Hp) (E : Value → Shared → Prop), Inv X pins σ H s → (∀ b ∈ fp, FpOk X pins H b) → tn i s.heap → J.go i H →
    wpAny (model P w) X.A (pyNext (.ref it)) (fun r s1 => ∃ u, r = some u ∧
      wpAny (model P w) X.A (letOwnedTupleGo tg (.ref it) u) (fun _ s2 => ∃ x H', Inv X pins σ H' s2 ∧ RelV x u ∧ J.yld i H x H' ∧ tn (i + 1) s2.heap ∧ ∀ b ∈ fp, H' b = none) E s1) E s
  done : ∀ (X : Cx), X.prog = P → X.w = w → X.K = K → X.calm = true → ∀ (i : Nat) (pins : List (Addr × Obj)) (s : Shared) (σ : St) (H : Hp) (E : Value → Shared → Prop), Inv X pins σ H s → (∀ b ∈ fp, FpOk X pins H b) → tn i s.heap → J.stop i H →
    wpAny (model P w) X.A (pyNext (.ref it)) (fun r s1 => r = none ∧ Inv X pins σ H s1) E s
  self : ∀ (A : Around) (i : Nat) (s : Shared) (Q : Value → Shared → Prop) (E : Value → Shared → Prop), tn i s.heap → Q (.ref it) s → wpAny (model P w) A (pyIter (.ref it)) Q E s
abbrev TI := St → Hp → (It → Hp → Prop) → Prop
/-- an iterator has come -/
def PIE (X : Cx) (pins : List (Addr × Obj)) (σ : St) (tg : Expr) (R : It → Hp → Prop) (itv : Value) (s2 : Shared) : Prop :=
  ∃ (it : Addr) (fp : List Addr) (tn : Nat → Heap → Prop) (J : It) (H' : Hp), itv = .ref it ∧ Inv X pins σ H' s2 ∧ Turn X.prog X.w X.K tg J fp it tn ∧ tn 0 s2.heap ∧ (∀ b ∈ fp, FpOk X pins H' b) ∧ R J H'
def PI (X : Cx) (tg iter : Expr) (wi : TI) : Prop :=
  ∀ (pins : List (Addr × Obj)) (s : Shared) (σ : St) (H : Hp) (R : It → Hp → Prop), Inv X pins σ H s → wi σ H R →
    wpAny (model X.prog X.w) X.A (eval iter X.env) (fun v s1 => wpAny (model X.prog X.w) X.A (pyIter v) (PIE X pins σ tg R) X.xe s1) X.xe s

/-- the step ahead of the store is nothing for an iterator that keeps no tuple -/
theorem go_of {M : Model} {A : Around} {E : Value → Shared → Prop} {s : Shared} {tg : Expr} {it : Addr} {u : Value} {o : Obj} {n : String} {vs : Array Value} {Q : Unit → Shared → Prop} (ho : s.heap.get? it = some o) (hc : o.cls = .type n) (hd : o.data = .fields vs)
    (hn : ["enumerate", "zip", "dict_itemiterator", "dict_reverseitemiterator", "odict_iterator", "itertools.zip_longest", "itertools.pairwise"].contains n = false) (hQ : Q () s) : wpAny M A (letOwnedTupleGo tg (.ref it) u) Q E s := by
  unfold letOwnedTupleGo
  cases tg <;> first
    | exact wpAny_pure hQ
    | (cases u <;> first
        | exact wpAny_pure hQ
        | (refine wpAny_bind (wpAny_load ho ?_)
           rw [hc, hd]
           show wpAny M A (if (["enumerate", "zip", "dict_itemiterator", "dict_reverseitemiterator", "odict_iterator", "itertools.zip_longest", "itertools.pairwise"].contains n && vs[0]? == some (rawInt _)) = true then _ else _) Q E s
           rw [if_neg (by intro h; rw [hn, Bool.false_and] at h; cases h)]
           exact wpAny_pure hQ))

/-- the list at a, as it stands at each turn (a loop may append to it) -/
def Itl (K : PySem.W.Frag) (a : Addr) : It :=
  ⟨fun i H => ∃ xs x, SqL K H a xs ∧ xs[i]? = some x, fun i H x H' => H' = H ∧ ∀ xs, SqL K H a xs → xs[i]? = some x, fun i H => ∃ xs, SqL K H a xs ∧ xs.length ≤ i⟩
theorem turn_list {P : Program} {w : World} {K : PySem.W.Frag} {tg : Expr} (a it : Addr) : Turn P w K tg (Itl K a) [it] it (fun i h => h.IsListIter it a i) where
  mem := by simp
  obj := fun i h st b hb => by
    have e : b = it := by simpa using hb
    subst e
    obtain ⟨o, e, c, d⟩ := st
    exact ⟨o, e, fun v z => by rw [d] at z; cases z⟩
  keep := fun i h h' st k => st.at fun o e => k it (by simp) o e
  item := by
    intro X hP hw hK hc i pins s σ H E I hf st hg
    subst hP hw hK
    obtain ⟨xs, x, hq, hx⟩ := hg
    obtain ⟨its, rv, p, hz⟩ := I.list hq
    obtain ⟨u, hu, ru⟩ := rv.get hx
    obtain ⟨f0, f1, f2, f3, f4, f5⟩ := hf it (by simp)
    refine wpAny_pyNext_list_item st p.isList (x := u) (by simpa using hu) fun h' st' sb => ?_
    have I1 : Inv X pins σ H { s with heap := h' } := I.turned (t' := s.toks) (fun b o hb e => (sb.2 b hb).trans e) f0 f1 f3 f4 f5
    obtain ⟨o, e, c, d⟩ := id st'
    exact ⟨u, rfl, go_of (s := { s with heap := h' }) e c d (by decide) ⟨x, H, I1, ru, ⟨rfl, fun ys hy => by rw [I.list_inj hy hq]; exact hx⟩, st', fun b hb => (hf b hb).1⟩⟩
  done := by
    intro X hP hw hK hc i pins s σ H E I hf st hg
    subst hP hw hK
    obtain ⟨xs, hq, hx⟩ := hg
    obtain ⟨its, rv, p, hz⟩ := I.list hq
    obtain ⟨f0, f1, f2, f3, f4, f5⟩ := hf it (by simp)
    have hl := rv.length
    exact wpAny_pyNext_list_end (I.ok.hd hc) st p.isList (by simp; omega) fun h' eb => ⟨rfl, I.turned (t' := s.toks) (fun b o hb e => eb b o hb e) f0 f1 f3 f4 f5⟩
  self := fun _ _ _ _ _ st h => wpAny_pyIter_listiter st h
end L2

namespace L2
open PySem PySem.Spec PyProof.Rows
section
variable {X : Cx} {tg : Expr}
def iList (K : PySem.W.Frag) (tl : TE) : TI := fun σ H R => tl σ H fun x H1 => ∃ a, x = .ref a ∧ (∃ xs, SqL K H1 a xs) ∧ R (Itl K a) H1
theorem pi_list {l : Expr} {tl : TE} (hl : PE X l tl) : PI X tg l (iList X.K tl) := by
  intro pins s σ H R I h
  refine thn (hl pins s σ H _ I h) fun v s1 ⟨x, H1, I1, r1, q1⟩ => ?_
  obtain ⟨a, e, ⟨xs, hq⟩, q⟩ := q1
  subst e
  cases r1
  obtain ⟨its, rv, p, hz⟩ := I1.list hq
  refine wpAny_pyIter_list p.isList ?_
  refine ⟨s1.heap.objs.size, [s1.heap.objs.size], _, _, H1, rfl, I1.kept (t' := s1.toks) fun b o e => Heap.get?_push_of_some _ e, turn_list a _, ⟨_, Heap.get?_push_size _ rfl, rfl, rfl⟩, fun b hb => ?_, q⟩
  have e : b = s1.heap.objs.size := by simpa using hb
  subst e
  exact I1.fpOk (Nat.le_refl _) (I1.hok.fresh (Nat.le_refl _))
/-! ### for -/
/-- W: the invariant by the turn and a measure; N: what the body is to reach -/
def tFor (wi : TI) (g : TG) (tb : TS) : TS := fun D σ H => wi σ H fun J H1 => ∃ W : Nat → Nat → St → Hp → Prop, (∃ m, W 0 m σ H1) ∧ ∀ i m σ H, W i m σ H →
  (J.stop i H ∧ D.nx σ H) ∨ (J.go i H ∧ ∃ N : St → Hp → Prop, (∀ σ' H', N σ' H' → ∃ m', m' < m ∧ W (i + 1) m' σ' H') ∧ ∀ x H', J.yld i H x H' → g x σ H' fun σ2 H2 => tb { D with nx := N, ct := N, bk := D.nx } σ2 H2)
/-- the records at fp as they stand -/
def pinsAt (fp : List Addr) (h : Heap) : List (Addr × Obj) := fp.filterMap fun b => (h.get? b).map fun o => (b, o)
theorem mem_pinsAt {fp : List Addr} {h : Heap} {b : Addr} {o : Obj} (hb : b ∈ fp) (e : h.get? b = some o) : (b, o) ∈ pinsAt fp h := List.mem_filterMap.mpr ⟨b, hb, by rw [e]; rfl⟩
theorem of_pinsAt {fp : List Addr} {h : Heap} {p : Addr × Obj} (hp : p ∈ pinsAt fp h) : p.1 ∈ fp ∧ h.get? p.1 = some p.2 := by
  obtain ⟨b, hb, e⟩ := List.mem_filterMap.mp hp
  cases q : h.get? b with
  | none => rw [q] at e; cases e
  | some o =>
    rw [q] at e
    have e' : (b, o) = p := Option.some.inj e
    subst e'
    exact ⟨hb, q⟩
theorem Inv.pinned {pins : List (Addr × Obj)} {σ : St} {H : Hp} {s : Shared} {fp : List Addr} (I : Inv X pins σ H s) (hf : ∀ b ∈ fp, FpOk X pins H b) (ho : ∀ b ∈ fp, ∃ o, s.heap.get? b = some o ∧ ∀ v, o.data ≠ .cell v) : Inv X (pins ++ pinsAt fp s.heap) σ H s :=
  I.pins_of fun p hp => (List.mem_append.mp hp).elim (fun z => I.pin p (List.mem_append_right _ z)) fun z => by
    obtain ⟨hb, e⟩ := of_pinsAt z
    obtain ⟨f0, f1, f2, _⟩ := hf p.1 hb
    obtain ⟨o, e', d⟩ := ho p.1 hb
    rw [e] at e'; cases e'
    exact ⟨e, f0, f1, f2, d⟩
theorem Inv.unpinned {pins pl : List (Addr × Obj)} {σ : St} {H : Hp} {s : Shared} (I : Inv X (pins ++ pl) σ H s) : Inv X pins σ H s := I.pins_of fun p hp => I.pin p (List.mem_append_right _ (List.mem_append_left _ hp))
theorem ps_for {iter : Expr} {body : List Stmt} {wi : TI} {g : TG} {tb : TS} {pos : Pos} (hp : PassesOwn (model X.prog X.w) X.A X.env X.xe) (hc : X.calm = true) (hi : PI X tg iter wi) (hg : PG X tg g) (hb : PSs X body tb)
    (hs : ∀ x, foldedSetIterable iter X.env x = pure x := by intro _; rfl) : PS X (.For tg iter body [] pos) (tFor wi g tb) := by
  intro pins s σ H D I h
  refine wpAny_For (thn (hi pins s σ H _ I h) fun v s1 h1 => thn h1 fun itv s2 h2 => ?_) hs
  obtain ⟨it, fp, tn, J, H2, e, I2, T, st2, f2, W, ⟨m0, w0⟩, turn⟩ := h2
  subst e
  -- what stays true of the iterator's objects through the loop
  have stat : ∀ {H' : Hp}, (∀ b ∈ fp, H' b = none) → ∀ b ∈ fp, FpOk X pins H' b := fun hn b hb => ⟨hn b hb, (f2 b hb).2⟩
  refine codeAny_forLoop_any (fun n s' => ∃ i σ' H', Inv X pins σ' H' s' ∧ tn i s'.heap ∧ (∀ b ∈ fp, H' b = none) ∧ W i n σ' H') ?_ m0 ⟨0, σ, H2, I2, st2, fun b hb => (f2 b hb).1, w0⟩
  rintro n s3 ⟨i, σ3, H3, I3, st3, fr3, w3⟩
  rcases turn i n σ3 H3 w3 with ⟨stop, qn⟩ | ⟨go, N, hN, step⟩
  · refine wpAny_passesOwn hp (thn (T.done X rfl rfl rfl hc i pins s3 σ3 H3 X.xe I3 (stat fr3) st3 stop) fun r s4 ⟨hr, I4⟩ => ?_)
    subst hr
    exact wpAny_execs_nil ⟨σ3, H3, I4, qn⟩
  · refine wpAny_passesOwn hp (thn (T.item X rfl rfl rfl hc i pins s3 σ3 H3 X.xe I3 (stat fr3) st3 go) fun r s4 ⟨u, hr, h4⟩ => ?_)
    subst hr
    refine wpAny_passesOwn hp (thn h4 fun _ s5 ⟨x, H5, I5, r5, y5, st5, fr5⟩ => ?_)
    have I5' := I5.pinned (stat fr5) (T.obj _ _ st5)
    refine wpAny_passesOwn hp (thn (hg _ s5 σ3 H5 x u _ I5' r5 (step x H5 y5)) fun _ s6 ⟨σ6, H6, I6, q6⟩ => ?_)
    refine wpAny_passesOwn hp (thn (hb _ s6 σ6 H6 _ I6 q6) fun f s7 q7 => ?_)
    have again : ∀ {σ7 : St} {H7 : Hp}, Inv X (pins ++ pinsAt fp s5.heap) σ7 H7 s7 → N σ7 H7 → ∃ m, m < n ∧ ∃ i σ' H', Inv X pins σ' H' s7 ∧ tn i s7.heap ∧ (∀ b ∈ fp, H' b = none) ∧ W i m σ' H' := fun {σ7 H7} I7 n7 => by
      obtain ⟨m', hm, w7⟩ := hN σ7 H7 n7
      refine ⟨m', hm, i + 1, σ7, H7, I7.unpinned, T.keep _ _ _ st5 fun b hb o e => (I7.pin (b, o) (List.mem_append_right _ (List.mem_append_right _ (mem_pinsAt hb e)))).1, fun b hb => ?_, w7⟩
      obtain ⟨o, e, d⟩ := T.obj _ _ st5 b hb
      exact (I7.pin (b, o) (List.mem_append_right _ (List.mem_append_right _ (mem_pinsAt hb e)))).2.1
    cases f with
    | next => obtain ⟨σ7, H7, I7, n7⟩ := q7; exact again I7 n7
    | cont => obtain ⟨σ7, H7, I7, n7⟩ := q7; exact again I7 n7
    | brk => obtain ⟨σ7, H7, I7, q7⟩ := q7; exact ⟨σ7, H7, I7.unpinned, q7⟩
    | ret v => obtain ⟨x7, σ7, H7, I7, r7, q7⟩ := q7; exact ⟨x7, σ7, H7, I7.unpinned, r7, q7⟩
end

/-! ### the forms one uses -/
end L2

namespace L2
open PySem PySem.Spec PyProof.Rows

abbrev R2 := V → V → Hp → VK → Prop
/-- a two-place operation on values: f is binaryOp op, inplaceOp op or compareOp op -/
def OpR (X : Cx) (f : Value → Value → Sem Value) (r : R2) : Prop :=
  ∀ (pins : List (Addr × Obj)) (s : Shared) (σ : St) (H : Hp) (x y : V) (v u : Value) (Q : VK), Inv X pins σ H s → RelV x v → RelV y u → r x y H Q →
    wpAny (model X.prog X.w) X.A (f v u) (EP X pins σ Q) X.xe s
/-- a one-place operation -/
def UnR (X : Cx) (f : Value → Sem Value) (r : V → Hp → VK → Prop) : Prop :=
  ∀ (pins : List (Addr × Obj)) (s : Shared) (σ : St) (H : Hp) (x : V) (v : Value) (Q : VK), Inv X pins σ H s → RelV x v → r x H Q →
    wpAny (model X.prog X.w) X.A (f v) (EP X pins σ Q) X.xe s
/-- a call of a value that is known (a builtin, a type) with values -/
def CallR (X : Cx) (f : Value) (r : List V → Hp → VK → Prop) : Prop :=
  ∀ (pins : List (Addr × Obj)) (s : Shared) (σ : St) (H : Hp) (xs : List V) (us : List Value) (Q : VK), Inv X pins σ H s → Vals xs us → r xs H Q →
    wpAny (model X.prog X.w) X.A (call f us) (EP X pins σ Q) X.xe s
def tOp (r : R2) (ta tb : TE) : TE := fun σ H Q => ta σ H fun x H1 => tb σ H1 fun y H2 => r x y H2 Q
def tUn (r : V → Hp → VK → Prop) (ta : TE) : TE := fun σ H Q => ta σ H fun x H1 => r x H1 Q
/-- ints in, under C, and a value out -/
def rI (C : Int → Int → Prop) (g : Int → Int → V) : R2 := fun x y H Q => ∃ i j, x = .int i ∧ y = .int j ∧ C i j ∧ Q (g i j) H
def rI0 (g : Int → Int → V) : R2 := fun x y H Q => ∃ i j, x = .int i ∧ y = .int j ∧ Q (g i j) H
def rU (g : Int → V) : V → Hp → VK → Prop := fun x H Q => ∃ i, x = .int i ∧ Q (g i) H

section
variable {X : Cx} {a b c : Expr} {ta tb tc : TE} {pos : Pos}

theorem binT (ha : PE X a ta) (hb : PE X b tb) {pins : List (Addr × Obj)} {s : Shared} {σ : St} {H : Hp} {R : V → V → Hp → Prop} (I : Inv X pins σ H s)
    (h : ta σ H fun x H1 => tb σ H1 fun y H2 => R x y H2) {Q : Value → Shared → Prop} {f : Value → Value → Sem Value}
    (hf : ∀ v u s2 x y H2, Inv X pins σ H2 s2 → RelV x v → RelV y u → R x y H2 → wpAny (model X.prog X.w) X.A (f v u) Q X.xe s2) :
    wpAny (model X.prog X.w) X.A (eval a X.env) (fun v s₁ => wpAny (model X.prog X.w) X.A (eval b X.env) (fun u s₂ => wpAny (model X.prog X.w) X.A (f v u) Q X.xe s₂) X.xe s₁) X.xe s := by
  refine thn (ha pins s σ H _ I h) fun v s1 ⟨x, H1, I1, r1, q1⟩ => ?_
  refine thn (hb pins s1 σ H1 _ I1 q1) fun u s2 ⟨y, H2, I2, r2, q2⟩ => ?_
  exact hf v u s2 x y H2 I2 r1 r2 q2

theorem pe_op {op : Operator} {r : R2} (ho : OpR X (binaryOp op) r) (ha : PE X a ta) (hb : PE X b tb) : PE X (.BinOp a op b pos) (tOp r ta tb) := by
  intro pins s σ H Q I h
  exact wpAny_BinOp (binT ha hb I h fun v u s2 x y H2 I2 rx ry q => ho pins s2 σ H2 x y v u Q I2 rx ry q)
theorem pe_un {op : UnaryOp} {r : V → Hp → VK → Prop} (ho : UnR X (unaryOp op) r) (ha : PE X a ta) : PE X (.UnaryOp op a pos) (tUn r ta) := by
  intro pins s σ H Q I h
  exact UnaryOp_ (thn (ha pins s σ H _ I h) fun v s1 ⟨x, H1, I1, r1, q1⟩ => ho pins s1 σ H1 x v Q I1 r1 q1)
/-! ### ints -/
theorem opI {f : Value → Value → Sem Value} {C : Int → Int → Prop} {g : Int → Int → Int}
    (rule : ∀ (i j : Int) (t u : Tok) (s : Shared) (Q : Value → Shared → Prop) (E : Value → Shared → Prop), C i j → Q (.int (g i j) s.toks) { s with toks := s.toks + 1 } → wpAny (model X.prog X.w) X.A (f (.int i t) (.int j u)) Q E s) :
    OpR X f (rI C fun i j => .int (g i j)) := by
  intro pins s σ H x y v u Q I rx ry h
  obtain ⟨i, j, rfl, rfl, hc, q⟩ := h
  obtain ⟨t, rfl⟩ := rx
  obtain ⟨t', rfl⟩ := ry
  exact rule i j t t' s _ _ hc ⟨.int (g i j), H, I.tok _, ⟨_, rfl⟩, q⟩
theorem opB0 {f : Value → Value → Sem Value} {g : Int → Int → Bool}
    (rule : ∀ (i j : Int) (t u : Tok) (s : Shared) (Q : Value → Shared → Prop) (E : Value → Shared → Prop), Q (.bool (g i j)) s → wpAny (model X.prog X.w) X.A (f (.int i t) (.int j u)) Q E s) :
    OpR X f (rI0 fun i j => .bl (g i j)) := by
  intro pins s σ H x y v u Q I rx ry h
  obtain ⟨i, j, rfl, rfl, q⟩ := h
  obtain ⟨t, rfl⟩ := rx
  obtain ⟨t', rfl⟩ := ry
  exact rule i j t t' s _ _ ⟨.bl (g i j), H, I, rfl, q⟩

def CMul (i j : Int) : Prop := (-(2 ^ 64) < i ∧ i < 2 ^ 64) ∨ (-(2 ^ 64) < j ∧ j < 2 ^ 64)
theorem CMul.ok {i j : Int} (h : CMul i j) : IntMulOk i j := by
  rcases h with ⟨h1, h2⟩ | ⟨h1, h2⟩
  · exact .of_left (intBits_le_64 h1 h2)
  · exact .of_right (intBits_le_64 h1 h2)
theorem unI {f : Value → Sem Value} {g : Int → Int}
    (rule : ∀ (i : Int) (t : Tok) (s : Shared) (Q : Value → Shared → Prop) (E : Value → Shared → Prop), Q (.int (g i) s.toks) { s with toks := s.toks + 1 } → wpAny (model X.prog X.w) X.A (f (.int i t)) Q E s) :
    UnR X f (rU fun i => .int (g i)) := by
  intro pins s σ H x v Q I rx h
  obtain ⟨i, rfl, q⟩ := h
  obtain ⟨t, rfl⟩ := rx
  exact rule i t s _ _ ⟨.int (g i), H, I.tok _, ⟨_, rfl⟩, q⟩
theorem un_neg : UnR X (unaryOp .USub) (rU fun i => .int (-i)) := unI fun _ _ _ _ _ q => neg_int q
/-! ### bools among ints: n += (a < b) -/
end

/-! ### comparisons -/
/-- the scalars that == tells apart as data does -/
def scal : V → V → Bool
  | .non, .non => true | .non, .int _ => true | .int _, .non => true | .non, .bl _ => true | .bl _, .non => true | .non, .str _ => true | .str _, .non => true
  | .int _, .int _ => true | .bl _, .bl _ => true | .str _, .str _ => true | .byt _, .byt _ => true
  | .int _, .str _ => true | .str _, .int _ => true | .bl _, .str _ => true | .str _, .bl _ => true
  | _, _ => false
def rEq : R2 := fun x y H Q => scal x y = true ∧ Q (.bl (decide (x = y))) H
def rNe : R2 := fun x y H Q => scal x y = true ∧ Q (.bl (!decide (x = y))) H

theorem dec_int {i j : Int} : decide (V.int i = V.int j) = (i == j) := by
  rw [Bool.eq_iff_iff]
  simp
theorem dec_bl {i j : Bool} : decide (V.bl i = V.bl j) = (i == j) := by
  rw [Bool.eq_iff_iff]
  simp
theorem dec_str {i j : Str} : decide (V.str i = V.str j) = (i == j) := by
  rw [Bool.eq_iff_iff]
  simp
theorem dec_byt {i j : Array UInt8} : decide (V.byt i = V.byt j) = (i.toList == j.toList) := by
  rw [Bool.eq_iff_iff]
  cases i
  cases j
  simp

section
variable {X : Cx} {a b c : Expr} {ta tb tc : TE} {pos : Pos}
theorem fin_bl {pins : List (Addr × Obj)} {σ : St} {H : Hp} {s : Shared} {Q : VK} {k k' : Bool} (I : Inv X pins σ H s) (q : Q (.bl k) H) (e : k = k') : EP X pins σ Q (.bool k') s := by
  subst e
  exact ⟨.bl k, H, I, rfl, q⟩
theorem op_eq : OpR X (compareOp .Eq) rEq := by
  intro pins s σ H x y v u Q I rx ry h
  obtain ⟨hs, q⟩ := h
  cases x with
  | non =>
    cases rx
    cases y with
    | non => cases ry; exact PySem.EqNone.eq_none_none (fin_bl I q (by simp))
    | bl j => cases ry; exact PySem.EqNone.eq_none_bool (fin_bl I q (by simp))
    | int j => obtain ⟨t', rfl⟩ := ry; exact PySem.EqNone.eq_none_int (fin_bl I q (by simp))
    | str j => obtain ⟨t', rfl⟩ := ry; exact PySem.EqNone.eq_none_str (fin_bl I q (by simp))
    | _ => exact absurd (show false = true from hs) Bool.false_ne_true
  | bl i =>
    cases rx
    cases y with
    | non => cases ry; exact PySem.EqNone.eq_bool_none (fin_bl I q (by simp))
    | bl j => cases ry; exact eq_bool (fin_bl I q dec_bl)
    | str j => obtain ⟨t', rfl⟩ := ry; exact PySem.EqMixed.eq_bool_str (fin_bl I q (by simp))
    | _ => exact absurd (show false = true from hs) Bool.false_ne_true
  | int i =>
    obtain ⟨t, rfl⟩ := rx
    cases y with
    | non => cases ry; exact PySem.EqNone.eq_int_none (fin_bl I q (by simp))
    | int j => obtain ⟨t', rfl⟩ := ry; exact eq_int (fin_bl I q dec_int)
    | str j => obtain ⟨t', rfl⟩ := ry; exact PySem.EqMixed.eq_int_str (fin_bl I q (by simp))
    | _ => exact absurd (show false = true from hs) Bool.false_ne_true
  | str i =>
    obtain ⟨t, rfl⟩ := rx
    cases y with
    | non => cases ry; exact PySem.EqNone.eq_str_none (fin_bl I q (by simp))
    | bl j => cases ry; exact PySem.EqMixed.eq_str_bool (fin_bl I q (by simp))
    | int j => obtain ⟨t', rfl⟩ := ry; exact PySem.EqMixed.eq_str_int (fin_bl I q (by simp))
    | str j => obtain ⟨t', rfl⟩ := ry; exact eq_str (fin_bl I q dec_str)
    | _ => exact absurd (show false = true from hs) Bool.false_ne_true
  | byt i =>
    obtain ⟨t, rfl⟩ := rx
    cases y with
    | byt j => obtain ⟨t', rfl⟩ := ry; exact PySem.W.eq_bytes (fin_bl I q dec_byt)
    | _ => exact absurd (show false = true from hs) Bool.false_ne_true
  | _ => cases y <;> exact absurd (show false = true from hs) Bool.false_ne_true
theorem op_ne : OpR X (compareOp .NotEq) rNe := by
  intro pins s σ H x y v u Q I rx ry h
  obtain ⟨hs, q⟩ := h
  cases x with
  | non =>
    cases rx
    cases y with
    | non => cases ry; exact PySem.EqNone.ne_none_none (fin_bl I q (by simp))
    | bl j => cases ry; exact PySem.EqNone.ne_none_bool (fin_bl I q (by simp))
    | int j => obtain ⟨t', rfl⟩ := ry; exact PySem.EqNone.ne_none_int (fin_bl I q (by simp))
    | str j => obtain ⟨t', rfl⟩ := ry; exact PySem.EqNone.ne_none_str (fin_bl I q (by simp))
    | _ => exact absurd (show false = true from hs) Bool.false_ne_true
  | bl i =>
    cases rx
    cases y with
    | non => cases ry; exact PySem.EqNone.ne_bool_none (fin_bl I q (by simp))
    | bl j => cases ry; exact ne_bool (fin_bl I q (congrArg not dec_bl))
    | str j => obtain ⟨t', rfl⟩ := ry; exact PySem.EqMixed.ne_bool_str (fin_bl I q (by simp))
    | _ => exact absurd (show false = true from hs) Bool.false_ne_true
  | int i =>
    obtain ⟨t, rfl⟩ := rx
    cases y with
    | non => cases ry; exact PySem.EqNone.ne_int_none (fin_bl I q (by simp))
    | int j => obtain ⟨t', rfl⟩ := ry; exact ne_int (fin_bl I q (congrArg not dec_int))
    | str j => obtain ⟨t', rfl⟩ := ry; exact PySem.EqMixed.ne_int_str (fin_bl I q (by simp))
    | _ => exact absurd (show false = true from hs) Bool.false_ne_true
  | str i =>
    obtain ⟨t, rfl⟩ := rx
    cases y with
    | non => cases ry; exact PySem.EqNone.ne_str_none (fin_bl I q (by simp))
    | bl j => cases ry; exact PySem.EqMixed.ne_str_bool (fin_bl I q (by simp))
    | int j => obtain ⟨t', rfl⟩ := ry; exact PySem.EqMixed.ne_str_int (fin_bl I q (by simp))
    | str j => obtain ⟨t', rfl⟩ := ry; exact ne_str (fin_bl I q (congrArg not dec_str))
    | _ => exact absurd (show false = true from hs) Bool.false_ne_true
  | byt i =>
    obtain ⟨t, rfl⟩ := rx
    cases y with
    | byt j => obtain ⟨t', rfl⟩ := ry; exact PySem.W.ne_bytes (fin_bl I q (congrArg not dec_byt))
    | _ => exact absurd (show false = true from hs) Bool.false_ne_true
  | _ => cases y <;> exact absurd (show false = true from hs) Bool.false_ne_true

theorem op_lt : OpR X (compareOp .Lt) (rI0 fun i j => .bl (decide (i < j))) := opB0 fun _ _ _ _ _ _ _ q => lt_int q
theorem op_ge : OpR X (compareOp .GtE) (rI0 fun i j => .bl (decide (j ≤ i))) := opB0 fun _ _ _ _ _ _ _ q => ge_int q
/-- is, is not of two objects that are tracked lists or instances -/
def isObj : HO → Bool
  | .lst _ => true
  | .ins _ _ _ => true
  | _ => false
theorem obj_there {pins : List (Addr × Obj)} {s : Shared} {σ : St} {H : Hp} {a : Addr} {o : HO} (I : Inv X pins σ H s) (h : H a = some o) (p : isObj o = true) : ∃ ob, s.heap.get? a = some ob ∧ ob.cls ≠ .type "tuple" := by
  cases o with
  | lst xs =>
    obtain ⟨_, its, n, _, e⟩ : xs.length ≤ sizeLine ∧ ∃ (its : List Value) (n : Nat), Vals xs its ∧ s.heap.get? a = some { cls := .type "list", data := .seq its.toArray n } := I.hok a _ h
    exact ⟨_, e, (by show Value.type "list" ≠ .type "tuple"; decide +kernel)⟩
  | ins C dx fs =>
    have x := I.hok a _ h
    obtain ⟨_, _, _, e, _⟩ := x
    exact ⟨_, e, (by show Value.ref C ≠ .type "tuple"; exact fun z => by cases z)⟩
  | _ => exact absurd (show false = true from p) Bool.false_ne_true
/-- two rules for one operation: by cases -/
theorem OpR.or {f : Value → Value → Sem Value} {r r' : R2} (h : OpR X f r) (h' : OpR X f r') : OpR X f (fun x y H Q => r x y H Q ∨ r' x y H Q) := by
  intro pins s σ H x y v u Q I rx ry q
  rcases q with q | q
  · exact h pins s σ H x y v u Q I rx ry q
  · exact h' pins s σ H x y v u Q I rx ry q

theorem nomark (b : Expr) {op : CmpOp} (h : op ≠ .In := by decide) (h2 : op ≠ .NotIn := by decide) : behindInMarks op b = false := by
  have e1 : (op == CmpOp.In) = false := by cases op <;> first | rfl | exact absurd rfl h
  have e2 : (op == CmpOp.NotIn) = false := by cases op <;> first | rfl | exact absurd rfl h2
  cases b <;> simp [behindInMarks, e1, e2]
/-- a comparison as a value; hm: nomark b, or (for in, not in) by with_unfolding_all rfl -/
theorem pe_cmpR {op : CmpOp} {r : R2} (ho : OpR X (compareOp op) r) (ha : PE X a ta) (hb : PE X b tb) (hm : behindInMarks op b = false) : PE X (.Compare a [op] [b] pos) (tOp r ta tb) := by
  intro pins s σ H Q I h
  exact wpAny_Compare1 (binT ha hb I h fun v u s2 x y H2 I2 rx ry q => ho pins s2 σ H2 x y v u Q I2 rx ry q) hm
/-- a reading of a value as a test -/
def tTest (t : TE) : TT := fun σ H Q => t σ H fun x H' => ∃ k, x = .bl k ∧ Q k H'
theorem pt_cmpR {op : CmpOp} {r : R2} (ho : OpR X (compareOp op) r) (ha : PE X a ta) (hb : PE X b tb) (hm : behindInMarks op b = false) : PT X (.Compare a [op] [b] pos) (tTest (tOp r ta tb)) := by
  intro pins s σ H Q I h
  refine wpAny_isTrue_Compare1 (thn (ha pins s σ H _ I h) fun v s1 ⟨x, H1, I1, r1, q1⟩ => thn (hb pins s1 σ H1 _ I1 q1) fun u s2 ⟨y, H2, I2, r2, q2⟩ =>
    thn (ho pins s2 σ H2 x y v u _ I2 r1 r2 q2) fun c s3 ⟨z, H3, I3, r3, k, e, q3⟩ => ?_) hm
  subst e
  cases r3
  exact wpAny_truthy_bool ⟨H3, I3, q3⟩
/-! ### truth -/
theorem line63 : (sizeLine : Nat) < 2 ^ 63 := by rw [sizeLine_eq]; decide
/-! ### strs and bytes -/
/-! ### scalar builtins, by CallR -/
theorem vals1 {x : V} {us : List Value} (r : Vals [x] us) : ∃ u, us = [u] ∧ RelV x u := by
  cases r with
  | cons r1 r2 => cases r2; exact ⟨_, rfl, r1⟩
theorem vals2 {x y : V} {us : List Value} (r : Vals [x, y] us) : ∃ u w', us = [u, w'] ∧ RelV x u ∧ RelV y w' := by
  cases r with
  | cons r1 r2 =>
    cases r2 with
    | cons r3 r4 => cases r4; exact ⟨_, _, rfl, r1, r3⟩
theorem call_abs : CallR X (.builtin "abs") (fun xs H Q => ∃ i, xs = [.int i] ∧ Q (.int (if i < 0 then -i else i)) H) := by
  intro pins s σ H xs us Q I r h
  obtain ⟨i, rfl, q⟩ := h
  obtain ⟨u, rfl, t, rfl⟩ := vals1 r
  exact call_abs_int fun u tk => ⟨.int (if i < 0 then -i else i), H, I.tok _, ⟨_, rfl⟩, q⟩
end
end L2

namespace L2
open PySem PySem.Spec PyProof.Rows

/-! ### an instance, its attributes a map -/
structure ObjM (h : Heap) (x dx C : Addr) (mA : Str → Option Value) : Prop where
  obj : h.get? x = some (PySem.W.instObj C dx)
  ns : h.Ns1 dx mA
  ne : dx ≠ x

theorem lookIn_ns {h : Heap} {dx : Addr} {mA : Str → Option Value} (n : h.Ns1 dx mA) : ∃ od, h.get? dx = some od ∧ ∀ name, PySem.W.lookIn name od = some (mA name) := by
  obtain ⟨o, es, ep, ho, hd, hk, _, hm⟩ := n
  refine ⟨o, ho, fun name => ?_⟩
  have e := hm name
  unfold nsFind findBy at e
  rw [← Array.find?_toList] at e
  unfold PySem.W.lookIn
  rw [hd]
  dsimp only
  split
  · rename_i y q
    rw [q] at e
    exact congrArg some e
  · rename_i q
    rw [q] at e
    have a : es.toList.any (·.refKey) = false := by
      rw [List.any_eq_false]
      intro y hy
      obtain ⟨z, t, hkey⟩ := hk y (Array.mem_toList_iff.mp hy)
      simp [DictEntry.refKey, hkey]
    have a' : ¬ es.toList.any (·.refKey) = true := by rw [a]; exact Bool.false_ne_true
    rw [if_neg a']
    exact congrArg some e

theorem ObjM.look {h : Heap} {x dx C : Addr} {mA : Str → Option Value} (I : ObjM h x dx C mA) : ∃ od, PySem.W.InstAt h x (PySem.W.instObj C dx) C (some od) ∧ ∀ name, PySem.W.lookIn name od = some (mA name) :=
  let ⟨od, ho, hl⟩ := lookIn_ns I.ns
  ⟨od, ⟨I.obj, rfl, rfl, ho⟩, hl⟩

section
variable {prog : Program} {w : World} {A : Around} {E : Value → Shared → Prop} {s : Shared} {K : PySem.W.Frag} {x dx C f : Addr} {mA : Str → Option Value} {name : Str} {v : Value}

end

/-! ### the attributes as a list of pairs -/
section
variable {P : Program} {w : World} {H H' : Hp} {h h' : Heap} {a C dx : Addr} {fs fs' : List (Str × V)}
theorem ins_get (hok : HOk P w H h) (e : H a = some (.ins C dx fs)) : ∃ mA, ObjM h a dx C mA ∧ (∀ f, RelO (fs.lookup f) (mA f)) ∧ PySem.Within mA (fs.map (·.1)) ∧ fs.length ≤ 1000 ∧ H dx = some (.own a) := by
  obtain ⟨d, z, ne, ob, mA, n, r, q⟩ := (show ObjOk P w H h a (.ins C dx fs) from hok a _ e)
  exact ⟨mA, ⟨ob, n, ne⟩, r, q, z, d⟩
end

/-! ### what of the text a class must have -/
structure Cls (K : PySem.W.Frag) (C : Addr) : Prop where
  pg : PySem.W.plainGet K C Str.empty = true
  hd : PySem.W.hasDictIn K C = true
  po : PySem.W.plainOver K C = true
  sa : PySem.W.findIn K (.ref C) "__setattr__" = some (some (.builtin "object.__setattr__"))
theorem Cls.get {K : PySem.W.Frag} {C : Addr} (c : Cls K C) (f : Str) : PySem.W.plainGet K C f = true := c.pg
/-- a constant of the class -/
structure Con (K : PySem.W.Frag) (C : Addr) (f : Str) (v : V) (u : Value) : Prop where
  at_ : PySem.W.findIn K (.ref C) f = some (some u)
  rel : RelV v u
  get : PySem.W.specialIn K u "__get__" = some none
  cp : PySem.W.copiedNames.contains f = false
/-- a method: a plain def of the class or of one above it -/
structure Meth (K : PySem.W.Frag) (C : Addr) (m : Str) (f : Addr) : Prop where
  at_ : PySem.W.findIn K (.ref C) m = some (some (.ref f))
  fn : PySem.W.isFn K (.ref f) = true
  kp : PySem.W.keepIn K (.ref f) = true

section
variable {X : Cx} {pins : List (Addr × Obj)} {σ : St} {H : Hp} {s : Shared} {a C dx : Addr} {fs : List (Str × V)} {f : Str} {v : V} {A : Around} {E : Value → Shared → Prop}

/-- a new instance, tracked, without attributes -/
theorem Inv.made (I : Inv X pins σ H s) : Inv X pins σ (upd (upd H s.heap.objs.size (.own (s.heap.objs.size + 1))) (s.heap.objs.size + 1) (.ins C s.heap.objs.size []))
    { s with heap := (s.heap.push PySem.W.emptyDict).push (PySem.W.instObj C s.heap.objs.size) } := by
  have e1 : (s.heap.push PySem.W.emptyDict).get? s.heap.objs.size = some PySem.W.emptyDict := Heap.get?_push_size s.heap rfl
  have e2 : ((s.heap.push PySem.W.emptyDict).push (PySem.W.instObj C s.heap.objs.size)).get? (s.heap.objs.size + 1) = some (PySem.W.instObj C s.heap.objs.size) := by
    have := Heap.get?_push_size (s.heap.push PySem.W.emptyDict) (o := PySem.W.instObj C s.heap.objs.size) rfl
    rwa [Heap.size_push] at this
  have e3 : (s.heap.push PySem.W.emptyDict).Ns s.heap.objs.size (fun _ => none) := ⟨PySem.W.emptyDict, #[], _, e1, rfl, (fun e he => absurd he (by simp)), fun _ => rfl⟩
  have I1 := I.laid (a := s.heap.objs.size) (o := .own (s.heap.objs.size + 1)) (h' := s.heap.push PySem.W.emptyDict) (t' := s.toks) (fun b u q => Heap.get?_push_of_some _ q) (Nat.le_refl _) ⟨_, e1⟩
  refine I1.laid (a := s.heap.objs.size + 1) (o := .ins C s.heap.objs.size []) (t' := s.toks) (fun b u q => Heap.get?_push_of_some _ q) (Nat.le_of_eq (Heap.size_push _ _)) ?_
  have ne : s.heap.objs.size ≠ s.heap.objs.size + 1 := Nat.ne_of_lt (Nat.lt_succ_self _)
  refine ⟨by rw [upd_ne ne, upd_same], Nat.zero_le _, ne, e2, fun _ => none, (Heap.Ns1.of_empty e3).at fun o q => Heap.get?_push_of_some _ q, fun _ => True.intro, fun y hy => absurd rfl hy⟩

end

/-! ### readings and rules -/
section
variable {X : Cx} {o e value : Expr} {f : Str} {pos pos' tpos : Pos} {ta tv : TE}
end

/-! ### isinstance -/
section
variable {X : Cx} {pins : List (Addr × Obj)} {σ : St} {H : Hp} {s : Shared} {A : Around} {E : Value → Shared → Prop} {Q : Value → Shared → Prop} {c : Value} {b : Bool}
/-- the type of a value, as the fragment's deciders take it; for an instance its class -/
inductive TyOf (K : PySem.W.Frag) (H : Hp) : V → Value → Prop where
  | non : TyOf K H .non (.type "NoneType")
  | bl (x : Bool) : TyOf K H (.bl x) (.type "bool")
  | int (i : Int) : TyOf K H (.int i) (.type "int")
  | str (x : Str) : TyOf K H (.str x) (.type "str")
  | flt (x : UInt64) : TyOf K H (.flt x) (.type "float")
  | lst {a : Addr} {xs : List V} (e : H a = some (.lst xs)) : TyOf K H (.ref a) (.type "list")
  | frz {a : Addr} {o : Obj} {xs : List V} (e : H a = some (.frz o (.lst xs))) : TyOf K H (.ref a) (.type "list")
  | tup {a : Addr} {xs : List V} (e : H a = some (.tup xs)) : TyOf K H (.ref a) (.type "tuple")
  | dK {a : Addr} {kvs : List (Key × V)} (e : H a = some (.dK kvs)) : TyOf K H (.ref a) (.type "dict")
  | dT {a : Addr} {kvs : List (List Key × V)} (e : H a = some (.dT kvs)) : TyOf K H (.ref a) (.type "dict")
  | ins {a C dx : Addr} {fs : List (Str × V)} (e : H a = some (.ins C dx fs)) (cl : Cls K C) (ha : PySem.W.findIn K (.ref C) "__class__" = some (some (.builtin "object.__class__")))
      (hn : PySem.W.specialIn K (.builtin "object.__class__") "__get__" = some (some (.builtin "getset_descriptor.__get__"))) (htk : PySem.W.takesIn K (.builtin "object.__class__") = some true)
      (hm : PySem.W.mroIn K C (.type "object") = some true) : TyOf K H (.ref a) (.ref C)
/-- isinstance(x, c) for one class c, a built-in or an own one: kitOne's answer -/
theorem isinst_ok {x : V} {u t : Value} (I : Inv X pins σ H s) (rx : RelV x u) (ty : TyOf X.K H x t) (e : PySem.W.kitOne X.K t c = some b) (h : ∀ tk, Q (.bool b) { s with toks := tk }) :
    wpAny (model X.prog X.w) A (call (.builtin "isinstance") [u, c]) Q E s := by
  cases ty with
  | non => cases (show u = Value.none from rx); exact PySem.W.kia_one PySem.W.kitx_none I.kIn True.intro e (fun z => nomatch z) h
  | bl y => cases (show u = Value.bool y from rx); exact PySem.W.kia_one PySem.W.kitx_bool I.kIn True.intro e (fun z => nomatch z) h
  | int i => obtain ⟨t, q⟩ := (show ∃ t, u = Value.int i t from rx); cases q; exact PySem.W.kia_one PySem.W.kitx_int I.kIn True.intro e (fun z => nomatch z) h
  | str y => obtain ⟨t, q⟩ := (show ∃ t, u = Value.str y t from rx); cases q; exact PySem.W.kia_one PySem.W.kitx_str I.kIn True.intro e (fun z => nomatch z) h
  | flt y => obtain ⟨t, q⟩ := (show ∃ t, u = Value.float y t from rx); cases q; exact PySem.W.kia_one PySem.W.kitx_float I.kIn True.intro e (fun z => nomatch z) h
  | @lst a xs ea =>
    cases (show u = Value.ref a from rx)
    obtain ⟨_, _, n, _, h1⟩ := (show ObjOk X.prog X.w H s.heap a (.lst xs) from I.hok a _ ea)
    exact PySem.W.kia_one PySem.W.kitx_list I.kIn ⟨_, h1, rfl⟩ e (fun z => nomatch z) h
  | @frz a ob xs ea =>
    cases (show u = Value.ref a from rx)
    obtain ⟨_, _, _, n, _, h1⟩ := (show ObjOk X.prog X.w H s.heap a (.frz ob (.lst xs)) from I.hok a _ ea)
    exact PySem.W.kia_one PySem.W.kitx_list I.kIn ⟨_, h1, rfl⟩ e (fun z => nomatch z) h
  | @tup a xs ea =>
    cases (show u = Value.ref a from rx)
    obtain ⟨_, _, _, p⟩ := (show ObjOk X.prog X.w H s.heap a (.tup xs) from I.hok a _ ea)
    obtain ⟨o, h1, h2, _⟩ := p
    exact PySem.W.kia_one PySem.W.kitx_tuple I.kIn ⟨o, h1, h2⟩ e (fun z => nomatch z) h
  | @dK a kvs ea =>
    cases (show u = Value.ref a from rx)
    obtain ⟨_, _, vs, _, p⟩ := (show ObjOk X.prog X.w H s.heap a (.dK kvs) from I.hok a _ ea)
    obtain ⟨o, es, ep, h1, h2, _⟩ := p
    exact PySem.W.kia_one PySem.W.kitx_dict I.kIn ⟨o, h1, h2.1⟩ e (fun z => nomatch z) h
  | @dT a kvs ea =>
    cases (show u = Value.ref a from rx)
    obtain ⟨_, _, xs, _, o, es, ep, h1, h2, _⟩ := (show ObjOk X.prog X.w H s.heap a (.dT kvs) from I.hok a _ ea)
    exact PySem.W.kia_one PySem.W.kitx_dict I.kIn ⟨o, h1, h2.1⟩ e (fun z => nomatch z) h
  | @ins a C dx fs ea cl ha hn htk hm =>
    cases (show u = Value.ref a from rx)
    obtain ⟨mA, O, _⟩ := ins_get I.hok ea
    obtain ⟨od, J, _⟩ := O.look
    exact PySem.W.kia_one (PySem.W.kitx_own (cl.get _) cl.hd ha hn htk hm) I.kIn J e (fun z => nomatch z) h
end
end L2

namespace L2
open PySem PySem.Spec PyProof.Rows

/-! ### room -/
structure Room (k : Nat) (A : Around) : Prop where
  hd : A.handled = none
  dp : A.depth + 3 * k + 5 < recursionLimit
  un : A.units + 16 * k + 200 < cLine
theorem Room.mono {j k : Nat} {A : Around} (r : Room k A) (h : j ≤ k) : Room j A := ⟨r.hd, by have := r.dp; omega, by have := r.un; omega⟩
theorem Room.deeper {k : Nat} {A : Around} (r : Room (k + 1) A) (env : Env) : Room k (A.deeper env) :=
  ⟨r.hd, by have := r.dp; show A.depth + 1 + 3 * k + 5 < _; omega, by have := r.un; show A.units + 3 + 16 * k + 200 < _; omega⟩
theorem Room.in1 {k : Nat} {A : Around} (r : Room (k + 1) A) : Room k A.in1 :=
  ⟨r.hd, by have := r.dp; show A.depth + 3 * k + 5 < _; omega, by have := r.un; show A.units + 1 + 16 * k + 200 < _; omega⟩
theorem Room.depth {k : Nat} {A : Around} (r : Room k A) : A.depth < recursionLimit := by have := r.dp; omega
theorem Room.units {k : Nat} {A : Around} (r : Room k A) : A.units + 64 < cLine := by have := r.un; omega
/-! ### argument lists and displays -/
def tNil : TA := fun _ H Q => Q [] H
def tCons (ta : TE) (tr : TA) : TA := fun σ H Q => ta σ H fun x H1 => tr σ H1 fun xs H2 => Q (x :: xs) H2
section
variable {X : Cx} {e : Expr} {es : List Expr} {te : TE} {t : TA} {pos : Pos}
theorem pa_nil : PA X [] tNil := fun _ _ _ _ H Q I h => Calls.spliced_nil ⟨[], H, I, .nil, h⟩
theorem pa_cons (ha : PE X e te) (hr : PA X es t) (hs : starEach (e :: es) X.env = (false, eval e X.env) :: starEach es X.env := by rfl) : PA X (e :: es) (tCons te t) := by
  intro pos pins s σ H Q I h
  rw [hs]
  show wpAny _ _ (spliced ((false, eval e X.env) :: backTo pos (starEach es X.env))) _ _ s
  refine Calls.spliced_cons (thn (ha pins s σ H _ I h) fun u s1 ⟨x, H1, I1, r1, q1⟩ => ?_)
  exact thn (hr pos pins s1 σ H1 _ I1 q1) fun us s2 ⟨xs, H2, I2, r2, q2⟩ => ⟨x :: xs, H2, I2, .cons r1 r2, q2⟩

/-- a tuple, a list of written items -/
def tTup (t : TA) : TE := fun σ H Q => t σ H fun xs H1 => xs.length ≤ sizeLine ∧ ∀ p, H1 p = none → Q (.ref p) (upd H1 p (.tup xs))
def tLst (t : TA) : TE := fun σ H Q => t σ H fun xs H1 => xs.length ≤ sizeLine ∧ ∀ p, H1 p = none → Q (.ref p) (upd H1 p (.lst xs))
theorem pe_tup {x1} (h : PA X es t) : PE X (.Tuple es x1 pos) (tTup t) := by
  intro pins s σ H Q I hq
  refine wpAny_Tuple_spliced (thn (h pos pins s σ H _ I hq) fun us s1 ⟨xs, H1, I1, r, z, q⟩ => ⟨by rw [← r.length]; exact z, ?_⟩)
  have hf : H1 s1.heap.objs.size = none := I1.hok.fresh (Nat.le_refl _)
  refine ⟨.ref s1.heap.objs.size, upd H1 s1.heap.objs.size (.tup xs), I1.laid (t' := s1.toks) (fun b u e => Heap.get?_push_of_some _ e) (Nat.le_refl _) ?_, rfl, q _ hf⟩
  exact ⟨z, us, r, ⟨_, Heap.get?_push_size _ rfl, rfl, _, rfl⟩⟩
theorem pe_lst (h : PA X es t) : PE X (.List es pos) (tLst t) := by
  intro pins s σ H Q I hq
  refine wpAny_List_spliced (thn (h pos pins s σ H _ I hq) fun us s1 ⟨xs, H1, I1, r, z, q⟩ => ⟨by rw [← r.length]; exact z, ?_⟩)
  have hf : H1 s1.heap.objs.size = none := I1.hok.fresh (Nat.le_refl _)
  refine ⟨.ref s1.heap.objs.size, upd H1 s1.heap.objs.size (.lst xs), I1.laid (t' := s1.toks) (fun b u e => Heap.get?_push_of_some _ e) (Nat.le_refl _) ?_, rfl, q _ hf⟩
  exact ⟨z, us, 0, r, Heap.get?_push_size _ rfl⟩
end

/-! ### what a def promises -/
/-- a def's promise: the bound arguments in the parameters' order, the heap, the wanted end, the wanted exception -/
abbrev Sp := List V → Hp → VK → XK → Prop
/-- how an exception lies behind a call (file 08 gives it): the callers' frames, abstract heap and state ahead of the call, the wish, the exception, the state -/
abbrev CXT := List Env → Hp → Shared → XK → Value → Shared → Prop

/-- the state at a call -/
structure Env0 (P : Program) (w : World) (K : PySem.W.Frag) (mg : Str → Option Value) (base : Heap) (A : Around) (outer : List Env) (s : Shared) (H : Hp) : Prop where
  frames : A.frames = some outer
  mod : Mod K mg base
  bs : ∀ b o, base.get? b = some o → s.heap.get? b = some o ∧ H b = none
  bsz : base.objs.size ≤ s.heap.objs.size
  funs : s.heap.FunFrames base outer
  frf : ∀ b ∈ frs outer, H b = none
  hok : HOk P w H s.heap
  bare : AllBare s.gens
/-- a call's end -/
def CE (outer : List Env) (P : Program) (w : World) (H : Hp) (s : Shared) (Q : VK) (u : Value) (s' : Shared) : Prop :=
  ∃ v H', s'.os = s.os ∧ AllBare s'.gens ∧ Un (frs outer) [] H H' s.heap s'.heap ∧ HOk P w H' s'.heap ∧ RelV v u ∧ Q v H'
def CR (CX : CXT) (outer : List Env) (P : Program) (w : World) (H : Hp) (s : Shared) (Q : VK) (E : XK) (r : Result) (s' : Shared) : Prop :=
  match r with
  | .ok (.ret u) => CE outer P w H s Q u s'
  | .ok _ => False
  | .error e => CX outer H s E e s'
structure FnOk (P : Program) (w : World) (K : PySem.W.Frag) (mg : Str → Option Value) (base : Heap) (CX : CXT) (k : Nat) (f : Addr) (fd : FuncData) (ps : List Str) (sp : Sp) : Prop where
  len : ∀ vs H Q E, sp vs H Q E → vs.length = ps.length
  run : ∀ (A : Around) (outer : List Env) (s : Shared) (H : Hp) (args : Args) (us : List Value) (vs : List V) (Q : VK) (E : XK), Room k A → Env0 P w K mg base A outer s H → BindsTo s fd args (ps.zip us) → Vals vs us → sp vs H Q E →
    codeAny (model P w) A (.call (.ref f) args) (CR CX outer P w H s Q E) s
theorem FnOk.mono {P : Program} {w : World} {K : PySem.W.Frag} {mg : Str → Option Value} {base : Heap} {CX : CXT} {j k : Nat} {f : Addr} {fd : FuncData} {ps : List Str} {sp : Sp} (F : FnOk P w K mg base CX j f fd ps sp) (h : j ≤ k) :
    FnOk P w K mg base CX k f fd ps sp := ⟨F.len, fun A outer s H args us vs Q E hr => F.run A outer s H args us vs Q E (hr.mono h)⟩
theorem Env0.in1 {P : Program} {w : World} {K : PySem.W.Frag} {mg : Str → Option Value} {base : Heap} {A : Around} {outer : List Env} {s : Shared} {H : Hp} (e : Env0 P w K mg base A outer s H) :
    Env0 P w K mg base A.in1 outer s H := ⟨e.frames, e.mod, e.bs, e.bsz, e.funs, e.frf, e.hok, e.bare⟩

section
variable {X : Cx} {pins : List (Addr × Obj)} {σ : St} {H : Hp} {s s' : Shared}
/-- from a body: what a callee wants -/
theorem Inv.env0 (I : Inv X pins σ H s) : Env0 X.prog X.w X.K X.mg X.base X.A X.stack s H :=
  ⟨I.ok.frames, I.ok.mod, I.bs, Nat.le_trans I.ok.bsz I.sz, I.stack, I.stkFree, I.hok, I.bare⟩
/-- behind a call -/
theorem Inv.after {Q : VK} {u : Value} (I : Inv X pins σ H s) (h : CE X.stack X.prog X.w H s Q u s') : EP X pins σ Q u s' := by
  obtain ⟨v, H', os, bare, un, hok, r, q⟩ := h
  obtain ⟨hh, g, d, t, os'⟩ := s'
  obtain rfl : os' = s.os := os
  exact ⟨v, H', I.call (h' := hh) (g' := g) (d' := d) (t' := t) (ch := []) un hok bare (fun b z => absurd z (by simp)), r, q⟩
end

/-! ### calls -/
/-- f(..): the written arguments, then the defaults dvs; E: what is wanted of an exception -/
def tCall (sp : Sp) (dvs : List V) (E : XK) (t : TA) : TE := fun σ H Q => t σ H fun vs H1 => sp (vs ++ dvs) H1 Q E
/-- how the parameters are bound: us the positional arguments, kw the keywords' values by name, ds the defaults that fill up -/
def Binds (K : PySem.W.Frag) (fd : FuncData) (ps : List Str) (ds : List Value) : Prop :=
  ∀ (s : Shared) (us : List Value), K.In s.heap → (us ++ ds).length = ps.length → BindsTo s fd ⟨us, []⟩ (ps.zip (us ++ ds))
/-- every parameter is given -/
theorem Binds.all {K : PySem.W.Frag} {fd : FuncData} {ps : List Str} (h : ∀ us : List Value, us.length = ps.length → bindArgs fd ⟨us, []⟩ = pure (ps.zip us)) : Binds K fd ps [] := fun s us _ hl => by
  rw [List.append_nil] at hl ⊢
  exact .of_eq (h us hl)

/-- an exception of a callee reaches what this body wants of exceptions -/
def Passes (CX : CXT) (X : Cx) (E : XK) : Prop := ∀ (pins : List (Addr × Obj)) (σ : St) (H : Hp) (s : Shared) (e : Value) (s' : Shared), Inv X pins σ H s → CX X.stack H s E e s' → X.xe e s'

section
variable {X : Cx} {CX : CXT} {k : Nat} {f C : Addr} {fd : FuncData} {ps : List Str} {sp : Sp} {dvs : List V} {ds : List Value} {E : XK} {x m : Str} {p pos apos : Pos} {e o : Expr} {es : List Expr} {ta : TE} {t : TA}

/-- the callee runs -/
theorem run_fn {pins : List (Addr × Obj)} {σ : St} {H : Hp} {s : Shared} {Q : VK} {us : List Value} {vs : List V} (F : FnOk X.prog X.w X.K X.mg X.base CX k f fd ps sp) (hr : Room k X.A) (hb : Binds X.K fd ps ds) (hd : Vals dvs ds) (hx : Passes CX X E)
    (I : Inv X pins σ H s) (r : Vals vs us) (h : sp (vs ++ dvs) H Q E) : wpAny (model X.prog X.w) X.A (call (.ref f) us) (EP X pins σ Q) X.xe s := by
  have r2 : Vals (vs ++ dvs) (us ++ ds) := r.append hd
  have hl : (us ++ ds).length = ps.length := by rw [← r2.length]; exact F.len _ _ _ _ h
  refine wpAny_call (codeAny_mono (F.run X.A X.stack s H ⟨us, []⟩ (us ++ ds) (vs ++ dvs) Q E hr I.env0 (hb s us I.kIn hl) r2 h) fun r s' hq => ?_)
  cases r with
  | error e => exact hx pins σ H s e s' I hq
  | ok fl =>
    cases fl with
    | ret u => exact I.after hq
    | next => exact False.elim hq
    | brk => exact False.elim hq
    | cont => exact False.elim hq

theorem pe_call (F : FnOk X.prog X.w X.K X.mg X.base CX k f fd ps sp) (hr : Room k X.A) (hg : Gl X x) (hm : X.mg x = some (.ref f)) (hk : PySem.W.keepIn X.K (.ref f) = true) (hb : Binds X.K fd ps ds) (hd : Vals dvs ds) (hx : Passes CX X E)
    (ha : PA X (e :: es) t) (hdb : (x == ("__debug__" : Str)) = false := by decide) (he : starEach (e :: es) X.env = (false, eval e X.env) :: starEach es X.env := by rfl) (hpl : (backTo pos (starEach es X.env)).any (·.1) = false := by rfl) :
    PE X (.Call (.Name x p) (e :: es) [] pos) (tCall sp dvs E t) := by
  intro pins s σ H Q I h
  refine wpAny_Call_Name_kw (ld_glob I hg hm ?_ hdb)
  refine PySem.W.callWith_K (h₀ := X.base) I.ok.mod.kin hk (thn (ha pos pins s σ H _ I h) fun us s1 ⟨vs, H1, I1, r, q⟩ => ⟨I1.kIn, ?_⟩) he hpl
  exact run_fn F hr hb hd hx I1 r q
/-- what a class must have to be made -/
structure Mk (K : PySem.W.Frag) (C f : Addr) : Prop where
  makes : PySem.W.makesIn K C = true
  init : PySem.W.findIn K (.ref C) "__init__" = some (some (.ref f))
  fn : PySem.W.isFn K (.ref f) = true
  kp : PySem.W.keepIn K (.ref C) = true

end

/-! ### keywords -/
section
variable {X : Cx} {CX : CXT} {k : Nat} {f C : Addr} {fd : FuncData} {ps ks : List Str} {sp : Sp} {E : XK} {x m : Str} {p pos apos kpos : Pos} {e o : Expr} {es : List Expr} {kws : List Keyword} {te ta : TE} {t tk : TA} {nm : Option Str}
/-- how a call with keywords binds: g puts the positional values us and the keywords' values ws (names ks) in the parameters' order, defaults among them -/
structure KBinds (K : PySem.W.Frag) (fd : FuncData) (ps ks : List Str) (g : List Value → List Value → List Value) (gV : List V → List V → List V) : Prop where
  to : ∀ (s : Shared) (us ws : List Value), K.In s.heap → (g us ws).length = ps.length → BindsTo s fd ⟨us, ks.zip ws⟩ (ps.zip (g us ws))
  rel : ∀ {vs : List V} {us : List Value} {zs : List V} {ws : List Value}, Vals vs us → Vals zs ws → Vals (gV vs zs) (g us ws)
variable {g : List Value → List Value → List Value} {gV : List V → List V → List V}
end

/-! ### a def's body keeps its promise -/
/-- names: the parameters first -/
structure FnScope (N P : List Str) (sc : Scope) : Prop where
  kind : sc.kind = .function
  co : sc.isCoroutine = false
  gen : sc.isGenerator = false
  nd : N.Nodup
  pre : N.take P.length = P
  par : ∀ x ∈ P, sc.names.lookup x = some .local ∨ sc.names.lookup x = some .cell
  nofree : ∀ y ∈ sc.names, y.2 ≠ .free

theorem bindL_out {kindOf : Str → Option NameKind} {x : Str} : ∀ {binds : List (Str × Value)} {m : Str → Option Value}, (∀ v, (x, v) ∉ binds) → bindL kindOf binds m x = m x
  | [], _, _ => rfl
  | (n, v) :: r, m, h => by
    unfold bindL
    rw [bindL_out fun w hw => h w (List.mem_cons_of_mem _ hw)]
    split
    · have : x ≠ n := by rintro rfl; exact h v List.mem_cons_self
      simp [this]
    · rfl
theorem bindC_out {kindOf : Str → Option NameKind} {x : Str} : ∀ {binds : List (Str × Value)} {m : Str → Option Value}, (∀ v, (x, v) ∉ binds) → bindC kindOf binds m x = m x
  | [], _, _ => rfl
  | (n, v) :: r, m, h => by
    unfold bindC
    rw [bindC_out fun w hw => h w (List.mem_cons_of_mem _ hw)]
    split
    · rfl
    · have : x ≠ n := by rintro rfl; exact h v List.mem_cons_self
      simp [this]
theorem bindL_get {kindOf : Str → Option NameKind} {x : Str} {v : Value} : ∀ {P : List Str} {vs : List Value} {i : Nat} {m : Str → Option Value}, P.Nodup → P[i]? = some x → vs[i]? = some v → kindOf x = some .local →
    bindL kindOf (P.zip vs) m x = some v
  | [], _, _, _, _, h, _, _ => by simp at h
  | _ :: _, [], _, _, _, _, h, _ => by simp at h
  | p :: P, w :: vs, 0, m, nd, h1, h2, hk => by
    simp at h1 h2; subst h1; subst h2
    show bindL kindOf ((p, w) :: P.zip vs) m p = _
    unfold bindL
    rw [bindL_out fun v hv => (List.nodup_cons.mp nd).1 (List.of_mem_zip hv).1, if_pos hk]
    simp
  | p :: P, w :: vs, i + 1, m, nd, h1, h2, hk => by
    show bindL kindOf ((p, w) :: P.zip vs) m x = _
    unfold bindL
    exact bindL_get (i := i) (List.nodup_cons.mp nd).2 (by simpa using h1) (by simpa using h2) hk
theorem bindC_get {kindOf : Str → Option NameKind} {x : Str} {v : Value} : ∀ {P : List Str} {vs : List Value} {i : Nat} {m : Str → Option Value}, P.Nodup → P[i]? = some x → vs[i]? = some v → kindOf x ≠ some .local →
    bindC kindOf (P.zip vs) m x = some v
  | [], _, _, _, _, h, _, _ => by simp at h
  | _ :: _, [], _, _, _, _, h, _ => by simp at h
  | p :: P, w :: vs, 0, m, nd, h1, h2, hk => by
    simp at h1 h2; subst h1; subst h2
    show bindC kindOf ((p, w) :: P.zip vs) m p = _
    unfold bindC
    rw [bindC_out fun v hv => (List.nodup_cons.mp nd).1 (List.of_mem_zip hv).1, if_neg hk]
    simp
  | p :: P, w :: vs, i + 1, m, nd, h1, h2, hk => by
    show bindC kindOf ((p, w) :: P.zip vs) m x = _
    unfold bindC
    exact bindC_get (i := i) (List.nodup_cons.mp nd).2 (by simpa using h1) (by simpa using h2) hk

/-- the names' values at the entry -/
def start (N : List Str) (vs : List V) : St := vs.map some ++ List.replicate (N.length - vs.length) none

/-- the context of a def's body, at its entry; an exception leaves the frame, then lies as CX says -/
def cxOf (CX : CXT) (P : Program) (w : World) (K : PySem.W.Frag) (mg : Str → Option Value) (base : Heap) (N : List Str) (qual : Str) (scope : Scope) (f : Addr) (cd : Value) (A : Around) (outer : List Env) (s : Shared) (H : Hp) (E : XK) : Cx where
  prog := P
  w := w
  K := K
  mg := mg
  base := base
  A := A.deeper (envOfC qual scope s.heap.objs.size f cd)
  N := N
  s₀ := s
  H₀ := H
  env := envOfC qual scope s.heap.objs.size f cd
  outer := outer
  stack := envOfC qual scope s.heap.objs.size f cd :: outer
  ex := []
  calm := true
  fn := fun _ => true
  pn := []
  xe := fun e s' => wpAny (model P w) (A.deeper (envOfC qual scope s.heap.objs.size f cd)) (leaving (envOfC qual scope s.heap.objs.size f cd) e) (fun _ s'' => CX outer H s E e s'') (fun e' s'' => CX outer H s E e' s'') s'

theorem cell_has {sc : Scope} {n : Nat} {x : Str} (h : sc.names.lookup x = some .cell) : ∃ c, (cellsFrom n sc.names []).lookup x = some c := by
  have q := PySem.W.cellsFrom_some sc.names n [] (.inl h)
  exact Option.isSome_iff_exists.mp q

theorem inv_start {CX : CXT} {P : Program} {w : World} {K : PySem.W.Frag} {mg : Str → Option Value} {base : Heap} {N ps : List Str} {qual : Str} {scope : Scope} {f : Addr} {cd : Value} {A : Around} {outer : List Env} {s s1 : Shared} {H : Hp} {E : XK} {us : List Value} {vs : List V}
    (S : FnScope N ps scope) (hd : A.handled = none) (e0 : Env0 P w K mg base A outer s H) (hl : vs.length = ps.length) (r : Vals vs us)
    (x : InCallC s s.heap.objs.size (bindL (envOfC qual scope s.heap.objs.size f cd).kindOf (ps.zip us) fun _ => none) (cellsFrom (s.heap.objs.size + 1) scope.names []) (bindC (envOfC qual scope s.heap.objs.size f cd).kindOf (ps.zip us) fun _ => none) s1) :
    Inv (cxOf CX P w K mg base N qual scope f cd A outer s H E) [] (start N vs) H s1 := by
  have hpl : ps.length ≤ N.length := by have := congrArg List.length S.pre; rw [List.length_take] at this; omega
  obtain ⟨h1, tk, rfl, hk⟩ := x.done
  have noA : ∀ b : Addr, b ∉ (cxOf CX P w K mg base N qual scope f cd A outer s H E).ex := fun b z => absurd (show b ∈ ([] : List Addr) from z) (by simp)
  refine ⟨⟨e0.mod, S.kind, rfl, rfl, Nat.le_refl _, fun y z c h1 h2 => ?_, fun y hy => ?_, fun y c _ h => ?_, fun _ => hd, Around.frames_deeper e0.frames, .inr ⟨rfl, rfl⟩, fun b z => absurd z (noA b), e0.bs, e0.bsz, fun b _ _ => noA b, fun b z => absurd z (noA b), e0.funs, e0.frf⟩,
    rfl, e0.bare, Un.kept hk, ⟨_, x.toInCall.ns, fun i y v h1 h2 h3 => ?_⟩, fun y c h => ⟨_, x.cell y c h⟩, e0.hok.fresh (Nat.le_refl _), fun y c h => ?_, fun p hp => absurd (show p ∈ ([] : List (Addr × Obj)) from hp) (by simp), e0.hok.kept hk, ?_⟩
  · exact name_of_addr x.apart (PySem.mem_of_lookup h1) (PySem.mem_of_lookup h2)
  · have hy : scope.names.lookup y = some .cell ∨ scope.names.lookup y = some .free := hy
    rcases hy with hy | hy
    · exact cell_has hy
    · exact absurd rfl (S.nofree _ (PySem.mem_of_lookup hy))
  · exact Nat.le_of_lt (x.above y c (PySem.mem_of_lookup h))
  · have hi : i < vs.length := by
      unfold start at h2
      by_cases hi : i < vs.length
      · exact hi
      · rw [List.getElem?_append_right (by simpa using hi)] at h2
        rw [List.getElem?_replicate] at h2
        split at h2 <;> cases h2
    have ha : vs[i]? = some v := by
      unfold start at h2
      rw [List.getElem?_append_left (by simpa using hi), List.getElem?_map] at h2
      cases e : vs[i]? with
      | none => rw [e] at h2; cases h2
      | some a => rw [e] at h2; cases h2; rfl
    obtain ⟨u, hu, rv⟩ := r.get ha
    have hp : ps[i]? = some y := by
      rw [← S.pre, List.getElem?_take_of_lt (by omega)]; exact h1
    have ndP : ps.Nodup := by rw [← S.pre]; exact S.nd.sublist (List.take_sublist _ _)
    refine ⟨u, rv, ?_⟩
    rcases S.par y (List.mem_of_getElem? hp) with k | k
    · exact .inl ⟨k, bindL_get ndP hp hu k⟩
    · obtain ⟨c, e⟩ := cell_has (n := s.heap.objs.size + 1) k
      refine .inr ⟨.inl k, c, e, ?_⟩
      have q := x.cell y c e
      rw [bindC_get ndP hp hu (by show scope.names.lookup y ≠ _; rw [k]; decide)] at q
      exact q
  · exact e0.hok.fresh (Nat.le_of_lt (x.above y c (PySem.mem_of_lookup h)))
  · unfold start
    show _ = N.length
    rw [List.length_append, List.length_map, List.length_replicate]
    omega

/-- THE RULE: a def (or a method) of the text, by its body. The body's reading t is chosen for each entry; it is run at the parameters' values -/
theorem fn_of {CX : CXT} {P : Program} {w : World} {K : PySem.W.Frag} {mg : Str → Option Value} {base : Heap} {k : Nat} {f : Addr} {name qual : Str} {params : Arguments} {body : List Stmt} {scope : Scope} {dV kV doc pm cdv ct oc : Value} {an od : Option Addr}
    {osl : Array (Option Value)} {N ps : List Str} {sp : Sp} (lk : K.lookup f = some ⟨oc, od, .func (PySem.W.fnOf name qual params body scope dV kV doc pm an cdv ct), osl⟩) (hcd : PySem.W.codeIn K cdv qual = true) (S : FnScope N ps scope)
    (len : ∀ vs H Q E, sp vs H Q E → vs.length = ps.length)
    (hbody : ∀ (A : Around) (outer : List Env) (s : Shared) (H : Hp) (vs : List V) (Q : VK) (E : XK), Room k (A.deeper (envOfC qual scope s.heap.objs.size f cdv)) → sp vs H Q E →
      ∃ t, PSs (cxOf CX P w K mg base N qual scope f cdv A outer s H E) body t ∧ t { nx := fun _ H' => Q .non H', rt := Q } (start N vs) H) :
    FnOk P w K mg base CX (k + 1) f (PySem.W.fnOf name qual params body scope dV kV doc pm an cdv ct) ps sp := by
  refine ⟨len, fun A outer s H args us vs Q E hr e0 hb r hsp => ?_⟩
  have hl := len _ _ _ _ hsp
  have KX : K.In s.heap := e0.mod.kin.keeps fun b o e => (e0.bs b o e).1
  have lim : s.heap.NoLimit := e0.mod.nolimit.keeps fun b o e => (e0.bs b o e).1
  have hkind : ∀ y ∈ ps.zip us, scope.names.lookup y.1 = some .local ∨ (scope.names.lookup y.1 = some .cell ∧ ((cellsFrom (s.heap.objs.size + 1) scope.names []).lookup y.1).isSome = true) := fun ⟨n, v⟩ hy => by
    rcases S.par n (List.of_mem_zip hy).1 with q | q
    · exact .inl q
    · exact .inr ⟨q, PySem.W.cellsFrom_some _ _ _ (.inl q)⟩
  refine codeAny_call_function hr.depth (KX _ _ lk) rfl S.co S.gen rfl (PySem.W.codeRec_of KX hcd) (hb _ _ _ _ ?_)
  refine wpAny_newFunctionEnv_cells S.kind hkind fun env he s1 x => ?_
  subst he
  refine ⟨lim.keeps x.toInCall.keep, codeAny_func ?_⟩
  obtain ⟨t, ht, hq⟩ := hbody A outer s H vs Q E (hr.deeper _) hsp
  have I : Inv (cxOf CX P w K mg base N qual scope f cdv A outer s H E) [] (start N vs) H s1 := inv_start S hr.hd e0 hl r x
  refine wpAny_mono (ht [] s1 (start N vs) H _ I hq) (fun fl s' hs => ?_) fun e s' hs => hs
  have fin : ∀ {σ' : St} {H' : Hp} {v : V} {u : Value}, Inv (cxOf CX P w K mg base N qual scope f cdv A outer s H E) [] σ' H' s' → RelV v u → Q v H' → CE outer P w H s Q u s' :=
    fun {σ' H' v u} J rv q => ⟨v, H', J.os, J.bare, J.base, J.hok, rv, q⟩
  cases fl with
  | ret u =>
    obtain ⟨v, σ', H', J, rv, q⟩ := hs
    exact fin J rv q
  | next =>
    obtain ⟨σ', H', J, q⟩ := hs
    exact fin (v := V.non) (u := Value.none) J rfl q
  | brk =>
    obtain ⟨_, _, _, q⟩ := hs
    exact False.elim q
  | cont =>
    obtain ⟨_, _, _, q⟩ := hs
    exact False.elim q
end L2

namespace L2
open PySem PySem.Spec PyProof.Rows
section
variable {X : Cx} {x : Str} {p pos : Pos} {e : Expr} {es : List Expr} {t : TA} {id T : String} {r : List V → Hp → VK → Prop}

def tCB (r : List V → Hp → VK → Prop) (t : TA) : TE := fun σ H Q => t σ H fun vs H1 => r vs H1 Q
/-- f(e, ..), f a built-in function -/
theorem pe_callB (hc : CallR X (.builtin id) r) (hg : Gl X x) (hm : X.mg x = none) (hv : bootBuiltins x = some (.builtin id)) (ha : PA X (e :: es) t) (hn : x ≠ "__name__" := by decide) (hdb : (x == ("__debug__" : Str)) = false := by decide)
    (he : starEach (e :: es) X.env = (false, eval e X.env) :: starEach es X.env := by rfl) (hpl : (backTo pos (starEach es X.env)).any (·.1) = false := by rfl) : PE X (.Call (.Name x p) (e :: es) [] pos) (tCB r t) := by
  intro pins s σ H Q I h
  refine wpAny_Call_Name_kw (ld_blt I hg hm hv ?_ hn hdb)
  exact PyProof.Rows.callWith_builtin1 (thn (ha pos pins s σ H _ I h) fun us s1 ⟨vs, H1, I1, r1, q1⟩ => hc pins s1 σ H1 vs us Q I1 r1 q1) he hpl
end
end L2

namespace HT
open PySem PyProof.Rows

section
open PySem.SeqAt
open PySem.AutoSeq1 (wpAny_loadPart')
open PySem.MeetsSeq PySem.MeetsSeq2 PySem.MeetsSeq3

end

section
variable {prog : Program} {w : World} {A : Around} {E : Value → Shared → Prop} {s : Shared}

/-! ### t[a:b], not the whole -/
/-- a slice's bound as a place among n (d where it is left out) -/
def sIx (n d : Nat) : Option Int → Nat
  | none => d
  | some v => if v < 0 then (v + (n : Int)).toNat else min v.toNat n
theorem sIx_none (n d : Nat) : sIx n d none = d := rfl
theorem sIx_nat (n d k : Nat) : sIx n d (some (k : Int)) = min k n := by
  show (if (k : Int) < 0 then ((k : Int) + (n : Int)).toNat else min (k : Int).toNat n) = min k n
  rw [if_neg (by omega), Int.toNat_natCast]
end
end HT

namespace L2
open PySem PySem.Spec PyProof.Rows

/-! ### the parts of a slice -/
abbrev TO := St → Hp → (Option Int → Hp → Prop) → Prop
/-- a slice's part (left out, or an int) -/
def PO (X : Cx) (e : Option Expr) (t : TO) : Prop :=
  ∀ (pins : List (Addr × Obj)) (s : Shared) (σ : St) (H : Hp) (Q : Option Int → Hp → Prop), Inv X pins σ H s → t σ H Q →
    wpAny (model X.prog X.w) X.A (evalPart e X.env) (fun u s' => ∃ o H', Inv X pins σ H' s' ∧ IsPart u o ∧ Q o H') X.xe s
def tNoPart : TO := fun _ H Q => Q none H
def tPart (t : TE) : TO := fun σ H Q => t σ H fun x H1 => ∃ i, x = .int i ∧ Q (some i) H1

section
variable {X : Cx} {e : Expr} {te : TE} {lo hi : Option Expr} {tl th : TO} {pos p2 : Pos}

theorem po_none : PO X none tNoPart := by
  intro pins s σ H Q I h
  rw [evalPart_none]
  exact wpAny_pure ⟨none, H, I, .none, h⟩
theorem po_some (h : PE X e te) : PO X (some e) (tPart te) := by
  intro pins s σ H Q I hw
  rw [evalPart_some]
  refine thn (h pins s σ H _ I hw) fun u s1 ⟨x, H1, I1, r1, q1⟩ => ?_
  obtain ⟨i, rfl, q⟩ := q1
  obtain ⟨t, rfl⟩ := r1
  exact ⟨some i, H1, I1, .int i t, q⟩

/-- what a slice of a value is, by values: the slice object stands at sl -/
def SlR (X : Cx) (r : V → Option Int → Option Int → Hp → VK → Prop) : Prop :=
  ∀ (pins : List (Addr × Obj)) (s : Shared) (σ : St) (H : Hp) (x : V) (v vl vu : Value) (lo hi : Option Int) (sl : Addr) (Q : VK), Inv X pins σ H s → RelV x v → s.heap.IsSliceOf sl vl vu .none → IsPart vl lo → IsPart vu hi → r x lo hi H Q →
    ∃ T id, typeLookup (.type T) "__getitem__" = pure (some (.builtin id)) ∧ s.TypeIs v T ∧ wpAny (model X.prog X.w) X.A (getItem v (.ref sl)) (EP X pins σ Q) X.xe s
theorem SlR.or {r r' : V → Option Int → Option Int → Hp → VK → Prop} (h : SlR X r) (h' : SlR X r') : SlR X (fun x lo hi H Q => r x lo hi H Q ∨ r' x lo hi H Q) := by
  intro pins s σ H x v vl vu lo hi sl Q I rx hs pl pu q
  rcases q with q | q
  · exact h pins s σ H x v vl vu lo hi sl Q I rx hs pl pu q
  · exact h' pins s σ H x v vl vu lo hi sl Q I rx hs pl pu q
def tSl (r : V → Option Int → Option Int → Hp → VK → Prop) (te : TE) (tl th : TO) : TE := fun σ H Q => te σ H fun x H1 => tl σ H1 fun l H2 => th σ H2 fun u H3 => r x l u H3 Q
/-- a[lo:hi], any a -/
theorem pe_slice {r : V → Option Int → Option Int → Hp → VK → Prop} (hr : SlR X r) (he : PE X e te) (hl : PO X lo tl) (hu : PO X hi th) : PE X (.Subscript e (.Slice lo hi none p2) pos) (tSl r te tl th) := by
  intro pins s σ H Q I h
  refine Subscript_ (thn (he pins s σ H _ I h) fun v s1 ⟨x, H1, I1, r1, q1⟩ => ?_)
  refine wpAny_Slice (thn (hl pins s1 σ H1 _ I1 q1) fun vl s2 ⟨l, H2, I2, pl, q2⟩ => thn (hu pins s2 σ H2 _ I2 q2) fun vu s3 ⟨u, H3, I3, pu, q3⟩ => ?_)
  rw [evalPart_none]
  refine wpAny_pure ?_
  have I4 : Inv X pins σ H3 { s3 with heap := s3.heap.push { cls := .type "slice", data := .fields #[vl, vu, .none] } } := I3.kept (t' := s3.toks) fun b ob q => Heap.get?_push_of_some _ q
  obtain ⟨T, id, hT, ht, hg⟩ := hr pins { s3 with heap := s3.heap.push { cls := .type "slice", data := .fields #[vl, vu, .none] } } σ H3 x v vl vu l u s3.heap.objs.size Q I4 r1 (Heap.IsSliceOf.new ..) pl pu q3
  show wpAny (model X.prog X.w) X.A (subscriptTail e (.Slice lo hi none p2) v (.ref s3.heap.objs.size)) (EP X pins σ Q) X.xe { s3 with heap := s3.heap.push { cls := .type "slice", data := .fields #[vl, vu, .none] } }
  exact tail_any (ops := [.ref s3.heap.objs.size, v]) ht hT hg (by with_unfolding_all rfl)

/-- the items of xs[lo:hi] -/
def cutV (xs : List V) (lo hi : Option Int) : List V := (xs.drop (HT.sIx xs.length 0 lo)).take (HT.sIx xs.length xs.length hi - HT.sIx xs.length 0 lo)
theorem cutV_length (xs : List V) (lo hi : Option Int) : (cutV xs lo hi).length ≤ xs.length := by
  unfold cutV
  rw [List.length_take, List.length_drop]
  omega
/-! ### t < u, t + u -/
end
end L2

namespace L2
open PySem PySem.Spec PyProof.Rows

/-! ### places -/
/-- the place that an index of any sign means -/
def ixN (n : Nat) (i : Int) : Option Nat := if 0 ≤ i then (if i < n then some i.toNat else none) else if -(n : Int) ≤ i then some (i + n).toNat else none
def atI {α : Type} (xs : List α) (i : Int) : Option α := (ixN xs.length i).bind fun j => xs[j]?
theorem ixN_seq {n : Nat} {i : Int} {j : Nat} (h : ixN n i = some j) : seqIndex? i n = some j ∧ j < n ∧ -(n : Int) ≤ i ∧ i < n := by
  unfold ixN at h
  by_cases h0 : 0 ≤ i
  · rw [if_pos h0] at h
    by_cases h1 : i < n
    · rw [if_pos h1] at h
      have e : i.toNat = j := Option.some.inj h
      exact ⟨by rw [seqIndex_of h0 h1, e], by omega, by omega, h1⟩
    · rw [if_neg h1] at h; cases h
  · rw [if_neg h0] at h
    by_cases h1 : -(n : Int) ≤ i
    · rw [if_pos h1] at h
      have e : (i + n).toNat = j := Option.some.inj h
      exact ⟨by rw [seqIndex_neg (by omega) h1, e], by omega, h1, by omega⟩
    · rw [if_neg h1] at h; cases h
theorem atI_get {α : Type} {xs : List α} {i : Int} {v : α} (h : atI xs i = some v) : ∃ j, seqIndex? i xs.length = some j ∧ xs[j]? = some v ∧ j < xs.length ∧ -(xs.length : Int) ≤ i ∧ i < xs.length := by
  unfold atI at h
  cases e : ixN xs.length i with
  | none => rw [e] at h; cases h
  | some j =>
    rw [e] at h
    obtain ⟨h1, h2, h3, h4⟩ := ixN_seq e
    exact ⟨j, h1, h, h2, h3, h4⟩
theorem atI_nat {α : Type} {xs : List α} {j : Nat} {v : α} (h : xs[j]? = some v) : atI xs (j : Int) = some v := by
  have hj : j < xs.length := (List.getElem?_eq_some_iff.mp h).1
  have e : ixN xs.length (j : Int) = some j := by
    unfold ixN
    rw [if_pos (by omega), if_pos (by omega)]; simp
  unfold atI; rw [e]; exact h
/-! ### what may be subscripted -/
/-- what stands as an index of a plain subscript -/
def PlainIx (b : Expr) : Prop := ∀ o i, subscripted b false o i = operate [o, i] (getItem o i)
/-- a subscript by values -/
def IxR (X : Cx) (r : R2) : Prop :=
  ∀ (value slice : Expr) (pins : List (Addr × Obj)) (s : Shared) (σ : St) (H : Hp) (x y : V) (v u : Value) (Q : VK), Inv X pins σ H s → RelV x v → RelV y u → r x y H Q →
    subscripted slice false v u = operate [v, u] (getItem v u) → wpAny (model X.prog X.w) X.A (subscriptTail value slice v u) (EP X pins σ Q) X.xe s
/-- a call of a builtin's method by values: the receiver, the arguments -/
def MtR (X : Cx) (id : String) (r : V → List V → Hp → VK → Prop) : Prop :=
  ∀ (pins : List (Addr × Obj)) (s : Shared) (σ : St) (H : Hp) (x : V) (xs : List V) (v : Value) (us : List Value) (Q : VK), Inv X pins σ H s → RelV x v → Vals xs us → r x xs H Q →
    wpAny (model X.prog X.w) X.A (call (.builtin id) (v :: us)) (EP X pins σ Q) X.xe s
section
variable {X : Cx} {a b : Expr} {ta tb : TE} {pos : Pos}
theorem IxR.or {r r' : R2} (h : IxR X r) (h' : IxR X r') : IxR X (fun x y H Q => r x y H Q ∨ r' x y H Q) := by
  intro value slice pins s σ H x y v u Q I rx ry q hs
  rcases q with q | q
  · exact h value slice pins s σ H x y v u Q I rx ry q hs
  · exact h' value slice pins s σ H x y v u Q I rx ry q hs
theorem MtR.or {id : String} {r r' : V → List V → Hp → VK → Prop} (h : MtR X id r) (h' : MtR X id r') : MtR X id (fun x xs H Q => r x xs H Q ∨ r' x xs H Q) := by
  intro pins s σ H x xs v us Q I rx rs q
  rcases q with q | q
  · exact h pins s σ H x xs v us Q I rx rs q
  · exact h' pins s σ H x xs v us Q I rx rs q
/-- a[b] -/
theorem pe_ix {r : R2} (hr : IxR X r) (ha : PE X a ta) (hb : PE X b tb) (hs : PlainIx b) : PE X (.Subscript a b pos) (tOp r ta tb) := by
  intro pins s σ H Q I h
  exact Subscript_ (binT ha hb I h fun v u s2 x y H2 I2 rx ry q => hr a b pins s2 σ H2 x y v u Q I2 rx ry q (hs _ _))

def rIxL (K : PySem.W.Frag) : R2 := fun x y H Q => ∃ p xs i v, x = .ref p ∧ y = .int i ∧ SqL K H p xs ∧ atI xs i = some v ∧ Q v H
def rIxT (K : PySem.W.Frag) : R2 := fun x y H Q => ∃ p xs i v, x = .ref p ∧ y = .int i ∧ SqT K H p xs ∧ atI xs i = some v ∧ Q v H
theorem ix_list : IxR X (rIxL X.K) := by
  intro value slice pins s σ H x y v u Q I rx ry h hs
  obtain ⟨p, xs, i, z, rfl, rfl, hq, he, q⟩ := h
  cases rx
  obtain ⟨t, rfl⟩ := ry
  obtain ⟨its, r, pl, hz⟩ := I.list hq
  obtain ⟨j, h1, h2, h3, h4, h5⟩ := atI_get he
  obtain ⟨w, ew, rw'⟩ := r.get h2
  have hl := r.length
  have hn := line63
  have fin : EP X pins σ Q w s := ⟨z, H, I, rw', q⟩
  by_cases h0 : 0 ≤ i
  · have hj : i.toNat = j := by
      rw [seqIndex_of h0 h5] at h1
      exact Option.some.inj h1
    exact item_listR pl.isList h0 (by omega) (by rw [hj]; simpa using ew) fin hs
  · have hj : (i + (its.toArray.size : Int)).toNat = j := by
      rw [seqIndex_neg (by omega) h4] at h1
      rw [List.size_toArray, ← hl]
      exact Option.some.inj h1
    exact subscriptTail_builtinR (x := w) pl.isList.typeIs slot_list_getitem.lookup
      (wpAny_getItem_list_neg (Q := fun r s' => r = w ∧ EP X pins σ Q r s') pl.isList (by omega) (by rw [List.size_toArray] <;> omega) (by omega) (by rw [hj]; simpa using ew) ⟨rfl, fin⟩) hs
theorem ix_tup : IxR X (rIxT X.K) := by
  intro value slice pins s σ H x y v u Q I rx ry h hs
  obtain ⟨p, xs, i, z, rfl, rfl, hq, he, q⟩ := h
  cases rx
  obtain ⟨t, rfl⟩ := ry
  obtain ⟨its, r, pl, hz⟩ := I.tuple hq
  obtain ⟨j, h1, h2, h3, h4, h5⟩ := atI_get he
  obtain ⟨w, ew, rw'⟩ := r.get h2
  have hl := r.length
  have hn := line63
  have fin : EP X pins σ Q w s := ⟨z, H, I, rw', q⟩
  exact subscriptTail_builtinR (x := w) pl.typeIs slot_tuple_getitem.lookup
    (getItem_tuple (j := j) (Q := fun r s' => r = w ∧ EP X pins σ Q r s') pl (by omega) (by omega) (by rw [List.size_toArray, ← hl]; exact h1) (by simpa using ew) ⟨rfl, fin⟩) hs
/-! ### xs[i] = v, any sign -/
theorem Inv.lst {pins : List (Addr × Obj)} {σ : St} {H : Hp} {s : Shared} {p : Addr} {xs : List V} (I : Inv X pins σ H s) (h : H p = some (.lst xs)) :
    ∃ (its : List Value) (n : Nat), Vals xs its ∧ s.heap.get? p = some { cls := .type "list", data := .seq its.toArray n } ∧ xs.length ≤ sizeLine := by
  obtain ⟨z, its, n, r, e⟩ := I.hok p _ h
  exact ⟨its, n, r, e, z⟩
/-! ### slices -/
theorem slice_bounds (lo hi : Option Int) (n : Nat) : (sliceBounds lo hi none n).1 = ((HT.sIx n 0 lo : Nat) : Int) ∧ (sliceBounds lo hi none n).2.1 = ((HT.sIx n n hi : Nat) : Int) ∧ (sliceBounds lo hi none n).2.2 = 1 := by
  refine ⟨?_, ?_, rfl⟩
  · cases lo with
    | none => simp [sliceBounds, HT.sIx]
    | some i =>
      simp only [sliceBounds, HT.sIx, Option.getD_none, show (1 : Int) > 0 by decide, if_true]
      by_cases h : i < 0
      · simp only [h, if_true] <;> omega
      · simp only [h, if_false] <;> omega
  · cases hi with
    | none => simp [sliceBounds, HT.sIx]
    | some i =>
      simp only [sliceBounds, HT.sIx, Option.getD_none, show (1 : Int) > 0 by decide, if_true]
      by_cases h : i < 0
      · simp only [h, if_true] <;> omega
      · simp only [h, if_false] <;> omega
theorem slicePick_cut (its : List Value) (lo hi : Option Int) : slicePick its.toArray lo hi none = ((its.drop (HT.sIx its.length 0 lo)).take (HT.sIx its.length its.length hi - HT.sIx its.length 0 lo)).toArray := by
  obtain ⟨h1, h2, h3⟩ := slice_bounds lo hi its.toArray.size
  unfold slicePick
  rw [h1, h2, h3]
  simp only [sliceRange_one, pick_run, List.size_toArray] <;> rfl
/-- xs[lo:hi] of a list: a new list -/
def rSlL (K : PySem.W.Frag) : V → Option Int → Option Int → Hp → VK → Prop := fun x lo hi H Q => ∃ a xs, x = .ref a ∧ SqL K H a xs ∧ ∀ p, H p = none → Q (.ref p) (upd H p (.lst (cutV xs lo hi)))
theorem sl_list : SlR X (rSlL X.K) := by
  intro pins s σ H x v vl vu lo hi sl Q I rx hs pl pu h
  obtain ⟨a, xs, rfl, hx, q⟩ := h
  cases rx
  obtain ⟨its, r, ht, hz⟩ := I.list hx
  have hlen := r.length
  refine ⟨"list", _, slot_list_getitem.lookup, ht.isList.typeIs, ?_⟩
  refine wpAny_getItem_list_slice ht.isList hs pl pu .none (by simp) ?_ (by rw [List.size_toArray] <;> omega)
  rw [slicePick_cut, ← hlen]
  refine ⟨.ref s.heap.objs.size, _, I.laid (t' := s.toks) (o := .lst (cutV xs lo hi)) (fun b ob q => Heap.get?_push_of_some _ q) (Nat.le_refl _) ?_, rfl, q _ (I.hok.fresh (Nat.le_refl _))⟩
  exact ⟨Nat.le_trans (cutV_length xs lo hi) hz, _, 0, (r.drop (HT.sIx xs.length 0 lo)).take (HT.sIx xs.length xs.length hi - HT.sIx xs.length 0 lo), Heap.get?_push_size _ rfl⟩

/-! ### in, not in: flat items -/
/-! ### len, list(x), tuple(x) of any list or tuple that is read -/
theorem call_len_seq : CallR X (.builtin "len") (fun xs H Q => ∃ p ys, xs = [.ref p] ∧ (SqL X.K H p ys ∨ SqT X.K H p ys) ∧ Q (.int ys.length) H) := by
  intro pins s σ H xs us Q I r h
  obtain ⟨p, ys, rfl, hq, q⟩ := h
  obtain ⟨u, rfl, rx⟩ := vals1 r
  cases rx
  have hn := line63
  rcases hq with hq | hq
  · obtain ⟨its, r', pl, hz⟩ := I.list hq
    have hlen := r'.length
    exact Calls.call_len_list pl.isList (by simp only [List.size_toArray] <;> omega) ⟨.int ys.length, H, I.tok _, ⟨s.toks + 1, by rw [List.size_toArray, hlen]⟩, q⟩
  · obtain ⟨its, r', pl, hz⟩ := I.tuple hq
    have hlen := r'.length
    exact len_tuple pl (by simp only [List.size_toArray] <;> omega) ⟨.int ys.length, H, I.tok _, ⟨s.toks + 1, by rw [List.size_toArray, hlen]⟩, q⟩
theorem CallR.or {f : Value} {r r' : List V → Hp → VK → Prop} (h : CallR X f r) (h' : CallR X f r') : CallR X f (fun xs H Q => r xs H Q ∨ r' xs H Q) := by
  intro pins s σ H xs us Q I rs q
  rcases q with q | q
  · exact h pins s σ H xs us Q I rs q
  · exact h' pins s σ H xs us Q I rs q
/-! ### the call of a builtin's method: o.m(..) -/
variable {o e : Expr} {es : List Expr} {to : TE} {t : TA} {name : Str} {apos cpos : Pos} {T id : String} {r : V → List V → Hp → VK → Prop}
/- xs.append(e), list.index on a module's tuple .. are MtR facts of 06m -/
end
end L2

namespace L2
open PySem PySem.Spec PyProof.Rows

/-! ### lists of values -/
theorem Vals.one : ∀ {x : V} {us : List Value}, Vals [x] us → ∃ u, us = [u] ∧ RelV x u
  | _, _, .cons r .nil => ⟨_, rfl, r⟩
theorem Vals.two : ∀ {x y : V} {us : List Value}, Vals [x, y] us → ∃ u v, us = [u, v] ∧ RelV x u ∧ RelV y v
  | _, _, _, .cons r (.cons q .nil) => ⟨_, _, rfl, r, q⟩
theorem Vals.zero : ∀ {us : List Value}, Vals [] us → us = []
  | _, .nil => rfl
theorem Vals.dropLast {xs : List V} {us : List Value} (h : Vals xs us) : Vals xs.dropLast us.dropLast := by
  induction h with
  | nil => exact .nil
  | cons r t ih =>
    cases t with
    | nil => exact .nil
    | cons q t' => exact .cons r ih
theorem Vals.reverse {xs : List V} {us : List Value} (h : Vals xs us) : Vals xs.reverse us.reverse := by
  induction h with
  | nil => exact .nil
  | cons r t ih => rw [List.reverse_cons, List.reverse_cons]; exact Vals.append ih (.cons r .nil)
section
variable {X : Cx} {pins : List (Addr × Obj)} {σ : St} {H : Hp} {s : Shared} {l b : Addr} {xs ys zs : List V}

/-! ### the two steps: a tracked list is rewritten, a new list is laid -/
theorem Inv.fresh (I : Inv X pins σ H s) : H s.heap.objs.size = none := I.hok.fresh (Nat.le_refl _)
end

section
variable {X : Cx}

/-! ### methods -/
/-! ### list + list, list += list, list * int -/
/-! ### del xs[i] -/
end

/-! ### xs[a:b] = ys -/
section
variable {prog : Program} {w : World} {A : Around} {E : Value → Shared → Prop} {s : Shared}
end

section
variable {X : Cx}
end
end L2

namespace Att
open PySem PySem.W PySem.Calls PyProof.Rows

/-! ### the script -/
theorem ints_of_wellAll {P : Params} {h : Heap} : ∀ (ns : List Int) (vs : List Value), WellAll P h vs (ns.map WData.int) → IntsAre vs ns := by
  intro ns
  induction ns with
  | nil =>
    intro vs w
    rw [List.map_nil] at w
    cases w
    exact .nil
  | cons n ns ih =>
    intro vs w
    rw [List.map_cons] at w
    cases w with
    | cons a b =>
      cases a
      exact .cons _ _ (ih _ b)

theorem script_of {l : OpenLaw} {n : Nat} (hn : l.most = some n) {P : Params} {h : Heap} {args : List WData} {vals : List Value}
    (hpre : l.row.toRowW.claim.pre args = true) (hwl : WellAll P h vals args) :
    ∃ a vs ns, vals = [Value.ref a] ∧ args = [WData.list (ns.map WData.int)] ∧ h.get? a = some { cls := .type "list", data := .seq vs.toArray } ∧ IntsAre vs ns ∧ ns.length ≤ n := by
  have hsh : WShape.hasAll [] args [.list .int] = true := (pre_splitW hpre).1
  have hc : l.pre.holds [] { args := args } = true := (pre_splitW hpre).2
  obtain ⟨d, r, rfl, h1, h2⟩ := hasAllW_cons hsh
  obtain rfl := hasAllW_nil h2
  obtain ⟨xs, rfl, h3⟩ := hasW_list h1
  obtain ⟨ns, rfl⟩ := items_int h3
  have hlen : ns.length ≤ n := by
    unfold OpenLaw.pre at hc
    have h4 : (WTm.not (.lt (.lit (.int (n : Int))) (.len (.arg 0)))).holds [] { args := [.list (ns.map .int)] } = true := by
      have h4 := (holds_andW hc).1
      rw [hn] at h4
      exact h4
    have h5 := condW_of h4 (w_not (w_lt w_lit (w_len_list (w_arg rfl))))
    rw [List.length_map] at h5
    refine Nat.le_of_not_lt fun q => ?_
    have q' : (n : Int) < ((ns.length : Nat) : Int) := by omega
    first
      | (rw [decide_eq_true q'] at h5; exact absurd h5 (by decide))
      | (simp at h5; omega)
  cases hwl with
  | cons w1 w2 =>
    cases w2
    cases w1 with
    | list ho hall => exact ⟨_, _, ns, rfl, rfl, ho, ints_of_wellAll ns _ hall, hlen⟩

theorem post_true (l : OpenLaw) (args : List WData) : l.row.toRowW.claim.post args (.bool true) args = true :=
  postW_of (r := l.row.toRowW) (X := (true == true))
    (show WShape.has [] (.bool true) .bool = true by first | rfl | decide | simp [WShape.has, WShape.arms, WShape.armsAll])
    (show (WTm.eq .res (.lit (.bool true))).value [] { args := args, res := some (.bool true), after := args } = some (.bool (true == true)) from w_eq_bool (w_res rfl) w_lit) rfl

/-! ### the attachment: holds_open's last premise (the goal 'hc' behind k_head) from a wpAny of the law's body -/
/-- the same from a codeAny of the CALL (for a layer whose function contracts speak of calls) -/
theorem attach_call {l : OpenLaw} {n : Nat} {q : Program} {loose : List Str} {XP : (Str → Option Value) → Heap → Prop} {YP : World → Heap → Prop} {d : DefRec}
    (hn : l.most = some n) (hdf : d.params.defaults = [])
    (call : ∀ (w : World) (s₀ s₁ : Shared) (mg mb : Str → Option Value) (fa : Addr) (o : Obj) (pm cd doc : Value) (a : Addr) (vs : List Value) (ns : List Int),
      Ground q loose [] XP w s₀ mg mb s₁.heap → YP w s₁.heap →
      s₁.heap.get? fa = some o → o.data = .func (docDef d.name d.params d.body d.scope pm cd doc) → s₁.heap.CodeRec cd d.name → mg d.name = some (.ref fa) →
      s₁.heap.get? a = some { cls := .type "list", data := .seq vs.toArray } → IntsAre vs ns → ns.length ≤ n → s₁.gens = #[] →
      codeAny (model l.prog w) callerA (.call (.ref fa) ⟨[.ref a], []⟩) (fun r s' => r = .ok (.ret (.bool true)) ∧ OldK s₁.heap s'.heap ∧ s'.os = s₁.os ∧ AllBare s'.gens) s₁) :
    WalkO q loose XP YP l.row.toRowW d [] (fun f vs => PySem.call f vs) := by
  intro w s₀ s₁ mg mb G Y fa o pm cd doc dV kV ho hd hcd hD hmg hg args vals as hpre hlay hrd hwl hlo
  obtain rfl : dV = .none := Dflts.none hD hdf
  obtain rfl : kV = .none := Dflts.noKw hD
  obtain ⟨a, vs, ns, rfl, rfl, hobj, hints, hlen⟩ := script_of hn hpre hwl
  refine enter_call (codeAny_mono (call w s₀ s₁ mg mb fa o pm cd doc a vs ns G Y ho (fd_plain hd) hcd hmg hobj hints hlen hg) fun r s' hq => ?_)
  obtain ⟨rfl, h2, h3, h4⟩ := hq
  exact ⟨.inl ⟨.bool true, .bool true, [], rfl, fun _ => rfl, .bool true, post_true l _, fun _ => ⟨List.Pairwise.nil, fun _ hm => (nomatch hm)⟩⟩, h2, h3, h4⟩

/-! ### rules over ANY heap (no ledger) from facts about the written part K: the library's own take a ledger (News) for what they write -/
section
variable {prog : Program} {w : World} {A : Around} {E : Value → Shared → Prop} {s : Shared} {K : Frag}

/-! the whole heap as the ledger: makes every rule that writes through a ledger a rule over any heap -/
def ledger (h : Heap) (L d : Addr) : List (Addr × Obj) := (List.range h.objs.size).filterMap fun a => if a = L ∨ a = d then none else (h.get? a).map fun o => (a, o)
end
end Att

namespace L2
open PySem PySem.Spec PyProof.Rows

theorem vals_ints : ∀ {vs : List Value} {ns : List Int}, IntsAre vs ns → Vals (ns.map V.int) vs
  | _, _, .nil => .nil
  | _, _, .cons n t h => .cons ⟨t, rfl⟩ (vals_ints h)

/-- nothing is tracked but the script, known to the object (or it is an object of the module) -/
def Only (H : Hp) : Prop := ∀ b, H b = none ∨ ∃ o xs, H b = some (.frz o (.lst xs))

/-- THE HEAD: the law's promise, at the heap behind the top. F, the promise of the law's def, may use that base is part of the heap (so K.In base, base.Ns mainGlobals mg stand in Mod) -/
theorem law_call {P : Program} {w : World} {K : PySem.W.Frag} {mg mb : Str → Option Value} {CX : CXT} {k : Nat} {fa a : Addr} {fd : FuncData} {x : Str} {sp : Sp} {s₁ : Shared} {vs : List Value} {ns : List Int}
    (KX : K.In s₁.heap) (hns : s₁.heap.Ns mainGlobals mg) (hb : s₁.heap.Ns builtinsNs mb) (hbb : ∀ x : Str, x ≠ "__name__" → mb x = bootBuiltins x) (hlim : s₁.heap.NoLimit) (hg : s₁.gens = #[])
    (ha : s₁.heap.get? a = some { cls := .type "list", data := .seq vs.toArray }) (hi : IntsAre vs ns) (hl : ns.length ≤ sizeLine) (hr : Room k callerA)
    (F : ∀ base : Heap, K.In base → base.Ns mainGlobals mg → FnOk P w K mg base CX k fa fd [x] sp) (hbind : ∀ (s : Shared) (u : Value), BindsTo s fd ⟨[u], []⟩ [(x, u)])
    (hsp : ∀ H : Hp, Only H → SqL K H a (ns.map V.int) → sp [.ref a] H (fun v _ => v = .bl true) fun _ _ _ => False)
    (hCX : ∀ H e s', CX [] H s₁ (fun _ _ _ => False) e s' → False) :
    codeAny (model P w) callerA (.call (.ref fa) ⟨[.ref a], []⟩) (fun r s' => r = .ok (.ret (.bool true)) ∧ OldK s₁.heap s'.heap ∧ s'.os = s₁.os ∧ AllBare s'.gens) s₁ := by
  have rv := vals_ints hi
  have lenV := hi.length
  -- from an abstract heap in which nothing but the script may be tracked
  have core : ∀ H : Hp, Only H → SqL K H a (ns.map V.int) → HOk P w H s₁.heap → (∀ b, H b ≠ none → b = a) → (H a ≠ none → K.lookup a = none) →
      codeAny (model P w) callerA (.call (.ref fa) ⟨[.ref a], []⟩) (fun r s' => r = .ok (.ret (.bool true)) ∧ OldK s₁.heap s'.heap ∧ s'.os = s₁.os ∧ AllBare s'.gens) s₁ := by
    intro H hO hS hok hA hK
    have base_of : ∀ {b : Addr} {o : Obj}, s₁.heap.get? b = some o → H b = none → (hidT s₁.heap H).get? b = some o := fun e n => hidT_get e n
    have noA : ∀ {b : Addr} {o : Obj} {es : Array DictEntry} {ep : Nat}, s₁.heap.get? b = some o → o.data = .dict es ep → H b = none := fun {b o es ep} e d => by
      cases q : H b with
      | none => rfl
      | some u =>
        have e' : b = a := hA b (by rw [q]; simp)
        subst e'
        rw [ha] at e; cases e
        have d' : Data.seq vs.toArray _ = Data.dict es ep := d
        cases d'
    have nsK : ∀ {b : Addr} {m : Str → Option Value}, s₁.heap.Ns b m → (hidT s₁.heap H).Ns b m := fun {b m} ⟨o, es, ep, e, d, r⟩ => ⟨o, es, ep, base_of e (noA e d), d, r⟩
    have hKb : K.In (hidT s₁.heap H) := fun b o e => base_of (KX b o e) (by
      cases q : H b with
      | none => rfl
      | some u =>
        have e' : b = a := hA b (by rw [q]; simp)
        subst e'
        rw [hK (by rw [q]; simp)] at e; cases e)
    have hM : Mod K mg (hidT s₁.heap H) := ⟨hKb, nsK hns, ⟨mb, nsK hb, hbb⟩, let ⟨mc, h1, h2⟩ := hlim; ⟨mc, nsK h1, h2⟩⟩
    have e0 : Env0 P w K mg (hidT s₁.heap H) callerA [] s₁ H := ⟨rfl, hM, fun b o e => of_hidT e, Nat.le_of_eq (hidT_size _ _), trivial, fun b hb => absurd (show b ∈ ([] : List Addr) from hb) (by simp), hok, .of_eq hg⟩
    refine codeAny_mono ((F _ hKb (nsK hns)).run callerA [] s₁ H ⟨[.ref a], []⟩ [.ref a] [.ref a] _ _ hr e0 (hbind s₁ (.ref a)) (.cons rfl .nil) (hsp H hO hS)) fun r s' h => ?_
    cases r with
    | error e => exact (hCX H e s' h).elim
    | ok fl =>
      cases fl with
      | next => exact False.elim h
      | brk => exact False.elim h
      | cont => exact False.elim h
      | ret u =>
        obtain ⟨v, H', os, bare, un, hok', r', q⟩ := h
        have q' : v = .bl true := q
        subst q'
        obtain rfl : u = Value.bool true := r'
        refine ⟨rfl, OldK.of_keep fun b o e => ?_, os, bare⟩
        cases q : H b with
        | none => exact un.keep b o e q (by intro z; exact absurd (show b ∈ ([] : List Addr) from z) (by simp)) (by simp)
        | some u =>
          rcases hO b with z | ⟨ob, xs, z⟩
          · rw [q] at z; cases z
          · have z2 := un.frzs b ob _ z
            obtain ⟨e1, _⟩ := hok b _ z
            obtain ⟨e2, _⟩ := hok' b _ z2
            rw [e] at e1; cases e1
            exact e2
  cases hk : K.lookup a with
  | some o =>
    -- the script is one of the module's own objects
    have e := KX a o hk
    rw [ha] at e
    cases e
    refine core (fun _ => none) (fun _ => .inl rfl) (.inr ⟨_, vs.toArray, _, hk, rfl, rfl, rfl, by rw [List.size_toArray, lenV]; exact hl, by simpa using rv⟩) (fun b u z => by have z' : (none : Option HO) = some u := z; cases z') (fun b z => absurd rfl z) fun z => absurd rfl z
  | none =>
    refine core (fun b => if b = a then some (.frz { cls := .type "list", data := .seq vs.toArray } (.lst (ns.map V.int))) else none) (fun b => ?_) (.inl (.inr ⟨{ cls := .type "list", data := .seq vs.toArray }, if_pos rfl⟩)) (fun b u z => ?_) (fun b z => ?_) fun _ => hk
    · by_cases hb : b = a
      · exact .inr ⟨_, _, if_pos hb⟩
      · exact .inl (if_neg hb)
    · by_cases hb : b = a
      · have z' := (if_pos hb).symm.trans z
        cases z'
        subst hb
        exact ⟨ha, by rw [List.length_map]; exact hl, vs, _, rv, ha⟩
      · have z' := (if_neg hb).symm.trans z
        cases z'
    · by_cases hb : b = a
      · exact hb
      · exact absurd (if_neg hb) z
end L2

namespace L2
open PySem PySem.Spec PyProof.Rows

abbrev KOf {K : PySem.W.Frag} {h : Heap} (_ : K.In h) : PySem.W.Frag := K

/-- the goal that k_head leaves (case hc), from the law's promise. F gives the function object fd (K's own) once, then the promise over every base -/
theorem walk_of {l : PySem.W.OpenLaw} {n k : Nat} {q : Program} {loose : List Str} {XP : (Str → Option Value) → Heap → Prop} {YP : World → Heap → Prop} {d : DefRec} {K : Params → PySem.W.Frag} {CX : World → CXT} {sp : World → Sp} {x : Str}
    (hn : l.most = some n) (hn2 : n ≤ sizeLine) (hdf : d.params.defaults = []) (hr : Room k callerA)
    (hY : ∀ (w : World) (h : Heap), YP w h → (K w.params).In h)
    (F : ∀ (w : World) (mg : Str → Option Value) (fa : Addr) (h : Heap), (K w.params).In h → h.Ns mainGlobals mg → mg d.name = some (.ref fa) →
      ∃ fd : FuncData, (∀ (s : Shared) (u : Value), BindsTo s fd ⟨[u], []⟩ [(x, u)]) ∧
        ∀ base : Heap, (K w.params).In base → base.Ns mainGlobals mg → FnOk l.prog w (K w.params) mg base (CX w) k fa fd [x] (sp w))
    (hsp : ∀ (w : World) (H : Hp) (a : Addr) (ns : List Int), ns.length ≤ n → Only H → SqL (K w.params) H a (ns.map V.int) → sp w [.ref a] H (fun v _ => v = .bl true) fun _ _ _ => False)
    (hCX : ∀ (w : World) (H : Hp) (s : Shared) (e : Value) (s' : Shared), CX w [] H s (fun _ _ _ => False) e s' → False) :
    PySem.W.WalkO q loose XP YP l.row.toRowW d [] (fun f vs => PySem.call f vs) := by
  refine Att.attach_call hn hdf fun w s₀ s₁ mg mb fa o pm cd doc a vs ns G Y ho hd hcd hmg hobj hints hlen hg => ?_
  have KX := hY w _ Y
  obtain ⟨fd, hb, hF⟩ := F w mg fa _ KX G.T.g hmg
  exact law_call KX G.T.g G.T.b G.T.builtins G.T.nolimit hg hobj hints (Nat.le_trans hlen hn2) hr hF hb (fun H hO hS => hsp w H a ns hlen hO hS) fun H e s' => hCX w H s₁ e s'
end L2

/- THE LAST THEOREM (shape; LID, My.* are yours):
   My.Adr: a structure of the addresses that your layer names (classes, functions); My.Txt K t: a structure (Prop) of the equations over K;
   My.txt_mk : {K} {implicit addresses ..} (e1 : nsIn K mainGlobals "law" = some (some (.ref f))) (e2 : K.lookup f = some ⟨oc, od, .func (fnOf "law" "law" params body scope dV kV doc pm an cdv ct), sl⟩) (e3 : codeIn K cdv "law" = true) .. : ∃ t, My.Txt K t

set_option maxRecDepth 100000 in
set_option maxHeartbeats 0 in
theorem PySem.Challenge.cw_LID_holds : PySem.Challenge.rw_LID.Holds := by
  w_on; o_law; k_head; (case hw => w_witness2)
  k_fill
  refine L2.walk_of (l := PySem.Challenge.rw_LID) (n := 63) (k := 40) (x := "script") (CX := fun w => ..) (sp := fun _ => My.sp_law) rfl (by decide) rfl ⟨rfl, by decide, by decide⟩ (fun w h Y => PySem.W.kIn_of Y) ?F ?S ?C
  case F =>
    intro w mg fa h KX G hmg
    have T : ∃ t, My.Txt (L2.KOf KX) t := by
      dsimp only [L2.KOf]                          -- K must stand as «<heap const> w.params» for k_is
      refine' My.txt_mk ?e1 ?e2 ?e3 ..
      (case e1 => PySem.W.k_is)                    -- in the order: a name -> its address -> its object -> its parts
      (case e2 => PySem.W.k_is)
      ..
    obtain ⟨t, T⟩ := T
    have e0 := hmg.symm.trans (PySem.W.mg_of KX G T.law)
    cases e0                                       -- fa is the law's own address
    exact ⟨_, fun s u => .of_eq rfl, fun base kb nb => My.law_fn T kb nb⟩     -- if «.of_eq rfl» comes too early: refine' ⟨_, ?b, fun base kb nb => My.law_fn T kb nb⟩; exact fun s u => .of_eq rfl
  case S => exact fun w H a ns hl hO hS => ..
  case C => exact ..
(the tactic k_is has no namespace: write k_is) -/

/-! SHORT WORDS over the layer: a def of the text, its body, what a loop and a test want. -/
namespace L2
open PySem PySem.Spec PyProof.Rows

/-! ### the text by places -/
def defArgs (s : Stmt) : Arguments := match s with
  | .FunctionDef _ a _ _ _ _ _ _ _ _ => a
  | _ => { posonlyargs := [], args := [], vararg := none, kwonlyargs := [], kw_defaults := [], kwarg := none, defaults := [] }
def defBody (s : Stmt) : List Stmt := match s with
  | .FunctionDef _ _ b _ _ _ _ _ _ _ => b
  | _ => []
def defScope (s : Stmt) : Scope := match s with
  | .FunctionDef _ _ _ _ _ _ sc _ _ _ => sc
  | _ => { kind := .function, names := [], isGenerator := false, isCoroutine := false }

/-! ### no exception leaves a def -/
abbrev CX0 : CXT := fun _ _ _ _ _ _ => False
abbrev E0 : XK := fun _ _ _ => False
theorem pass0 {X : Cx} : Passes CX0 X E0 := fun _ _ _ _ _ _ _ h => h.elim

/-! ### a def (or method) of the text as it stands behind the top -/
structure Fun (K : PySem.W.Frag) (x qual : Str) (st : Stmt) (f : Addr) (fd : FuncData) : Prop where
  ex : ∃ (oc : Value) (od : Option Addr) (kV doc pm : Value) (an : Option Addr) (cdv ct : Value) (osl : Array (Option Value)),
    fd = PySem.W.fnOf x qual (defArgs st) (defBody st) (defScope st) .none kV doc pm an cdv ct ∧ K.lookup f = some ⟨oc, od, .func fd, osl⟩ ∧ PySem.W.codeIn K cdv qual = true
  kp : PySem.W.keepIn K (.ref f) = true
section
variable {P : Program} {w : World} {K : PySem.W.Frag} {mg : Str → Option Value} {base : Heap}
/-- THE RULE for a def: its body as a term of rules, and the reading of that term -/
theorem Fun.ok {x qual : Str} {st : Stmt} {f : Addr} {fd : FuncData} {N ps : List Str} {k : Nat} {sp : Sp} (F : Fun K x qual st f fd) (S : FnScope N ps (defScope st)) (len : ∀ vs H Q E, sp vs H Q E → vs.length = ps.length)
    (hbody : ∀ (cdv : Value) (A : Around) (outer : List Env) (s : Shared) (H : Hp) (vs : List V) (Q : VK) (E : XK), Room k (A.deeper (envOfC qual (defScope st) s.heap.objs.size f cdv)) → sp vs H Q E →
      ∃ t, PSs (cxOf CX0 P w K mg base N qual (defScope st) f cdv A outer s H E).nox (defBody st) t ∧ t { nx := fun _ H' => Q .non H', rt := Q } (start N vs) H) : FnOk P w K mg base CX0 (k + 1) f fd ps sp := by
  obtain ⟨oc, od, kV, doc, pm, an, cdv, ct, osl, rfl, lk, hcd⟩ := F.ex
  refine fn_of lk hcd S len fun A outer s H vs Q E hr hsp => ?_
  obtain ⟨t, h, q⟩ := hbody cdv A outer s H vs Q E hr hsp
  exact ⟨t, h.nox, q⟩
/-- how its arguments bind (no defaults): h is «fun _ _ _ _ _ _ us hl => match us, hl with | [_, _], _ => rfl», one _ a parameter -/
theorem Fun.binds {x qual : Str} {st : Stmt} {f : Addr} {fd : FuncData} {ps : List Str} (F : Fun K x qual st f fd)
    (h : ∀ (kV doc pm : Value) (an : Option Addr) (cdv ct : Value) (us : List Value), us.length = ps.length → bindArgs (PySem.W.fnOf x qual (defArgs st) (defBody st) (defScope st) .none kV doc pm an cdv ct) ⟨us, []⟩ = pure (ps.zip us)) : Binds K fd ps [] := by
  obtain ⟨oc, od, kV, doc, pm, an, cdv, ct, osl, rfl, lk, hcd⟩ := F.ex
  exact .all (h kV doc pm an cdv ct)
theorem fun_mk {x qual : Str} {st : Stmt} {f : Addr} {oc : Value} {od an : Option Addr} {osl : Array (Option Value)} {kV doc pm cdv ct : Value} (l : K.lookup f = some ⟨oc, od, .func (PySem.W.fnOf x qual (defArgs st) (defBody st) (defScope st) .none kV doc pm an cdv ct), osl⟩)
    (c : PySem.W.codeIn K cdv qual = true) (k : PySem.W.keepIn K (.ref f) = true) : Fun K x qual st f (PySem.W.fnOf x qual (defArgs st) (defBody st) (defScope st) .none kV doc pm an cdv ct) := ⟨⟨oc, od, kV, doc, pm, an, cdv, ct, osl, rfl, l, c⟩, k⟩
end
/-! ### expressions in short: the name that stands in the i-th slot -/
section
variable {X : Cx}
theorem pv (i : Nat) {x : Str} {pos : Pos} (hN : X.N[i]? = some x := by rfl) (hv : Vis X.env.scope x := by first | exact Or.inl rfl | exact Or.inr (Or.inl rfl) | exact Or.inr (Or.inr rfl)) (hd : (x == ("__debug__" : Str)) = false := by decide)
    (hcd : (x == ("__classdict__" : Str)) = false := by decide) : PE X (.Name x pos) (tVar i) := pe_var hN hv hd hcd
end

/-! ### tests -/
theorem iteF {A B : Prop} (h : B) : if false = true then A else B := by
  rw [if_neg Bool.false_ne_true]
  exact h
theorem iteT {A B : Prop} (h : A) : if true = true then A else B := by
  rw [if_pos rfl]
  exact h
/-! ### heaps -/
/-- all that was tracked is as it was -/
def Same (H H' : Hp) : Prop := ∀ b o, H b = some o → H' b = some o
theorem Same.refl (H : Hp) : Same H H := fun _ _ h => h
theorem Same.trans {H H1 H2 : Hp} (a : Same H H1) (b : Same H1 H2) : Same H H2 := fun c o h => b c o (a c o h)
theorem Same.free {H H' : Hp} (e : Same H H') {l : Addr} (h : H' l = Option.none) : H l = Option.none := by
  cases q : H l with
  | none => rfl
  | some o =>
    rw [e l o q] at h
    cases h
theorem Same.seq {K : PySem.W.Frag} {H H' : Hp} {a : Addr} {xs : List V} (e : Same H H') (h : SqL K H a xs) : SqL K H' a xs := by
  rcases h with (h | ⟨o, h⟩) | h
  · exact .inl (.inl (e _ _ h))
  · exact .inl (.inr ⟨o, e _ _ h⟩)
  · exact .inr h

end L2

set_option Elab.async false
set_option linter.all false
set_option maxRecDepth 100000
namespace L2.R2
open PySem PySem.Spec PyProof.Rows L2

/-! ## plain data and how it lies in the abstract heap -/
inductive D where
  | non | bl (b : Bool) | int (i : Int) | str (x : Str) | tup (xs : List D) | lst (xs : List D)

def FzL (K : PySem.W.Frag) (H : Hp) (a : Addr) (vs : List V) : Prop :=
  (∃ o, H a = some (.frz o (.lst vs))) ∨
    ∃ (o : Obj) (its : Array Value) (n : Nat), K.lookup a = some o ∧ o.cls = .type "list" ∧ o.dict = none ∧ o.data = .seq its n ∧ its.size ≤ sizeLine ∧ Vals vs its.toList
theorem FzL.sq {K : PySem.W.Frag} {H : Hp} {a : Addr} {vs : List V} : FzL K H a vs → SqL K H a vs
  | .inl ⟨o, h⟩ => .inl (.inr ⟨o, h⟩)
  | .inr h => .inr h

/-- what never changes is as it was -/
structure Keep (H H' : Hp) : Prop where
  tups : ∀ b xs, H b = some (.tup xs) → H' b = some (.tup xs)
  frzs : ∀ b o u, H b = some (.frz o u) → H' b = some (.frz o u)
theorem Keep.refl (H : Hp) : Keep H H := ⟨fun _ _ h => h, fun _ _ _ h => h⟩
theorem Keep.trans {H H1 H2 : Hp} (a : Keep H H1) (b : Keep H1 H2) : Keep H H2 :=
  ⟨fun c xs h => b.tups c xs (a.tups c xs h), fun c o u h => b.frzs c o u (a.frzs c o u h)⟩
theorem Keep.of {H H' : Hp} (s : Same H H') : Keep H H' := ⟨fun b xs h => s b _ h, fun b o u h => s b _ h⟩

mutual
inductive Rep (K : PySem.W.Frag) (H : Hp) : D → V → Prop
  | non : Rep K H .non .non
  | bl (b : Bool) : Rep K H (.bl b) (.bl b)
  | int (i : Int) : Rep K H (.int i) (.int i)
  | str (x : Str) : Rep K H (.str x) (.str x)
  | tup {a : Addr} {vs : List V} {ds : List D} (h : H a = some (.tup vs)) (r : Reps K H ds vs) : Rep K H (.tup ds) (.ref a)
  | lst {a : Addr} {vs : List V} {ds : List D} (h : FzL K H a vs) (r : Reps K H ds vs) : Rep K H (.lst ds) (.ref a)
inductive Reps (K : PySem.W.Frag) (H : Hp) : List D → List V → Prop
  | nil : Reps K H [] []
  | cons {d : D} {v : V} {ds : List D} {vs : List V} (h : Rep K H d v) (t : Reps K H ds vs) : Reps K H (d :: ds) (v :: vs)
end

section
variable {K : PySem.W.Frag} {H H' : Hp}
theorem SqT.keep {a : Addr} {vs : List V} (k : Keep H H') (h : SqT K H a vs) : SqT K H' a vs := by
  rcases h with (h | ⟨o, h⟩) | h
  · exact .inl (.inl (k.tups _ _ h))
  · exact .inl (.inr ⟨o, k.frzs _ _ _ h⟩)
  · exact .inr h
theorem FzL.keep {a : Addr} {vs : List V} (k : Keep H H') (h : FzL K H a vs) : FzL K H' a vs := by
  rcases h with ⟨o, h⟩ | h
  · exact .inl ⟨o, k.frzs _ _ _ h⟩
  · exact .inr h
mutual
theorem Rep.keep (k : Keep H H') : ∀ {d : D} {v : V}, Rep K H d v → Rep K H' d v
  | _, _, .non => .non
  | _, _, .bl b => .bl b
  | _, _, .int i => .int i
  | _, _, .str x => .str x
  | _, _, .tup h r => .tup (k.tups _ _ h) (Reps.keep k r)
  | _, _, .lst h r => .lst (FzL.keep k h) (Reps.keep k r)
theorem Reps.keep (k : Keep H H') : ∀ {ds : List D} {vs : List V}, Reps K H ds vs → Reps K H' ds vs
  | _, _, .nil => .nil
  | _, _, .cons h t => .cons (Rep.keep k h) (Reps.keep k t)
end
theorem Reps.length : ∀ {ds : List D} {vs : List V}, Reps K H ds vs → ds.length = vs.length
  | _, _, .nil => rfl
  | _, _, .cons _ t => by simp [Reps.length t]
theorem Reps.get : ∀ {ds : List D} {vs : List V} {i : Nat} {d : D}, Reps K H ds vs → ds[i]? = some d → ∃ v, vs[i]? = some v ∧ Rep K H d v
  | _, _, _, _, .nil, e => by simp at e
  | _, _, 0, _, .cons h _, e => by simp at e; subst e; exact ⟨_, rfl, h⟩
  | _, _, i + 1, d, .cons _ t, e => by
    obtain ⟨v, h1, h2⟩ := Reps.get (i := i) (d := d) t (by simpa using e)
    exact ⟨v, by simpa using h1, h2⟩
theorem Reps.append : ∀ {ds es : List D} {vs us : List V}, Reps K H ds vs → Reps K H es us → Reps K H (ds ++ es) (vs ++ us)
  | _, _, _, _, .nil, s => s
  | _, _, _, _, .cons h t, s => .cons h (Reps.append t s)
theorem Reps.take : ∀ {ds : List D} {vs : List V} (n : Nat), Reps K H ds vs → Reps K H (ds.take n) (vs.take n)
  | _, _, 0, _ => .nil
  | _, _, _ + 1, .nil => .nil
  | _, _, n + 1, .cons r t => .cons r (Reps.take n t)
theorem Reps.drop : ∀ {ds : List D} {vs : List V} (n : Nat), Reps K H ds vs → Reps K H (ds.drop n) (vs.drop n)
  | _, _, 0, r => r
  | _, _, _ + 1, .nil => .nil
  | _, _, n + 1, .cons _ t => Reps.drop n t
theorem Reps.set {d : D} {v : V} (r : Rep K H d v) : ∀ {ds : List D} {vs : List V} (i : Nat), Reps K H ds vs → Reps K H (ds.set i d) (vs.set i v)
  | _, _, _, .nil => .nil
  | _, _, 0, .cons _ t => .cons r t
  | _, _, i + 1, .cons q t => .cons q (Reps.set r i t)
theorem Reps.dropLast : ∀ {ds : List D} {vs : List V}, Reps K H ds vs → Reps K H ds.dropLast vs.dropLast
  | _, _, .nil => .nil
  | _, _, .cons _ .nil => .nil
  | _, _, .cons r (.cons r2 t) => by
    simp only [List.dropLast]
    exact .cons r (Reps.dropLast (.cons r2 t))
theorem Reps.reverse : ∀ {ds : List D} {vs : List V}, Reps K H ds vs → Reps K H ds.reverse vs.reverse
  | _, _, .nil => .nil
  | _, _, .cons r t => by
    simp only [List.reverse_cons]
    exact (Reps.reverse t).append (.cons r .nil)
theorem Rep.int_inv {i : Int} {v : V} (h : Rep K H (.int i) v) : v = .int i := by cases h; rfl
theorem Rep.bl_inv {b : Bool} {v : V} (h : Rep K H (.bl b) v) : v = .bl b := by cases h; rfl
theorem Reps.ints : ∀ {ns : List Int}, Reps K H (ns.map D.int) (ns.map V.int)
  | [] => .nil
  | _ :: _ => .cons (.int _) Reps.ints
end

/-- borrowed: the list itself may be one that is still grown -/
def RepB (K : PySem.W.Frag) (H : Hp) (d : D) (v : V) : Prop :=
  Rep K H d v ∨ ∃ ds a vs, d = .lst ds ∧ v = .ref a ∧ H a = some (.lst vs) ∧ Reps K H ds vs
theorem RepB.same {K : PySem.W.Frag} {H H' : Hp} {d : D} {v : V} (s : Same H H') (h : RepB K H d v) : RepB K H' d v := by
  rcases h with h | ⟨ds, a, vs, e1, e2, e3, r⟩
  · exact .inl (h.keep (.of s))
  · exact .inr ⟨ds, a, vs, e1, e2, s _ _ e3, r.keep (.of s)⟩
theorem RepB.lst {K : PySem.W.Frag} {H : Hp} {ds : List D} {v : V} (h : RepB K H (.lst ds) v) : ∃ a vs, v = .ref a ∧ SqL K H a vs ∧ Reps K H ds vs := by
  rcases h with h | ⟨ds', a, vs, e1, e2, e3, r⟩
  · cases h with
    | lst h r => exact ⟨_, _, rfl, h.sq, r⟩
  · cases e1; exact ⟨a, vs, e2, SqL.of e3, r⟩
theorem RepB.tup {K : PySem.W.Frag} {H : Hp} {ds : List D} {v : V} (h : RepB K H (.tup ds) v) : ∃ a vs, v = .ref a ∧ H a = some (.tup vs) ∧ Reps K H ds vs := by
  rcases h with h | ⟨ds', a, vs, e1, e2, e3, r⟩
  · cases h with
    | tup h r => exact ⟨_, _, rfl, h, r⟩
  · cases e1

/-! ## names -/
inductive S where
  | d (x : D) | own (xs : List D)
def S.val : S → D
  | .d x => x
  | .own xs => .lst xs
abbrev En := List (Option S)
def RelS (K : PySem.W.Frag) (H₀ H : Hp) : S → V → Prop
  | .d x, v => Rep K H x v
  | .own xs, v => ∃ a vs, v = .ref a ∧ H a = some (.lst vs) ∧ H₀ a = none ∧ Reps K H xs vs

structure StOk (X : Cx) (ρ : En) (σ : St) (H : Hp) : Prop where
  len : ρ.length = σ.length
  same : Same X.H₀ H
  rel : ∀ (i : Nat) (x : S), ρ[i]? = some (some x) → ∃ v, σ[i]? = some (some v) ∧ RelS X.K X.H₀ H x v
  sep : ∀ (i j : Nat) (xs ys : List D) (a : Addr), ρ[i]? = some (some (.own xs)) → ρ[j]? = some (some (.own ys)) → σ[i]? = some (some (.ref a)) → σ[j]? = some (some (.ref a)) → i = j

section
variable {X : Cx} {ρ : En} {σ : St} {H H' : Hp}
theorem RelS.same {K : PySem.W.Frag} {H₀ H H' : Hp} {x : S} {v : V} (s : Same H H') (h : RelS K H₀ H x v) : RelS K H₀ H' x v := by
  cases x with
  | d x => exact Rep.keep (.of s) h
  | own xs =>
    obtain ⟨a, vs, e1, e2, e3, r⟩ := h
    exact ⟨a, vs, e1, s _ _ e2, e3, r.keep (.of s)⟩
theorem StOk.ext (st : StOk X ρ σ H) (s : Same H H') : StOk X ρ σ H' :=
  ⟨st.len, st.same.trans s, fun i x e => let ⟨v, h1, h2⟩ := st.rel i x e; ⟨v, h1, h2.same s⟩, st.sep⟩
theorem StOk.set_d (st : StOk X ρ σ H) {i : Nat} {d : D} {v : V} (r : Rep X.K H d v) : StOk X (ρ.set i (some (.d d))) (σ.set i (some v)) H := by
  refine ⟨by simp [st.len], st.same, fun j x e => ?_, fun j k xs ys a e1 e2 e3 e4 => ?_⟩
  · by_cases hj : i = j
    · subst hj
      have hi : i < ρ.length := by
        by_cases h : i < ρ.length
        · exact h
        · rw [List.set_eq_of_length_le (by omega)] at e
          rw [List.getElem?_eq_none (by omega)] at e; cases e
      rw [List.getElem?_set_self hi] at e
      cases e
      exact ⟨v, by rw [List.getElem?_set_self (by rw [← st.len]; exact hi)], r⟩
    · rw [List.getElem?_set_ne hj] at e ⊢
      exact st.rel j x e
  · have ne : ∀ {j : Nat} {zs : List D}, (ρ.set i (some (.d d)))[j]? = some (some (.own zs)) → i ≠ j := fun {j zs} e q => by
      subst q
      by_cases h : i < ρ.length
      · rw [List.getElem?_set_self h] at e; cases e
      · rw [List.set_eq_of_length_le (by omega), List.getElem?_eq_none (by omega)] at e; cases e
    have n1 := ne e1
    have n2 := ne e2
    rw [List.getElem?_set_ne n1] at e1 e3
    rw [List.getElem?_set_ne n2] at e2 e4
    exact st.sep j k xs ys a e1 e2 e3 e4
end

/-! ## freezing -/
section
variable {X : Cx} {pins : List (Addr × Obj)} {σ : St} {H : Hp} {s : Shared}
theorem Inv.freeze {a : Addr} {xs : List V} (I : Inv X pins σ H s) (h : H a = some (.lst xs)) : ∃ o, Inv X pins σ (upd H a (.frz o (.lst xs))) s := by
  have ok := I.hok a _ h
  obtain ⟨z, its, n, r, e⟩ := id ok
  refine ⟨{ cls := .type "list", data := .seq its.toArray n }, ?_⟩
  have ntup : ∀ b u, H b = some u → u ≠ .lst xs → b ≠ a := fun b u q d z => by subst z; rw [h] at q; cases q; exact d rfl
  refine I.un (t' := s.toks) (h' := s.heap) ⟨fun b o q _ _ _ => q, fun b o q _ _ _ => ⟨o.slots, q⟩, fun b o q n _ => ?_, fun b o q _ => ⟨o, q⟩, fun b ys q => ?_, fun b o u q => ?_, fun b ps q => ⟨#[], ?_⟩⟩ fun b u q => ?_
  · rw [upd_ne (fun z => by subst z; rw [h] at n; cases n)]; exact n
  · rw [upd_ne (ntup b _ q (by intro z; cases z))]; exact q
  · rw [upd_ne (ntup b _ q (by intro z; cases z))]; exact q
  · rw [upd_ne (ntup b _ q (by intro z; cases z)), q]; simp
  · by_cases hb : b = a
    · subst hb
      rw [upd_same] at q; cases q
      exact ⟨e, z, its, n, r, e⟩
    · rw [upd_ne hb] at q
      exact (I.hok b u q).stay (fun c v _ w => w) (fun c w => by rw [upd_ne (ntup c _ w (by intro z; cases z))]; exact w) fun c ys w => by rw [upd_ne (ntup c _ w (by intro z; cases z))]; exact w
theorem Same.upd_new {a : Addr} {o : HO} {H H1 : Hp} (s : Same H H1) (n : H a = none) : Same H (upd H1 a o) := fun b u h => by
  rw [upd_ne (ne_of_none h n)]; exact s b u h
end
end L2.R2

set_option Elab.async false
set_option linter.all false
set_option maxRecDepth 100000
namespace L2.R2
open PySem PySem.Spec PyProof.Rows L2

/-! ## readings over plain data -/
/-- small enough for a list, a tuple -/
structure Sz (n : Nat) : Prop where
  ok : n ≤ sizeLine
abbrev RE := En → (D → Prop) → Prop
abbrev RT := En → (Bool → Prop) → Prop
abbrev RA := En → (List D → Prop) → Prop
structure DEnds where
  nx : En → Prop
  rt : D → Prop
  bk : En → Prop := fun _ => False
  ct : En → Prop := fun _ => False
abbrev RS := DEnds → En → Prop
abbrev RG := D → En → (En → Prop) → Prop

def liftE (X : Cx) (t : RE) : TE := fun σ H Q => ∃ ρ P, StOk X ρ σ H ∧ t ρ P ∧ ∀ d v H', P d → Same H H' → Rep X.K H' d v → Q v H'
def liftB (X : Cx) (t : RE) : TE := fun σ H Q => ∃ ρ P, StOk X ρ σ H ∧ t ρ P ∧ ∀ d v H', P d → Same H H' → RepB X.K H' d v → Q v H'
/-- a fresh list -/
def liftO (X : Cx) (t : RA) : TE := fun σ H Q => ∃ ρ P, StOk X ρ σ H ∧ t ρ P ∧ ∀ ds p vs H1, P ds → Same H H1 → H1 p = none → Reps X.K H1 ds vs → Q (.ref p) (upd H1 p (.lst vs))
def liftT (X : Cx) (t : RT) : TT := fun σ H Q => ∃ ρ P, StOk X ρ σ H ∧ t ρ P ∧ ∀ b H', P b → Same H H' → Q b H'
def liftA (X : Cx) (t : RA) : TA := fun σ H Q => ∃ ρ P, StOk X ρ σ H ∧ t ρ P ∧ ∀ ds vs H', P ds → Same H H' → Reps X.K H' ds vs → Q vs H'
def liftS (X : Cx) (t : RS) : TS := fun De σ H => ∃ ρ E, StOk X ρ σ H ∧ t E ρ ∧ (∀ ρ' σ' H', E.nx ρ' → Keep H H' → StOk X ρ' σ' H' → De.nx σ' H') ∧ (∀ d v H', E.rt d → Keep H H' → Same X.H₀ H' → Rep X.K H' d v → De.rt v H') ∧
  (∀ ρ' σ' H', E.bk ρ' → Keep H H' → StOk X ρ' σ' H' → De.bk σ' H') ∧ ∀ ρ' σ' H', E.ct ρ' → Keep H H' → StOk X ρ' σ' H' → De.ct σ' H'
def liftG (X : Cx) (g : RG) : TG := fun v σ H Q => ∃ d ρ P, Rep X.K H d v ∧ StOk X ρ σ H ∧ g d ρ P ∧ ∀ ρ' σ' H', P ρ' → Keep H H' → StOk X ρ' σ' H' → Q σ' H'

def DE (X : Cx) (e : Expr) (t : RE) : Prop := PE X e (liftE X t)
def DB (X : Cx) (e : Expr) (t : RE) : Prop := PE X e (liftB X t)
def DO (X : Cx) (e : Expr) (t : RA) : Prop := PE X e (liftO X t)
def DT (X : Cx) (e : Expr) (t : RT) : Prop := PT X e (liftT X t)
def DW (X : Cx) (e : Expr) (t : RT) : Prop := PW X e (liftT X t)
def DA (X : Cx) (es : List Expr) (t : RA) : Prop := PA X es (liftA X t)
def DS (X : Cx) (st : Stmt) (t : RS) : Prop := PS X st (liftS X t)
def DSs (X : Cx) (sts : List Stmt) (t : RS) : Prop := PSs X sts (liftS X t)
def DG (X : Cx) (tg : Expr) (g : RG) : Prop := PG X tg (liftG X g)

theorem PE.mono {X : Cx} {e : Expr} {t t' : TE} (h : PE X e t) (m : ∀ σ H Q, t' σ H Q → t σ H Q) : PE X e t' := fun pins s σ H Q I q => h pins s σ H Q I (m σ H Q q)
theorem PT.mono {X : Cx} {e : Expr} {t t' : TT} (h : PT X e t) (m : ∀ σ H Q, t' σ H Q → t σ H Q) : PT X e t' := fun pins s σ H Q I q => h pins s σ H Q I (m σ H Q q)
theorem PW.mono {X : Cx} {e : Expr} {t t' : TT} (h : PW X e t) (m : ∀ σ H Q, t' σ H Q → t σ H Q) : PW X e t' := fun wh pins s σ H Q I q => h wh pins s σ H Q I (m σ H Q q)
theorem PA.mono {X : Cx} {e : List Expr} {t t' : TA} (h : PA X e t) (m : ∀ σ H Q, t' σ H Q → t σ H Q) : PA X e t' := fun pos pins s σ H Q I q => h pos pins s σ H Q I (m σ H Q q)
theorem PS.mono {X : Cx} {e : Stmt} {t t' : TS} (h : PS X e t) (m : ∀ D σ H, t' D σ H → t D σ H) : PS X e t' := fun pins s σ H D I q => h pins s σ H D I (m D σ H q)
theorem PSs.mono {X : Cx} {e : List Stmt} {t t' : TS} (h : PSs X e t) (m : ∀ D σ H, t' D σ H → t D σ H) : PSs X e t' := fun pins s σ H D I q => h pins s σ H D I (m D σ H q)
theorem PG.mono {X : Cx} {e : Expr} {t t' : TG} (h : PG X e t) (m : ∀ v σ H Q, t' v σ H Q → t v σ H Q) : PG X e t' := fun pins s σ H v u Q I r q => h pins s σ H v u Q I r (m v σ H Q q)

section
variable {X : Cx} {e a b c : Expr} {pos : Pos}

/-! ### from one judgement to another -/
theorem DE.bor {t : RE} (h : DE X e t) : DB X e t := PE.mono h fun σ H Q ⟨ρ, P, st, q, k⟩ => ⟨ρ, P, st, q, fun d v H' p s r => k d v H' p s (.inl r)⟩
/-- a fresh list, frozen at once -/
theorem DO.val {t : RA} (h : DO X e t) : DE X e (fun ρ Q => t ρ fun ds => Q (.lst ds)) := by
  intro pins s σ H Q I ⟨ρ, P, st, q, k⟩
  refine thn (h pins s σ H (fun v H' => ∃ ds p vs H1, v = .ref p ∧ H' = upd H1 p (.lst vs) ∧ P (.lst ds) ∧ Same H H1 ∧ H1 p = none ∧ Reps X.K H1 ds vs) I ⟨ρ, _, st, q, fun ds p vs H1 hp s1 hn r => ⟨ds, p, vs, H1, rfl, rfl, hp, s1, hn, r⟩⟩) fun u s1 ⟨v, H', I', rv, ds, p, vs, H1, ev, eH, hp, sm, hn, r⟩ => ?_
  subst ev eH
  obtain ⟨o, I2⟩ := Inv.freeze I' (a := p) (xs := vs) upd_same
  have sm2 : Same H1 (upd (upd H1 p (.lst vs)) p (.frz o (.lst vs))) := fun b u e => by rw [upd_ne (ne_of_none e hn), upd_ne (ne_of_none e hn)]; exact e
  exact ⟨.ref p, _, I2, rv, k (.lst ds) (.ref p) _ hp (sm.trans sm2) (.lst (.inl ⟨o, upd_same⟩) (r.keep (.of sm2)))⟩
theorem DO.bor {t : RA} (h : DO X e t) : DB X e (fun ρ Q => t ρ fun ds => Q (.lst ds)) := h.val.bor

/-! ### names and constants -/
def rVar (i : Nat) : RE := fun ρ Q => match ρ[i]? with
  | some (some (.d d)) => Q d
  | _ => False
def rVarB (i : Nat) : RE := fun ρ Q => match ρ[i]? with
  | some (some x) => Q x.val
  | _ => False
theorem dv (i : Nat) {x : Str} (hN : X.N[i]? = some x := by rfl) (hv : Vis X.env.scope x := by first | exact Or.inl rfl | exact Or.inr (Or.inl rfl) | exact Or.inr (Or.inr rfl)) (hd : (x == ("__debug__" : Str)) = false := by decide)
    (hcd : (x == ("__classdict__" : Str)) = false := by decide) : DE X (.Name x pos) (rVar i) := by
  refine PE.mono (pv i hN hv hd hcd) fun σ H Q ⟨ρ, P, st, q, k⟩ => ?_
  unfold rVar at q
  split at q
  · rename_i d e
    obtain ⟨v, h1, h2⟩ := st.rel i _ e
    exact ⟨v, h1, k d v H q (Same.refl H) h2⟩
  · exact q.elim
theorem dvb (i : Nat) {x : Str} (hN : X.N[i]? = some x := by rfl) (hv : Vis X.env.scope x := by first | exact Or.inl rfl | exact Or.inr (Or.inl rfl) | exact Or.inr (Or.inr rfl)) (hd : (x == ("__debug__" : Str)) = false := by decide)
    (hcd : (x == ("__classdict__" : Str)) = false := by decide) : DB X (.Name x pos) (rVarB i) := by
  refine PE.mono (pv i hN hv hd hcd) fun σ H Q ⟨ρ, P, st, q, k⟩ => ?_
  unfold rVarB at q
  split at q
  · rename_i d e
    obtain ⟨v, h1, h2⟩ := st.rel i _ e
    refine ⟨v, h1, k _ v H q (Same.refl H) ?_⟩
    cases d with
    | d x => exact .inl h2
    | own xs =>
      obtain ⟨a, vs, e1, e2, _, r⟩ := h2
      exact .inr ⟨xs, a, vs, rfl, e1, e2, r⟩
  · exact q.elim
def rC (d : D) : RE := fun _ Q => Q d
theorem de_int {i : Int} {j : Nat} : DE X (.Constant (.int i) j pos) (rC (.int i)) := PE.mono pe_int fun σ H Q ⟨ρ, P, st, q, k⟩ => k _ _ H q (Same.refl H) (.int i)
theorem de_bl {i : Bool} {j : Nat} : DE X (.Constant (.bool i) j pos) (rC (.bl i)) := PE.mono pe_bl fun σ H Q ⟨ρ, P, st, q, k⟩ => k _ _ H q (Same.refl H) (.bl i)
/-! ### operations of two values -/
abbrev R22 := D → D → (D → Prop) → Prop
/-- results frozen, operands borrowed -/
def liftR (X : Cx) (r : R22) : R2 := fun x y H Q => ∃ d e P, RepB X.K H d x ∧ RepB X.K H e y ∧ r d e P ∧ ∀ z v H', P z → Same H H' → Rep X.K H' z v → Q v H'
def OpD (X : Cx) (f : Value → Value → Sem Value) (r : R22) : Prop := OpR X f (liftR X r)
def r2 (r : R22) (ta tb : RE) : RE := fun ρ Q => ta ρ fun x => tb ρ fun y => r x y Q
variable {ta tb tc : RE}
theorem lift2 {r : R22} {σ : St} {H : Hp} {Q : VK} (h : liftE X (r2 r ta tb) σ H Q) : tOp (liftR X r) (liftB X ta) (liftB X tb) σ H Q := by
  obtain ⟨ρ, P, st, ht, hP⟩ := h
  exact ⟨ρ, _, st, ht, fun x v H1 h1 s1 r1 => ⟨ρ, _, st.ext s1, h1, fun y u H2 h2 s2 r2 => ⟨x, y, P, r1.same s2, r2, h2, fun z w H' hz s3 r3 => hP z w H' hz ((s1.trans s2).trans s3) r3⟩⟩⟩
theorem de_op {op : Operator} {r : R22} (ho : OpD X (binaryOp op) r) (ha : DB X a ta) (hb : DB X b tb) : DE X (.BinOp a op b pos) (r2 r ta tb) := PE.mono (pe_op ho ha hb) fun σ H Q h => lift2 h
theorem de_cmp {op : CmpOp} {r : R22} (ho : OpD X (compareOp op) r) (ha : DB X a ta) (hb : DB X b tb) (hm : behindInMarks op b = false := by exact nomark _) : DE X (.Compare a [op] [b] pos) (r2 r ta tb) := PE.mono (pe_cmpR ho ha hb hm) fun σ H Q h => lift2 h
/-- a bool value as a test -/
def rTest (t : RE) : RT := fun ρ Q => t ρ fun d => match d with
  | .bl k => Q k
  | _ => False
theorem dt_cmp {op : CmpOp} {r : R22} (ho : OpD X (compareOp op) r) (ha : DB X a ta) (hb : DB X b tb) (hm : behindInMarks op b = false := by exact nomark _) : DT X (.Compare a [op] [b] pos) (rTest (r2 r ta tb)) := by
  refine PT.mono (pt_cmpR ho ha hb hm) fun σ H Q ⟨ρ, P, st, q, k⟩ => ?_
  refine lift2 (Q := fun x H' => ∃ k, x = .bl k ∧ Q k H') ⟨ρ, _, st, q, fun d v H' hd s r => ?_⟩
  cases d with
  | bl b => exact ⟨b, r.bl_inv, k b H' hd s⟩
  | _ => exact hd.elim
/-- any expression whose value is a bool -/
theorem dt_val (h : DE X e ta) (he : ∀ whole, isTrue e X.env whole = (do let v ← whole; standAt e.pos; holding [v] (truthy v)) := by intro _; rfl) : DT X e (rTest ta) := by
  refine PT.mono (pt_val h he) fun σ H Q ⟨ρ, P, st, q, k⟩ => ?_
  refine ⟨ρ, _, st, q, fun d v H' hd s r => ?_⟩
  cases d with
  | bl b => exact ⟨b, r.bl_inv, k b H' hd s⟩
  | _ => exact hd.elim
def rAnd (t u : RT) : RT := fun ρ Q => t ρ fun c => if c = true then u ρ Q else Q false
def rOr (t u : RT) : RT := fun ρ Q => t ρ fun c => if c = true then Q true else u ρ Q
def rNot (t : RT) : RT := fun ρ Q => t ρ fun c => Q (!c)
variable {tA tB : RT} {rest : List Expr}
theorem dw_or1 (ha : DT X a tA) : DW X (.BoolOp .Or [a] pos) tA := pw_or1 ha
theorem dw_or (ha : DT X a tA) (hb : DW X (.BoolOp .Or (b :: rest) pos) tB) : DW X (.BoolOp .Or (a :: b :: rest) pos) (rOr tA tB) :=
  PW.mono (pw_or ha hb) fun σ H Q ⟨ρ, P, st, q, k⟩ => ⟨ρ, _, st, q, fun c H1 hc s1 => by
    cases c with
    | false => rw [if_neg Bool.false_ne_true] at hc ⊢; exact ⟨ρ, P, st.ext s1, hc, fun d H2 hd s2 => k d H2 hd (s1.trans s2)⟩
    | true => rw [if_pos rfl] at hc ⊢; exact k true H1 hc s1⟩
theorem DW.tst (h : DW X e tA) : DT X e tA := PW.pt h
theorem dt_not (ha : DT X a tA) : DT X (.UnaryOp .Not a pos) (rNot tA) := PT.mono (pt_not ha) fun σ H Q ⟨ρ, P, st, q, k⟩ => ⟨ρ, _, st, q, fun c H1 hc s1 => k _ H1 hc s1⟩
/-! as values -/
def rAndV (ta tb : RE) : RE := fun ρ Q => ta ρ fun d => match d with
  | .bl k => if k = true then tb ρ Q else Q (.bl false)
  | _ => False
def rOrV (ta tb : RE) : RE := fun ρ Q => ta ρ fun d => match d with
  | .bl k => if k = true then Q (.bl true) else tb ρ Q
  | _ => False
def rNotV (ta : RE) : RE := fun ρ Q => ta ρ fun d => match d with
  | .bl k => Q (.bl (!k))
  | _ => False
theorem de_one {op} (h : DE X a ta) : DE X (.BoolOp op [a] pos) ta := pe_one h
theorem de_and (ha : DE X a ta) (hb : DE X (.BoolOp .And (b :: rest) pos) tb) : DE X (.BoolOp .And (a :: b :: rest) pos) (rAndV ta tb) :=
  PE.mono (pe_and ha hb) fun σ H Q ⟨ρ, P, st, q, k⟩ => ⟨ρ, _, st, q, fun d v H1 hd s1 r => by
    cases d with
    | bl c =>
      refine ⟨c, r.bl_inv, ?_⟩
      cases c with
      | true => exact ⟨ρ, P, st.ext s1, hd, fun d v H2 hd s2 => k d v H2 hd (s1.trans s2)⟩
      | false => exact k (.bl false) (.bl false) H1 hd s1 (.bl false)
    | _ => exact hd.elim⟩
theorem de_not (ha : DE X a ta) : DE X (.UnaryOp .Not a pos) (rNotV ta) :=
  PE.mono (pe_not ha) fun σ H Q ⟨ρ, P, st, q, k⟩ => ⟨ρ, _, st, q, fun d v H1 hd s1 r => by
    cases d with
    | bl c => exact ⟨c, r.bl_inv, k (.bl !c) (.bl !c) H1 hd s1 (.bl _)⟩
    | _ => exact hd.elim⟩
def rIf (t : RT) (ta tb : RE) : RE := fun ρ Q => t ρ fun c => if c = true then ta ρ Q else tb ρ Q
/-! ### one value -/
def liftU (X : Cx) (r : D → (D → Prop) → Prop) : V → Hp → VK → Prop := fun x H Q => ∃ d P, RepB X.K H d x ∧ r d P ∧ ∀ z v H', P z → Same H H' → Rep X.K H' z v → Q v H'
def UnD (X : Cx) (f : Value → Sem Value) (r : D → (D → Prop) → Prop) : Prop := UnR X f (liftU X r)
def r1 (r : D → (D → Prop) → Prop) (ta : RE) : RE := fun ρ Q => ta ρ fun x => r x Q
theorem de_un {op : UnaryOp} {r : D → (D → Prop) → Prop} (ho : UnD X (unaryOp op) r) (ha : DB X a ta) : DE X (.UnaryOp op a pos) (r1 r ta) :=
  PE.mono (pe_un ho ha) fun σ H Q ⟨ρ, P, st, q, k⟩ => ⟨ρ, _, st, q, fun d v H1 hd s1 rr => ⟨d, P, rr, hd, fun z v H2 hz s2 r2 => k z v H2 hz (s1.trans s2) r2⟩⟩

/-! ### argument lists, displays -/
def raNil : RA := fun _ Q => Q []
def raCons (t : RE) (u : RA) : RA := fun ρ Q => t ρ fun x => u ρ fun xs => Q (x :: xs)
variable {es : List Expr} {t : RA}
theorem da_nil : DA X [] raNil := PA.mono pa_nil fun σ H Q ⟨ρ, P, st, q, k⟩ => k [] [] H q (Same.refl H) .nil
theorem da_cons (ha : DE X e ta) (hr : DA X es t) (hs : starEach (e :: es) X.env = (false, eval e X.env) :: starEach es X.env := by rfl) : DA X (e :: es) (raCons ta t) :=
  PA.mono (pa_cons ha hr hs) fun σ H Q ⟨ρ, P, st, q, k⟩ => ⟨ρ, _, st, q, fun d v H1 hd s1 r1 => ⟨ρ, _, st.ext s1, hd, fun ds vs H2 hds s2 r2 => k (d :: ds) (v :: vs) H2 hds (s1.trans s2) (.cons (r1.keep (.of s2)) r2)⟩⟩
def rTup (t : RA) : RE := fun ρ Q => t ρ fun ds => Sz ds.length ∧ Q (.tup ds)
theorem de_tup {x1} (h : DA X es t) : DE X (.Tuple es x1 pos) (rTup t) :=
  PE.mono (pe_tup h) fun σ H Q ⟨ρ, P, st, q, k⟩ => ⟨ρ, _, st, q, fun ds vs H1 hd s1 r => ⟨by rw [← r.length]; exact hd.1.ok, fun p hp => k (.tup ds) (.ref p) _ hd.2 (Same.upd_new s1 (s1.free hp)) (by
    have sm : Same H1 (upd H1 p (.tup vs)) := fun b u e => by rw [upd_ne (ne_of_none e hp)]; exact e
    exact .tup upd_same (r.keep (.of sm)))⟩⟩
def rLst (t : RA) : RA := fun ρ Q => t ρ fun ds => Sz ds.length ∧ Q ds
theorem do_lst (h : DA X es t) : DO X (.List es pos) (rLst t) :=
  PE.mono (pe_lst h) fun σ H Q ⟨ρ, P, st, q, k⟩ => ⟨ρ, _, st, q, fun ds vs H1 hd s1 r => ⟨by rw [← r.length]; exact hd.1.ok, fun p hp => k ds p vs H1 hd.2 s1 hp r⟩⟩
end

/-! ## statements -/
section
variable {X : Cx} {e a b c : Expr} {pos : Pos} {st : Stmt} {rest : List Stmt} {t u : RS} {te : RE} {tA : RT}
def rSeq (t u : RS) : RS := fun E ρ => t { E with nx := u E } ρ
def rNext : RS := fun E ρ => E.nx ρ
theorem dss_nil : DSs X [] rNext := PSs.mono pss_nil fun De σ H ⟨ρ, E, st, q, n, r, b, c⟩ => n ρ σ H q (Keep.refl H) st
theorem dss_one (h : DS X st t) : DSs X [st] t := pss_one h
theorem dss_cons (h1 : DS X st t) (h2 : DSs X rest u) : DSs X (st :: rest) (rSeq t u) :=
  PSs.mono (pss_cons h1 h2) fun De σ H ⟨ρ, E, st, q, n, r, b, c⟩ => ⟨ρ, _, st, q, fun ρ' σ' H' h k s => ⟨ρ', E, s, h, fun ρ2 σ2 H2 x k2 => n ρ2 σ2 H2 x (k.trans k2), fun d v H2 x k2 => r d v H2 x (k.trans k2), fun ρ2 σ2 H2 x k2 => b ρ2 σ2 H2 x (k.trans k2), fun ρ2 σ2 H2 x k2 => c ρ2 σ2 H2 x (k.trans k2)⟩, r, b, c⟩
theorem ds_never : DS X st (fun _ _ => False) := PS.mono ps_never fun De σ H ⟨ρ, E, st, q, _⟩ => q
def rRet (te : RE) : RS := fun E ρ => te ρ E.rt
theorem ds_ret (h : DE X e te) : DS X (.Return (some e) pos) (rRet te) :=
  PS.mono (ps_ret h) fun De σ H ⟨ρ, E, st, q, n, r, b, c⟩ => ⟨ρ, _, st, q, fun d v H1 hd s1 rr => r d v H1 hd (.of s1) (st.same.trans s1) rr⟩
def rDrop (te : RE) : RS := fun E ρ => te ρ fun _ => E.nx ρ
def rIfS (c : RT) (t u : RS) : RS := fun E ρ => c ρ fun k => if k = true then t E ρ else u E ρ
theorem ds_if {sa sb : List Stmt} (hc : DT X c tA) (ha : DSs X sa t) (hb : DSs X sb u) : DS X (.If c sa sb pos) (rIfS tA t u) :=
  PS.mono (ps_if hc ha hb) fun De σ H ⟨ρ, E, st, q, n, r, b, c⟩ => ⟨ρ, _, st, q, fun k H1 hk s1 => by
    cases k with
    | true => rw [if_pos rfl] at hk ⊢; exact ⟨ρ, E, st.ext s1, hk, fun ρ2 σ2 H2 x k2 => n ρ2 σ2 H2 x ((Keep.of s1).trans k2), fun d v H2 x k2 => r d v H2 x ((Keep.of s1).trans k2), fun ρ2 σ2 H2 x k2 => b ρ2 σ2 H2 x ((Keep.of s1).trans k2), fun ρ2 σ2 H2 x k2 => c ρ2 σ2 H2 x ((Keep.of s1).trans k2)⟩
    | false => rw [if_neg Bool.false_ne_true] at hk ⊢; exact ⟨ρ, E, st.ext s1, hk, fun ρ2 σ2 H2 x k2 => n ρ2 σ2 H2 x ((Keep.of s1).trans k2), fun d v H2 x k2 => r d v H2 x ((Keep.of s1).trans k2), fun ρ2 σ2 H2 x k2 => b ρ2 σ2 H2 x ((Keep.of s1).trans k2), fun ρ2 σ2 H2 x k2 => c ρ2 σ2 H2 x ((Keep.of s1).trans k2)⟩⟩

/-! ### targets -/
def rgName (i : Nat) : RG := fun d ρ Q => Q (ρ.set i (some (.d d)))
theorem dg_name {i : Nat} {x : Str} (hN : X.N.Nodup) (hi : X.N[i]? = some x := by rfl) (hx : Loc X.env.scope x := by first | exact Or.inl rfl | exact Or.inr rfl) (hf : X.fn x = true ∨ X.env.scope.names.lookup x = some .local := by first | exact .inl rfl | exact .inr rfl | assumption) : DG X (.Name x pos) (rgName i) :=
  PG.mono (pg_name hN hi hx hf) fun v σ H Q ⟨d, ρ, P, r, st, q, k⟩ => k _ _ H q (Keep.refl H) (st.set_d r)
abbrev RGs := List D → En → (En → Prop) → Prop
theorem PGs.mono {X : Cx} {e : List Expr} {t t' : TGs} (h : PGs X e t) (m : ∀ v σ H Q, t' v σ H Q → t v σ H Q) : PGs X e t' := fun pins s σ H v u Q I r q => h pins s σ H v u Q I r (m v σ H Q q)
def rgNil : RGs := fun ds ρ Q => match ds with
  | [] => Q ρ
  | _ => False
def rgCons (g : RG) (u : RGs) : RGs := fun ds ρ Q => match ds with
  | [] => False
  | d :: r => g d ρ fun ρ' => u r ρ' Q
def rgTup (n : Nat) (g : RGs) : RG := fun d ρ Q => match d with
  | .tup ds => ds.length = n ∧ g ds ρ Q
  | _ => False
def rAsg (te : RE) (g : RG) : RS := fun E ρ => te ρ fun d => g d ρ E.nx
def rSet (i : Nat) (te : RE) : RS := fun E ρ => te ρ fun d => E.nx (ρ.set i (some (.d d)))
theorem ds_set {i : Nat} {x : Str} {pos' : Pos} (hN : X.N.Nodup) (he : DE X e te) (hi : X.N[i]? = some x := by rfl) (hx : Loc X.env.scope x := by first | exact Or.inl rfl | exact Or.inr rfl) (hs : swapsWith e (some (.Name x pos')) pos.line X.env = pure false := by rfl)
    (hf : X.fn x = true ∨ X.env.scope.names.lookup x = some .local := by first | exact .inl rfl | exact .inr rfl | assumption) : DS X (.Assign [.Name x pos'] e pos) (rSet i te) :=
  PS.mono (ps_set hN hi hx he hs hf) fun De σ H ⟨ρ, E, st, q, n, r, b, c⟩ => ⟨ρ, _, st, q, fun d v H1 hd s1 rr => n _ _ H1 hd (.of s1) ((st.ext s1).set_d rr)⟩
/-- x = a fresh list, kept by x alone -/
def rSetO (i : Nat) (t : RA) : RS := fun E ρ => t ρ fun ds => E.nx (ρ.set i (some (.own ds)))
/-- a, b = x, y -/
def rPar (i j : Nat) (t : RA) : RS := fun E ρ => t ρ fun ds => match ds with
  | [x, y] => E.nx ((ρ.set i (some (.d x))).set j (some (.d y)))
  | _ => False
theorem ds_par {i j : Nat} {x y : Str} {t : RA} {px py pt : Pos} {kt k2 pt2} (hc : X.calm = true) (hN : X.N.Nodup) (ha : DA X [a, b] t) (hi : X.N[i]? = some x := by rfl) (hj : X.N[j]? = some y := by rfl) (hij : i ≠ j := by decide)
    (hx : X.env.scope.names.lookup x = some .local := by rfl) (hy : X.env.scope.names.lookup y = some .local := by rfl)
    (hw : swappedStores [.Tuple [.Name x px, .Name y py] kt pt] (.Tuple [a, b] k2 pt2) X.env = pure (some [x, y]) := by rfl)
    (hs : swapsWithSole [.Tuple [.Name x px, .Name y py] kt pt] (.Tuple [a, b] k2 pt2) pos.line X.env = pure false := by rfl) :
    DS X (.Assign [.Tuple [.Name x px, .Name y py] kt pt] (.Tuple [a, b] k2 pt2) pos) (rPar i j t) :=
  PS.mono (ps_par hc hN hi hj hij hx hy ha hw hs) fun De σ H ⟨ρ, E, st, q, n, r, b, c⟩ => ⟨ρ, _, st, q, fun ds vs H1 hd s1 rr => by
    match ds, vs, rr, hd with
    | [x, y], _, .cons r1 (.cons r2 .nil), hd => exact ⟨_, _, rfl, n _ _ H1 hd (.of s1) (((st.ext s1).set_d r1).set_d r2)⟩
    | [], _, _, hd => exact hd.elim
    | [_], _, _, hd => exact hd.elim
    | _ :: _ :: _ :: _, _, _, hd => exact hd.elim⟩

/-! ### ghost freezing ahead of a statement -/
def fzAt (i : Nat) (ρ : En) : En := match ρ[i]? with
  | some (some (.own ds)) => ρ.set i (some (.d (.lst ds)))
  | _ => ρ
/-! ### while -/
def whileD (c : RT) (t : RS) : Nat → RS
  | 0, _, _ => False
  | n + 1, E, ρ => c ρ fun k => if k = true then t { E with nx := whileD c t n E, ct := whileD c t n E, bk := E.nx } ρ else E.nx ρ
def rWhile (c : RT) (t : RS) : RS := fun E ρ => ∃ n, whileD c t n E ρ
theorem ds_while {body : List Stmt} (hp : PassesOwn (model X.prog X.w) X.A X.env X.xe) (hc : DT X c tA) (hb : DSs X body t) : DS X (.While c body [] pos) (rWhile tA t) :=
  PS.mono (ps_while hp hc hb) fun De σ H ⟨ρ, E, st, ⟨m, q⟩, n, r, b, c⟩ => by
    refine ⟨fun m σ' H' => ∃ ρ', StOk X ρ' σ' H' ∧ Keep H H' ∧ whileD tA t m E ρ', ⟨m, ρ, st, Keep.refl H, q⟩, ?_⟩
    rintro m σ' H' ⟨ρ', st', kp, hw⟩
    cases m with
    | zero => exact hw.elim
    | succ m =>
      refine ⟨ρ', _, st', hw, fun k H1 hk s1 => ?_⟩
      have kp1 := kp.trans (.of s1)
      cases k with
      | true =>
        dsimp only at hk ⊢
        rw [if_pos rfl] at hk ⊢
        refine ⟨fun σ2 H2 => ∃ ρ2, StOk X ρ2 σ2 H2 ∧ Keep H H2 ∧ whileD tA t m E ρ2, fun σ2 H2 ⟨ρ2, a1, a2, a3⟩ => ⟨m, Nat.lt_succ_self m, ρ2, a1, a2, a3⟩, ?_⟩
        exact ⟨ρ', _, st'.ext s1, hk, fun ρ2 σ2 H2 x k2 s2 => ⟨ρ2, s2, kp1.trans k2, x⟩, fun d v H2 x k2 => r d v H2 x (kp1.trans k2), fun ρ2 σ2 H2 x k2 => n ρ2 σ2 H2 x (kp1.trans k2), fun ρ2 σ2 H2 x k2 s2 => ⟨ρ2, s2, kp1.trans k2, x⟩⟩
      | false =>
        dsimp only at hk ⊢
        rw [if_neg Bool.false_ne_true] at hk ⊢
        exact n ρ' σ' H1 hk kp1 (st'.ext s1)

/-! ### for -/
/-- an iterator that walks the items xs, whatever else is done -/
def ItOk (X : Cx) (J : It) (xs : List D) (H0 : Hp) : Prop := ∀ i H, Keep H0 H →
  (∀ d, xs[i]? = some d → J.go i H ∧ ∀ x H', J.yld i H x H' → Same H H' ∧ Rep X.K H' d x) ∧ (xs.length ≤ i → J.stop i H)
def liftI (X : Cx) (t : RA) : TI := fun σ H R => ∃ ρ P, StOk X ρ σ H ∧ t ρ P ∧ ∀ xs J H', P xs → Same H H' → ItOk X J xs H' → R J H'
def DI (X : Cx) (tg iter : Expr) (t : RA) : Prop := PI X tg iter (liftI X t)
theorem PI.mono {X : Cx} {tg e : Expr} {t t' : TI} (h : PI X tg e t) (m : ∀ σ H Q, t' σ H Q → t σ H Q) : PI X tg e t' := fun pins s σ H Q I q => h pins s σ H Q I (m σ H Q q)
def forD (g : RG) (t : RS) : List D → RS
  | [], E, ρ => E.nx ρ
  | x :: xs, E, ρ => g x ρ fun ρ1 => t { E with nx := forD g t xs E, ct := forD g t xs E, bk := E.nx } ρ1
def rFor (ti : RA) (g : RG) (t : RS) : RS := fun E ρ => ti ρ fun xs => forD g t xs E ρ
theorem ds_for {tg iter : Expr} {body : List Stmt} {ti : RA} {g : RG} (hp : PassesOwn (model X.prog X.w) X.A X.env X.xe) (hc : X.calm = true) (hi : DI X tg iter ti) (hg : DG X tg g) (hb : DSs X body t)
    (hs : ∀ x, foldedSetIterable iter X.env x = pure x := by intro _; rfl) : DS X (.For tg iter body [] pos) (rFor ti g t) :=
  PS.mono (ps_for hp hc hi hg hb hs) fun De σ H ⟨ρ, E, st, q, n, r, b, c⟩ => by
    refine ⟨ρ, _, st, q, fun xs J H1 hx s1 ok => ?_⟩
    refine ⟨fun i m σ' H' => m = xs.length - i ∧ i ≤ xs.length ∧ ∃ ρ', StOk X ρ' σ' H' ∧ Keep H1 H' ∧ forD g t (xs.drop i) E ρ', ⟨xs.length, by simp, Nat.zero_le _, ρ, st.ext s1, Keep.refl H1, by simpa using hx⟩, ?_⟩
    rintro i m σ' H' ⟨rfl, hi, ρ', st', kp, hf⟩
    obtain ⟨o1, o2⟩ := ok i H' kp
    have kp1 : Keep H H' := (Keep.of s1).trans kp
    by_cases hlt : i < xs.length
    · have e : xs.drop i = xs[i] :: xs.drop (i + 1) := List.drop_eq_getElem_cons hlt
      rw [e] at hf
      obtain ⟨go, yl⟩ := o1 xs[i] (List.getElem?_eq_getElem hlt)
      refine .inr ⟨go, fun σ2 H2 => ∃ ρ2, StOk X ρ2 σ2 H2 ∧ Keep H1 H2 ∧ forD g t (xs.drop (i + 1)) E ρ2, fun σ2 H2 hh => ⟨xs.length - (i + 1), by omega, rfl, hlt, hh⟩, fun x H2 y => ?_⟩
      obtain ⟨s2, rx⟩ := yl x H2 y
      refine ⟨xs[i], ρ', _, rx, st'.ext s2, hf, fun ρ3 σ3 H3 h3 k3 s3 => ?_⟩
      have k13 : Keep H1 H3 := (kp.trans (.of s2)).trans k3
      have k03 : Keep H H3 := (kp1.trans (.of s2)).trans k3
      exact ⟨ρ3, _, s3, h3, fun ρ4 σ4 H4 x4 k4 s4 => ⟨ρ4, s4, k13.trans k4, x4⟩, fun d v H4 x4 k4 => r d v H4 x4 (k03.trans k4), fun ρ4 σ4 H4 x4 k4 => n ρ4 σ4 H4 x4 (k03.trans k4), fun ρ4 σ4 H4 x4 k4 s4 => ⟨ρ4, s4, k13.trans k4, x4⟩⟩
    · have e : i = xs.length := by omega
      subst e
      rw [List.drop_length] at hf
      exact .inl ⟨o2 (Nat.le_refl _), n ρ' σ' H' hf kp1 st'⟩
end

/-! ## what is walked -/
section
variable {X : Cx} {tg e : Expr} {te : RE} {pos p : Pos}
def riL (te : RE) : RA := fun ρ Q => te ρ fun d => match d with
  | .lst ds => Q ds
  | _ => False
theorem di_list (h : DE X e te) : DI X tg e (riL te) := by
  refine PI.mono (pi_list h) fun σ H R ⟨ρ, P, st, q, k⟩ => ⟨ρ, _, st, q, fun d v H1 hd s1 r => ?_⟩
  cases d with
  | lst ds =>
    cases r with
    | @lst a vs _ hz r =>
      refine ⟨a, rfl, ⟨vs, hz.sq⟩, k ds _ H1 hd s1 fun i H2 kp => ⟨fun d e => ?_, fun hl => ⟨vs, (hz.keep kp).sq, by rw [← r.length]; exact hl⟩⟩⟩
      obtain ⟨v, h1, h2⟩ := (r.keep kp).get e
      refine ⟨⟨vs, v, (hz.keep kp).sq, h1⟩, fun x H' y => ?_⟩
      obtain ⟨e1, e2⟩ := y
      subst e1
      have e3 := e2 vs (hz.keep kp).sq
      rw [h1] at e3; cases e3
      exact ⟨Same.refl _, h2⟩
  | _ => exact hd.elim
def riT (te : RE) : RA := fun ρ Q => te ρ fun d => match d with
  | .tup ds => Q ds
  | _ => False
/-- lo, lo + 1, .. -/
def rangeD (lo : Int) (n : Nat) : List D := (List.range n).map fun k : Nat => D.int (lo + (k : Int))
structure RngOk (j : Int) : Prop where
  lo : -(2 ^ 62) ≤ j
  hi : j < 2 ^ 62
def riR1 (t : RA) : RA := fun ρ Q => t ρ fun ds => match ds with
  | [.int j] => RngOk j ∧ Q (rangeD 0 j.toNat)
  | _ => False
def riR2 (t : RA) : RA := fun ρ Q => t ρ fun ds => match ds with
  | [.int i, .int j] => (RngOk i ∧ RngOk j) ∧ Q (rangeD i (j - i).toNat)
  | _ => False
end

/-! ## calls of the text's own defs -/
/-- what a def is worth, over plain data -/
abbrev FD := List D → (D → Prop) → Prop
def spD (K : PySem.W.Frag) (F : FD) : Sp := fun vs H Q _ => ∃ ds P, Reps K H ds vs ∧ F ds P ∧ ∀ d v H', P d → Same H H' → Rep K H' d v → Q v H'
def rCall (F : FD) (t : RA) : RE := fun ρ Q => t ρ fun ds => F ds Q
section
variable {X : Cx} {k : Nat} {f : Addr} {fd : FuncData} {ps : List Str} {F : FD} {x : Str} {p pos : Pos} {e : Expr} {es : List Expr} {t : RA}
theorem de_call (G : FnOk X.prog X.w X.K X.mg X.base CX0 k f fd ps (spD X.K F)) (hr : Room k X.A) (hm : X.mg x = some (.ref f)) (hk : PySem.W.keepIn X.K (.ref f) = true) (hb : Binds X.K fd ps []) (ha : DA X (e :: es) t) (hg : Gl X x := by rfl)
    (hdb : (x == ("__debug__" : Str)) = false := by decide) (he : starEach (e :: es) X.env = (false, eval e X.env) :: starEach es X.env := by rfl) (hpl : (backTo pos (starEach es X.env)).any (·.1) = false := by rfl) :
    DE X (.Call (.Name x p) (e :: es) [] pos) (rCall F t) :=
  PE.mono (pe_call (E := E0) G hr hg hm hk hb .nil pass0 ha hdb he hpl) fun σ H Q ⟨ρ, P, st, q, kk⟩ => ⟨ρ, _, st, q, fun ds vs H1 hd s1 r => by
    show spD X.K F (vs ++ []) H1 Q E0
    rw [List.append_nil]
    exact ⟨ds, P, r, hd, fun d v H2 hp s2 r2 => kk d v H2 hp (s1.trans s2) r2⟩⟩
end
/-- the names at the entry -/
def startD (N : List Str) (ds : List D) : En := ds.map (fun d => some (.d d)) ++ List.replicate (N.length - ds.length) none
section
variable {P : Program} {w : World} {K : PySem.W.Frag} {mg : Str → Option Value} {base : Heap}
theorem start_ok {X : Cx} {N : List Str} {ds : List D} {vs : List V} (r : Reps X.K X.H₀ ds vs) : StOk X (startD N ds) (start N vs) X.H₀ := by
  have hl := r.length
  have own : ∀ (i : Nat) (xs : List D), (startD N ds)[i]? ≠ some (some (S.own xs)) := fun i xs e => by
    unfold startD at e
    by_cases hi : i < ds.length
    · rw [List.getElem?_append_left (by simpa using hi), List.getElem?_map, List.getElem?_eq_getElem hi] at e
      cases e
    · rw [List.getElem?_append_right (by simpa using hi), List.getElem?_replicate] at e
      split at e <;> cases e
  refine ⟨by simp [startD, start, hl], Same.refl _, fun i x e => ?_, fun i j xs ys a e1 _ _ _ => absurd e1 (own i xs)⟩
  unfold startD at e
  by_cases hi : i < ds.length
  · rw [List.getElem?_append_left (by simpa using hi), List.getElem?_map, List.getElem?_eq_getElem hi] at e
    cases e
    obtain ⟨v, h1, h2⟩ := r.get (List.getElem?_eq_getElem hi)
    refine ⟨v, ?_, h2⟩
    unfold start
    rw [List.getElem?_append_left (by simpa [← hl] using hi), List.getElem?_map, h1]; rfl
  · rw [List.getElem?_append_right (by simpa using hi), List.getElem?_replicate] at e
    split at e <;> cases e
/-- THE RULE for a def: its body's reading, and the pure fact that F is met by it -/
theorem fn_ok {x qual : Str} {st : Stmt} {f : Addr} {fd : FuncData} {N ps : List Str} {k : Nat} {F : FD} {t : RS} (Fu : Fun K x qual st f fd) (Sc : FnScope N ps (defScope st))
    (hbody : ∀ (cdv : Value) (A : Around) (outer : List Env) (s : Shared) (H : Hp) (E : XK), Room k (A.deeper (envOfC qual (defScope st) s.heap.objs.size f cdv)) →
      DSs (cxOf CX0 P w K mg base N qual (defScope st) f cdv A outer s H E).nox (defBody st) t)
    (len : ∀ ds Q, F ds Q → ds.length = ps.length) (pure : ∀ ds Q, F ds Q → t { nx := fun _ => Q .non, rt := Q } (startD N ds)) : FnOk P w K mg base CX0 (k + 1) f fd ps (spD K F) := by
  refine Fu.ok Sc (fun vs H Q E ⟨ds, P, r, h, _⟩ => by rw [← r.length]; exact len ds P h) fun cdv A outer s H vs Q E hr ⟨ds, P', r, h, kk⟩ => ⟨_, hbody cdv A outer s H E hr, ?_⟩
  exact ⟨startD N ds, _, start_ok (X := (cxOf CX0 P w K mg base N qual (defScope st) f cdv A outer s H E).nox) r, pure ds P' h, fun ρ' σ' H' hq k s' => kk .non .non H' hq s'.same .non, fun d v H' hq k sm rv => kk d v H' hq sm rv, fun _ _ _ z => z.elim, fun _ _ _ z => z.elim⟩
end
end L2.R2

set_option Elab.async false
set_option linter.all false
set_option maxRecDepth 100000
namespace L2.R2
open PySem PySem.Spec PyProof.Rows L2

/-! ## sizes of ints -/
def BL (n : Nat) (i : Int) : Prop := i.natAbs < 2 ^ n
theorem BL.bits {n : Nat} {i : Int} (h : BL n i) : Builtin.Int.intBits i ≤ n := intBits_le_iff.mpr h
theorem BL.of {n : Nat} {i : Int} (h : Builtin.Int.intBits i ≤ n) : BL n i := intBits_le_iff.mp h
theorem BL.mono {m n : Nat} {i : Int} (h : BL m i) (l : m ≤ n) : BL n i := BL.of (Nat.le_trans h.bits l)
theorem BL.add {m n : Nat} {i j : Int} (a : BL m i) (b : BL n j) : BL (max m n + 1) (i + j) := BL.of (intBits_add_le a.bits b.bits)
theorem BL.sub {m n : Nat} {i j : Int} (a : BL m i) (b : BL n j) : BL (max m n + 1) (i - j) := BL.of (intBits_sub_le a.bits b.bits)
theorem BL.mul {m n : Nat} {i j : Int} (a : BL m i) (b : BL n j) : BL (m + n) (i * j) := BL.of (intBits_mul_le a.bits b.bits)
theorem BL.neg {m : Nat} {i : Int} (a : BL m i) : BL m (-i) := BL.of (intBits_neg_le a.bits)
theorem BL.fdiv {m : Nat} {i j : Int} (a : BL m i) : BL m (i.fdiv j) := BL.of (intBits_fdiv_le a.bits)
theorem BL.le {m : Nat} {i j : Int} (a : BL m j) (h : i.natAbs ≤ j.natAbs) : BL m i := Nat.lt_of_le_of_lt h a
theorem BL.of_lt {m : Nat} {i : Int} (h1 : -(2 ^ m : Nat) < i) (h2 : i < (2 ^ m : Nat)) : BL m i := by unfold BL; omega
theorem BL.intMulOk {m n : Nat} {i j : Int} (a : BL m i) (b : BL n j) (h : m + n ≤ 134217728) : IntMulOk i j := IntMulOk.of_le a.bits b.bits h
theorem BL.noPy {i j : Int} (h : BL 9000 j) : Builtin.divisionGoesByPylong i j = false := by
  refine PyProof.noPylong_of_log2 ?_
  by_cases h0 : j.natAbs = 0
  · rw [h0]; decide +kernel
  · exact (Nat.log2_lt h0).mpr h

section
variable {X : Cx} {e a b c : Expr} {pos : Pos}
theorem RepB.int_inv {K : PySem.W.Frag} {H : Hp} {i : Int} {v : V} (h : RepB K H (.int i) v) : v = .int i := by
  rcases h with h | ⟨ds, a, vs, e1, _⟩
  · exact h.int_inv
  · cases e1
theorem RepB.bl_inv {K : PySem.W.Frag} {H : Hp} {i : Bool} {v : V} (h : RepB K H (.bl i) v) : v = .bl i := by
  rcases h with h | ⟨ds, a, vs, e1, _⟩
  · exact h.bl_inv
  · cases e1
/-! ## ints -/
structure MulOk (i j : Int) : Prop where
  ok : IntMulOk i j
structure DivOk (i j : Int) : Prop where
  nz : j ≠ 0
  np : Builtin.divisionGoesByPylong i j = false
structure ModOk (j : Int) : Prop where
  nz : j ≠ 0
structure PowOk (i j : Int) : Prop where
  ok : 0 ≤ j ∧ j ≤ 1000000 ∧ i.natAbs < 2 ^ 64
theorem BL.mulOk {m n : Nat} {i j : Int} (a : BL m i) (b : BL n j) (h : m + n ≤ 134217728 := by decide) : MulOk i j := ⟨a.intMulOk b h⟩
theorem BL.divOk {i j : Int} (h : BL 9000 j) (nz : j ≠ 0) : DivOk i j := ⟨nz, h.noPy⟩
def dAdd : R22 := fun x y Q => match x, y with
  | .int i, .int j => Q (.int (i + j))
  | _, _ => False
def dSub : R22 := fun x y Q => match x, y with
  | .int i, .int j => Q (.int (i - j))
  | _, _ => False
def dMul : R22 := fun x y Q => match x, y with
  | .int i, .int j => MulOk i j ∧ Q (.int (i * j))
  | _, _ => False
def dFdiv : R22 := fun x y Q => match x, y with
  | .int i, .int j => DivOk i j ∧ Q (.int (i.fdiv j))
  | _, _ => False
def dMod : R22 := fun x y Q => match x, y with
  | .int i, .int j => ModOk j ∧ Q (.int (i.fmod j))
  | _, _ => False
def dPow : R22 := fun x y Q => match x, y with
  | .int i, .int j => PowOk i j ∧ Q (.int (i ^ j.toNat))
  | _, _ => False
theorem opIn {f : Value → Value → Sem Value} {C : Int → Int → Prop} {g : Int → Int → Int} {r : R22} (h : OpR X f (rI C fun i j => .int (g i j)))
    (hr : ∀ x y Q, r x y Q → ∃ i j, x = .int i ∧ y = .int j ∧ C i j ∧ Q (.int (g i j))) : OpD X f r := by
  intro pins s σ H x y v u Q I rx ry ⟨d, e, P, r1, r2, q, k⟩
  obtain ⟨i, j, rfl, rfl, hc, q⟩ := hr _ _ _ q
  exact h pins s σ H x y v u Q I rx ry ⟨i, j, r1.int_inv, r2.int_inv, hc, k _ _ H q (Same.refl H) (.int _)⟩
theorem od_add : OpD X (binaryOp .Add) dAdd := opIn (C := fun _ _ => True) (g := fun i j => i + j) (opI fun _ _ _ _ _ _ _ _ q => add_int q) fun x y Q q => by
  unfold dAdd at q; split at q
  · exact ⟨_, _, rfl, rfl, trivial, q⟩
  · exact q.elim
theorem od_sub : OpD X (binaryOp .Sub) dSub := opIn (C := fun _ _ => True) (g := fun i j => i - j) (opI fun _ _ _ _ _ _ _ _ q => sub_int q) fun x y Q q => by
  unfold dSub at q; split at q
  · exact ⟨_, _, rfl, rfl, trivial, q⟩
  · exact q.elim
theorem od_mul : OpD X (binaryOp .Mult) dMul := opIn (C := fun i j => IntMulOk i j) (g := fun i j => i * j) (opI fun _ _ _ _ _ _ _ hc q => mul_int q hc) fun x y Q q => by
  unfold dMul at q; split at q
  · exact ⟨_, _, rfl, rfl, q.1.ok, q.2⟩
  · exact q.elim
theorem od_fdiv : OpD X (binaryOp .FloorDiv) dFdiv := opIn (C := fun i j => j ≠ 0 ∧ Builtin.divisionGoesByPylong i j = false) (g := fun i j => i.fdiv j) (opI fun _ _ _ _ _ _ _ hc q => floordiv_int hc.1 q (.inl hc.2)) fun x y Q q => by
  unfold dFdiv at q; split at q
  · exact ⟨_, _, rfl, rfl, ⟨q.1.nz, q.1.np⟩, q.2⟩
  · exact q.elim
theorem od_mod : OpD X (binaryOp .Mod) dMod := opIn (C := fun _ j => j ≠ 0) (g := fun i j => i.fmod j) (opI fun _ _ _ _ _ _ _ hc q => mod_int' hc q) fun x y Q q => by
  unfold dMod at q; split at q
  · exact ⟨_, _, rfl, rfl, q.1.nz, q.2⟩
  · exact q.elim
theorem od_pow : OpD X (binaryOp .Pow) dPow := opIn (C := fun i j => 0 ≤ j ∧ j ≤ 1000000 ∧ i.natAbs < 2 ^ 64) (g := fun i j => i ^ j.toNat) (opI fun _ _ _ _ _ _ _ hc q => pow_int_small hc.1 hc.2.1 hc.2.2 q) fun x y Q q => by
  unfold dPow at q; split at q
  · exact ⟨_, _, rfl, rfl, q.1.ok, q.2⟩
  · exact q.elim
def dNeg : D → (D → Prop) → Prop := fun x Q => match x with
  | .int i => Q (.int (-i))
  | _ => False
theorem ud_neg : UnD X (unaryOp .USub) dNeg := by
  intro pins s σ H x v Q I rx ⟨d, P, r, q, k⟩
  unfold dNeg at q; split at q
  · rename_i i
    exact un_neg pins s σ H x v Q I rx ⟨i, r.int_inv, k _ _ H q (Same.refl H) (.int _)⟩
  · exact q.elim

/-! ## comparisons -/
def dCmp (p : Int → Int → Bool) : R22 := fun x y Q => match x, y with
  | .int i, .int j => Q (.bl (p i j))
  | _, _ => False
theorem opCm {f : Value → Value → Sem Value} {p : Int → Int → Bool} (h : OpR X f (rI0 fun i j => .bl (p i j))) : OpD X f (dCmp p) := by
  intro pins s σ H x y v u Q I rx ry ⟨d, e, P, r1, r2, q, k⟩
  unfold dCmp at q; split at q
  · rename_i i j
    exact h pins s σ H x y v u Q I rx ry ⟨i, j, r1.int_inv, r2.int_inv, k _ _ H q (Same.refl H) (.bl _)⟩
  · exact q.elim
theorem od_lt : OpD X (compareOp .Lt) (dCmp fun i j => decide (i < j)) := opCm op_lt
theorem od_ge : OpD X (compareOp .GtE) (dCmp fun i j => decide (j ≤ i)) := opCm op_ge
/-- == and != of ints, of bools -/
def dEqS (neg : Bool) : R22 := fun x y Q => match x, y with
  | .int i, .int j => Q (.bl (if neg then !decide (i = j) else decide (i = j)))
  | .bl i, .bl j => Q (.bl (if neg then !decide (i = j) else decide (i = j)))
  | _, _ => False
theorem od_eqS : OpD X (compareOp .Eq) (dEqS false) := by
  intro pins s σ H x y v u Q I rx ry ⟨d, e, P, r1, r2, q, k⟩
  unfold dEqS at q; split at q
  · rename_i i j
    rw [r1.int_inv] at rx; rw [r2.int_inv] at ry
    exact op_eq pins s σ H _ _ v u Q I rx ry ⟨rfl, by
      have e : decide (V.int i = V.int j) = decide (i = j) := by simp
      rw [e]; exact k _ _ H q (Same.refl H) (.bl _)⟩
  · rename_i i j
    rw [r1.bl_inv] at rx; rw [r2.bl_inv] at ry
    exact op_eq pins s σ H _ _ v u Q I rx ry ⟨rfl, by
      have e : decide (V.bl i = V.bl j) = decide (i = j) := by simp
      rw [e]; exact k _ _ H q (Same.refl H) (.bl _)⟩
  · exact q.elim
theorem od_neS : OpD X (compareOp .NotEq) (dEqS true) := by
  intro pins s σ H x y v u Q I rx ry ⟨d, e, P, r1, r2, q, k⟩
  unfold dEqS at q; split at q
  · rename_i i j
    rw [r1.int_inv] at rx; rw [r2.int_inv] at ry
    exact op_ne pins s σ H _ _ v u Q I rx ry ⟨rfl, by
      have e : decide (V.int i = V.int j) = decide (i = j) := by simp
      rw [e]; exact k _ _ H q (Same.refl H) (.bl _)⟩
  · rename_i i j
    rw [r1.bl_inv] at rx; rw [r2.bl_inv] at ry
    exact op_ne pins s σ H _ _ v u Q I rx ry ⟨rfl, by
      have e : decide (V.bl i = V.bl j) = decide (i = j) := by simp
      rw [e]; exact k _ _ H q (Same.refl H) (.bl _)⟩
  · exact q.elim
/-- x is None, x is not None -/
def isNon : D → Bool
  | .non => true
  | _ => false
def dIsN (neg : Bool) : R22 := fun x y Q => match y with
  | .non => Q (.bl (if neg then !isNon x else isNon x))
  | _ => False
/-! ## places and slices -/
def dIx : R22 := fun x y Q => match x, y with
  | .lst ds, .int i => match atI ds i with
    | some d => Q d
    | none => False
  | .tup ds, .int i => match atI ds i with
    | some d => Q d
    | none => False
  | _, _ => False
theorem atI_reps {K : PySem.W.Frag} {H : Hp} {ds : List D} {vs : List V} {i : Int} {d : D} (r : Reps K H ds vs) (h : atI ds i = some d) : ∃ v, atI vs i = some v ∧ Rep K H d v := by
  unfold atI at h ⊢
  rw [← r.length]
  cases e : ixN ds.length i with
  | none => rw [e] at h; cases h
  | some j =>
    rw [e] at h
    exact r.get h
theorem de_ix {ta tb : RE} (ha : DB X a ta) (hb : DB X b tb) (hs : PlainIx b := by intro _ _; rfl) : DE X (.Subscript a b pos) (r2 dIx ta tb) := by
  refine PE.mono (pe_ix (ix_list.or ix_tup) ha hb hs) fun σ H Q h => ?_
  obtain ⟨ρ, P, st, ht, hP⟩ := h
  refine ⟨ρ, _, st, ht, fun x v H1 h1 s1 r1 => ⟨ρ, _, st.ext s1, h1, fun y u H2 h2 s2 r2 => ?_⟩⟩
  have r1' := r1.same s2
  unfold dIx at h2; split at h2
  · rename_i ds i
    split at h2
    · rename_i d e
      obtain ⟨p, vs, rfl, hq, rr⟩ := r1'.lst
      obtain ⟨w', e', rw'⟩ := atI_reps rr e
      exact .inl ⟨p, vs, i, w', rfl, r2.int_inv, hq, e', hP d w' H2 h2 (s1.trans s2) rw'⟩
    · exact h2.elim
  · rename_i ds i
    split at h2
    · rename_i d e
      obtain ⟨p, vs, rfl, hq, rr⟩ := r1'.tup
      obtain ⟨w', e', rw'⟩ := atI_reps rr e
      exact .inr ⟨p, vs, i, w', rfl, r2.int_inv, SqT.of hq, e', hP d w' H2 h2 (s1.trans s2) rw'⟩
    · exact h2.elim
  · exact h2.elim
/-- the part of a slice: left out, or an int -/
abbrev RO := En → (Option Int → Prop) → Prop
def liftP (X : Cx) (t : RO) : TO := fun σ H Q => ∃ ρ P, StOk X ρ σ H ∧ t ρ P ∧ ∀ o H', P o → Same H H' → Q o H'
def DP (X : Cx) (e : Option Expr) (t : RO) : Prop := PO X e (liftP X t)
def rNoPart : RO := fun _ Q => Q none
def rPart (t : RE) : RO := fun ρ Q => t ρ fun d => match d with
  | .int i => Q (some i)
  | _ => False
theorem dp_none : DP X none rNoPart := fun pins s σ H Q I ⟨ρ, P, st, q, k⟩ => po_none pins s σ H Q I (k none H q (Same.refl H))
theorem dp_some {t : RE} (h : DE X e t) : DP X (some e) (rPart t) := fun pins s σ H Q I ⟨ρ, P, st, q, k⟩ => po_some h pins s σ H Q I ⟨ρ, _, st, q, fun d v H1 hd s1 r => by
  cases d with
  | int i => exact ⟨i, r.int_inv, k (some i) H1 hd s1⟩
  | _ => exact hd.elim⟩
def cutD (xs : List D) (lo hi : Option Int) : List D := (xs.drop (HT.sIx xs.length 0 lo)).take (HT.sIx xs.length xs.length hi - HT.sIx xs.length 0 lo)
def rSlL' (te : RE) (tl th : RO) : RA := fun ρ Q => te ρ fun x => tl ρ fun l => th ρ fun u => match x with
  | .lst ds => Q (cutD ds l u)
  | _ => False
theorem do_slice {lo hi : Option Expr} {te : RE} {tl th : RO} {p2 : Pos} (he : DB X e te) (hl : DP X lo tl) (hu : DP X hi th) : DO X (.Subscript e (.Slice lo hi none p2) pos) (rSlL' te tl th) := by
  refine PE.mono (pe_slice sl_list he hl hu) fun σ H Q ⟨ρ, P, st, q, k⟩ => ?_
  refine ⟨ρ, _, st, q, fun d v H1 hd s1 r1 => ⟨ρ, _, st.ext s1, hd, fun l H2 h2 s2 => ⟨ρ, _, (st.ext s1).ext s2, h2, fun u H3 h3 s3 => ?_⟩⟩⟩
  cases d with
  | lst ds =>
    obtain ⟨p, vs, rfl, hq, rr⟩ := (r1.same (s2.trans s3)).lst
    refine ⟨p, vs, rfl, hq, fun p' hp' => k (cutD ds l u) p' (cutV vs l u) H3 h3 ((s1.trans s2).trans s3) hp' ?_⟩
    unfold cutD cutV
    rw [← rr.length]
    exact (rr.drop _).take _
  | _ => exact h3.elim

/-! ## built-in calls -/
def liftCB (X : Cx) (r : List D → (D → Prop) → Prop) : List V → Hp → VK → Prop := fun xs H Q => ∃ ds P, Reps X.K H ds xs ∧ r ds P ∧ ∀ z v H', P z → Same H H' → Rep X.K H' z v → Q v H'
def CallD (X : Cx) (f : Value) (r : List D → (D → Prop) → Prop) : Prop := CallR X f (liftCB X r)
def rCB (r : List D → (D → Prop) → Prop) (t : RA) : RE := fun ρ Q => t ρ fun ds => r ds Q
variable {x : Str} {p : Pos} {es : List Expr} {t : RA} {id T : String} {r : List D → (D → Prop) → Prop}
theorem de_callB (hc : CallD X (.builtin id) r) (hm : X.mg x = none) (hv : bootBuiltins x = some (.builtin id)) (ha : DA X (e :: es) t) (hg : Gl X x := by rfl) (hn : x ≠ "__name__" := by decide) (hdb : (x == ("__debug__" : Str)) = false := by decide)
    (he : starEach (e :: es) X.env = (false, eval e X.env) :: starEach es X.env := by rfl) (hpl : (backTo pos (starEach es X.env)).any (·.1) = false := by rfl) : DE X (.Call (.Name x p) (e :: es) [] pos) (rCB r t) :=
  PE.mono (pe_callB hc hg hm hv ha hn hdb he hpl) fun σ H Q ⟨ρ, P, st, q, k⟩ => ⟨ρ, _, st, q, fun ds vs H1 hd s1 rr => ⟨ds, P, rr, hd, fun z v H2 hz s2 r2 => k z v H2 hz (s1.trans s2) r2⟩⟩
def dAbs : List D → (D → Prop) → Prop := fun ds Q => match ds with
  | [.int i] => Q (.int (if i < 0 then -i else i))
  | _ => False
theorem cd_abs : CallD X (.builtin "abs") dAbs := by
  intro pins s σ H xs us Q I rv ⟨ds, P, r, q, k⟩
  unfold dAbs at q; split at q
  · rename_i i
    cases r with
    | cons r1 r2 =>
      cases r2
      rw [r1.int_inv] at rv
      exact call_abs pins s σ H _ us Q I rv ⟨i, rfl, k _ _ H q (Same.refl H) (.int _)⟩
  · exact q.elim
def dInt : List D → (D → Prop) → Prop := fun ds Q => match ds with
  | [.bl b] => Q (.int (if b then 1 else 0))
  | [.int i] => Q (.int i)
  | _ => False
def dMax2 : List D → (D → Prop) → Prop := fun ds Q => match ds with
  | [.int i, .int j] => Q (.int (if j > i then j else i))
  | _ => False
def dMin2 : List D → (D → Prop) → Prop := fun ds Q => match ds with
  | [.int i, .int j] => Q (.int (if j < i then j else i))
  | _ => False
/-- len(x), x borrowed -/
def dLen : D → (D → Prop) → Prop := fun d Q => match d with
  | .lst ds => Q (.int ds.length)
  | .tup ds => Q (.int ds.length)
  | _ => False
theorem pa_one {t : TE} (h : PE X e t) (hs : starEach [e] X.env = [(false, eval e X.env)] := by rfl) (hn : starEach [] X.env = [] := by rfl) : PA X [e] (fun σ H Q => t σ H fun v H' => Q [v] H') :=
  PA.mono (pa_cons h pa_nil (by rw [hs, hn])) fun σ H Q q => q
theorem de_len {te : RE} (hm : X.mg "len" = none) (h : DB X e te) (hg : Gl X "len" := by rfl) (hs : starEach [e] X.env = [(false, eval e X.env)] := by rfl) (hn : starEach [] X.env = [] := by rfl) : DE X (.Call (.Name "len" p) [e] [] pos) (r1 dLen te) := by
  refine PE.mono (pe_callB call_len_seq hg hm PySem.boot_len (pa_one h hs hn) (by decide) (by decide) (by rw [hs, hn]) (by rw [hn]; rfl)) fun σ H Q ⟨ρ, P, st, q, k⟩ => ⟨ρ, _, st, q, fun d v H1 hd s1 r => ?_⟩
  unfold dLen at hd; split at hd
  · obtain ⟨p, vs, rfl, hq, rr⟩ := r.lst
    exact ⟨p, vs, rfl, .inl hq, by rw [← rr.length]; exact k _ _ H1 hd s1 (.int _)⟩
  · obtain ⟨p, vs, rfl, hq, rr⟩ := r.tup
    exact ⟨p, vs, rfl, .inr (SqT.of hq), by rw [← rr.length]; exact k _ _ H1 hd s1 (.int _)⟩
  · exact hd.elim
end
end L2.R2

set_option Elab.async false
set_option linter.all false
set_option maxRecDepth 100000
namespace L2.R2
open PySem PySem.Spec PyProof.Rows L2

/-! ## walks that hand out pairs -/
section
variable {X : Cx} {pins : List (Addr × Obj)} {σ : St} {H : Hp} {s : Shared} {h' : Heap}
end
def enumD (ds : List D) : List D := ds.zipIdx.map fun p => D.tup [.int (p.2 : Int), p.1]
section
variable {X : Cx} {e : Expr} {te : RE} {pos p : Pos} {elts : List Expr} {k : Nat} {tp : Pos}
def riEn (te : RE) : RA := fun ρ Q => te ρ fun d => match d with
  | .lst ds => Q (enumD ds)
  | _ => False
end

/-! ## isinstance -/
def isiD (T : String) : D → Option Bool
  | .non => some (T == "NoneType")
  | .bl _ => some (T == "bool" || T == "int")
  | .int _ => some (T == "int")
  | .str _ => some (T == "str")
  | .tup _ => some (T == "tuple")
  | .lst _ => none
def dIsi (T : String) : D → (D → Prop) → Prop := fun d Q => match isiD T d with
  | some b => Q (.bl b)
  | none => False
/-- what the table says of the built-in types -/
structure TyTab (K : PySem.W.Frag) (T : String) : Prop where
  non : PySem.W.kitOne K (.type "NoneType") (.type T) = some (T == "NoneType")
  bl : PySem.W.kitOne K (.type "bool") (.type T) = some (T == "bool" || T == "int")
  int : PySem.W.kitOne K (.type "int") (.type T) = some (T == "int")
  str : PySem.W.kitOne K (.type "str") (.type T) = some (T == "str")
  tup : PySem.W.kitOne K (.type "tuple") (.type T) = some (T == "tuple")
section
variable {X : Cx} {e : Expr} {te : RE} {pos p p2 : Pos} {T : String} {x : Str}
theorem de_isi (tab : TyTab X.K T) (hm : X.mg "isinstance" = none) (hT : X.mg x = none) (hb : bootBuiltins x = some (.type T)) (h : DE X e te) (hg : Gl X "isinstance" := by rfl) (hgT : Gl X x := by rfl) (hn : x ≠ "__name__" := by decide) (hd : (x == ("__debug__" : Str)) = false := by decide)
    (hs : starEach [e, .Name x p2] X.env = (false, eval e X.env) :: starEach [.Name x p2] X.env := by rfl) (hs2 : starEach [.Name x p2] X.env = (false, eval (.Name x p2) X.env) :: starEach [] X.env := by rfl) (hpl : (backTo pos (starEach [.Name x p2] X.env)).any (·.1) = false := by rfl) :
    DE X (.Call (.Name "isinstance" p) [e, .Name x p2] [] pos) (r1 (dIsi T) te) := by
  have hc : CallR X (.builtin "isinstance") (fun xs H Q => ∃ d v P, xs = [v, .ty T] ∧ Rep X.K H d v ∧ dIsi T d P ∧ ∀ b, P (.bl b) → Q (.bl b) H) := by
    intro pins s σ H xs us Q I r ⟨d, v, P, ex, rd, q, k⟩
    subst ex
    obtain ⟨u, w', rfl, r1, r2⟩ := vals2 r
    cases r2
    unfold dIsi at q
    split at q
    · rename_i b eb
      have fin : ∀ {t : Value}, TyOf X.K H v t → PySem.W.kitOne X.K t (.type T) = some b → wpAny (model X.prog X.w) X.A (call (.builtin "isinstance") [u, .type T]) (EP X pins σ Q) X.xe s := fun ty e => isinst_ok I r1 ty e fun tk => ⟨.bl b, H, I.tok tk, rfl, k b q⟩
      cases rd with
      | non => cases eb; exact fin .non tab.non
      | bl _ => cases eb; exact fin (.bl _) tab.bl
      | int _ => cases eb; exact fin (.int _) tab.int
      | str _ => cases eb; exact fin (.str _) tab.str
      | tup h _ => cases eb; exact fin (.tup h) tab.tup
      | lst _ _ => cases eb
    · exact q.elim
  refine PE.mono (pe_callB hc hg hm PyProof.Rows.boot_isinstance (pa_cons h (pa_cons (pe_bltn (v := .ty T) hgT hT hb rfl hn hd) pa_nil hs2) hs) (by decide) (by decide) hs hpl) fun σ H Q ⟨ρ, P, st, q, k⟩ => ?_
  refine ⟨ρ, _, st, q, fun d v H1 hd s1 r => ⟨d, v, P, rfl, r, hd, fun b hb => k _ _ H1 hb s1 (.bl b)⟩⟩
end
end L2.R2

set_option Elab.async false
set_option linter.all false
set_option maxRecDepth 100000
namespace L2.R2
open PySem PySem.Spec PyProof.Rows L2

theorem boot_abs' : bootBuiltins "abs" = some (.builtin "abs") := by decide +kernel
theorem boot_int' : bootBuiltins "int" = some (.type "int") := by decide +kernel
theorem boot_bool' : bootBuiltins "bool" = some (.type "bool") := by decide +kernel
theorem boot_tuple' : bootBuiltins "tuple" = some (.type "tuple") := by decide +kernel
theorem tab_int (K : PySem.W.Frag) : TyTab K "int" := ⟨by rfl, by rfl, by rfl, by rfl, by rfl⟩
theorem tab_bool (K : PySem.W.Frag) : TyTab K "bool" := ⟨by rfl, by rfl, by rfl, by rfl, by rfl⟩
theorem tab_tuple (K : PySem.W.Frag) : TyTab K "tuple" := ⟨by rfl, by rfl, by rfl, by rfl, by rfl⟩

/-- a def that stands there and is worth F -/
structure FnAt (P : Program) (w : World) (K : PySem.W.Frag) (mg : Str → Option Value) (base : Heap) (x : Str) (ps : List Str) (k : Nat) (F : FD) : Prop where
  ex : ∃ f fd, FnOk P w K mg base CX0 k f fd ps (spD K F) ∧ Binds K fd ps [] ∧ PySem.W.keepIn K (.ref f) = true ∧ mg x = some (.ref f)
/-- a def that stands there -/
structure DefAt (K : PySem.W.Frag) (mg : Str → Option Value) (x : Str) (st : Stmt) (ps : List Str) : Prop where
  ex : ∃ f fd, Fun K x x st f fd ∧ mg x = some (.ref f) ∧ ∀ us : List Value, us.length = ps.length → bindArgs fd ⟨us, []⟩ = pure (ps.zip us)
section
variable {P : Program} {w : World} {K : PySem.W.Frag} {mg : Str → Option Value} {base : Heap}
theorem DefAt.ok {x : Str} {st : Stmt} {N ps : List Str} {k : Nat} {F : FD} {t : RS} (Z : DefAt K mg x st ps) (Sc : FnScope N ps (defScope st))
    (hbody : ∀ {f : Addr} (cdv : Value) (A : Around) (outer : List Env) (s : Shared) (H : Hp) (E : XK), Room k (A.deeper (envOfC x (defScope st) s.heap.objs.size f cdv)) →
      DSs (cxOf CX0 P w K mg base N x (defScope st) f cdv A outer s H E).nox (defBody st) t)
    (len : ∀ ds Q, F ds Q → ds.length = ps.length) (pure : ∀ ds Q, F ds Q → t { nx := fun _ => Q .non, rt := Q } (startD N ds)) : FnAt P w K mg base x ps (k + 1) F := by
  obtain ⟨f, fd, a, b, c⟩ := Z.ex
  exact ⟨f, fd, fn_ok a Sc (fun cdv A outer s H E hr => hbody cdv A outer s H E hr) len pure, .all c, a.kp, b⟩
theorem DefAt.okL {x : Str} {st : Stmt} {ps : List Str} {k : Nat} {F : FD} (Z : DefAt K mg x st ps) (h : ∀ (base : Heap) (f : Addr) (fd : FuncData), Fun K x x st f fd → FnOk P w K mg base CX0 k f fd ps (spD K F)) :
    ∃ f fd, mg x = some (.ref f) ∧ (∀ us : List Value, us.length = ps.length → bindArgs fd ⟨us, []⟩ = pure (ps.zip us)) ∧ ∀ base, FnOk P w K mg base CX0 k f fd ps (spD K F) := by
  obtain ⟨f, fd, a, b, c⟩ := Z.ex
  exact ⟨f, fd, b, c, fun base => h base f fd a⟩
end
section
variable {X : Cx} {k : Nat} {ps : List Str} {F : FD} {x : Str} {p pos : Pos} {e : Expr} {es : List Expr} {t : RA}
theorem de_callF (C : FnAt X.prog X.w X.K X.mg X.base x ps k F) (hr : Room k X.A) (ha : DA X (e :: es) t) (hg : Gl X x := by rfl)
    (hdb : (x == ("__debug__" : Str)) = false := by decide) (he : starEach (e :: es) X.env = (false, eval e X.env) :: starEach es X.env := by rfl) (hpl : (backTo pos (starEach es X.env)).any (·.1) = false := by rfl) :
    DE X (.Call (.Name x p) (e :: es) [] pos) (rCall F t) := by
  obtain ⟨f, fd, G, hb, hk, hm⟩ := C.ex
  exact de_call G hr hm hk hb ha hg hdb he hpl
end

/-! ## the law -/
/-- law(script): for a list of at most n ints it is True -/
def FLaw (n : Nat) : FD := fun ds Q => ∃ ns : List Int, ds = [.lst (ns.map .int)] ∧ ns.length ≤ n ∧ Q (.bl true)
theorem sqL_fz {K : PySem.W.Frag} {H : Hp} {a : Addr} {vs : List V} (hO : Only H) (h : SqL K H a vs) : FzL K H a vs := by
  rcases h with (h | ⟨o, h⟩) | h
  · rcases hO a with z | ⟨o, xs, z⟩
    · rw [z] at h; cases h
    · rw [z] at h; cases h
  · exact .inl ⟨o, h⟩
  · exact .inr h
theorem walk_law {l : PySem.W.OpenLaw} {q : Program} {loose : List Str} {XP : (Str → Option Value) → Heap → Prop} {YP : World → Heap → Prop} {d : DefRec} {K : Params → PySem.W.Frag} {x : Str} {k : Nat}
    (hn : l.most = some 63) (hdf : d.params.defaults = []) (hr : Room k callerA)
    (hY : ∀ (w : World) (h : Heap), YP w h → (K w.params).In h) (hd : d.name = "law")
    (F : ∀ (w : World) (mg : Str → Option Value) (h : Heap), (K w.params).In h → h.Ns mainGlobals mg →
      ∃ f fd, mg "law" = some (.ref f) ∧ (∀ us : List Value, us.length = [x].length → bindArgs fd ⟨us, []⟩ = pure ([x].zip us)) ∧ ∀ base, FnOk l.prog w (K w.params) mg base CX0 k f fd [x] (spD (K w.params) (FLaw 63))) :
    PySem.W.WalkO q loose XP YP l.row.toRowW d [] (fun f vs => PySem.call f vs) := by
  refine L2.walk_of (n := 63) (k := k) (x := x) (CX := fun _ => CX0) (sp := fun w => spD (K w.params) (FLaw 63)) hn (by decide) hdf hr hY ?_ ?_ fun _ _ _ _ _ z => z
  · intro w mg fa h KX G hmg
    rw [hd] at hmg
    obtain ⟨f, fd, hm, hb, hF⟩ := F w mg h KX G
    rw [hmg] at hm; cases hm
    exact ⟨fd, fun s u => .of_eq (hb [u] rfl), fun base _ _ => hF base⟩
  · intro w H a ns hl hO hS
    exact ⟨[.lst (ns.map .int)], fun d => d = .bl true, .cons (.lst (sqL_fz hO hS) .ints) .nil, ⟨ns, rfl, hl, rfl⟩, fun d v H' e _ r => by subst e; exact r.bl_inv⟩
end L2.R2

set_option Elab.async false
set_option linter.all false
set_option maxRecDepth 100000
namespace L2.R2
open PySem PySem.Spec PyProof.Rows L2

/-! ## == of nested tuples -/
def eqL (f : D → D → Option Bool) : List D → List D → Option Bool
  | [], [] => some true
  | [], _ :: _ => some false
  | _ :: _, [] => some false
  | x :: xs, y :: ys => match f x y, eqL f xs ys with
    | some a, some b => some (a && b)
    | _, _ => none
def eqF : Nat → D → D → Option Bool
  | 0, _, _ => none
  | n + 1, d, e => match d, e with
    | .int a, .int b => some (decide (a = b))
    | .bl a, .bl b => some (decide (a = b))
    | .non, .non => some true
    | .non, .tup _ => some false
    | .tup _, .non => some false
    | .tup xs, .tup ys => eqL (eqF n) xs ys
    | .lst xs, .lst ys => eqL (eqF n) xs ys
    | _, _ => none
theorem eqL_get {f : D → D → Option Bool} : ∀ {xs ys : List D} {b : Bool}, eqL f xs ys = some b → ∀ (j : Nat) (x y : D), xs[j]? = some x → ys[j]? = some y → ∃ c, f x y = some c
  | [], _, _, _, j, x, y, e, _ => by simp at e
  | _ :: _, [], _, _, j, x, y, _, e => by simp at e
  | a :: xs, c :: ys, b, h, j, x, y, e1, e2 => by
    unfold eqL at h
    split at h
    · rename_i p q hp hq
      cases j with
      | zero => simp at e1 e2; subst e1 e2; exact ⟨p, hp⟩
      | succ j => exact eqL_get hq j x y (by simpa using e1) (by simpa using e2)
    · cases h
theorem eqL_all {f : D → D → Option Bool} : ∀ {xs ys : List D} {b : Bool}, eqL f xs ys = some b →
    ((List.range (min xs.length ys.length)).all (fun j => match xs[j]?, ys[j]? with | some x, some y => (f x y).getD false | _, _ => false) && xs.length == ys.length) = b
  | [], [], b, h => by cases h; rfl
  | [], _ :: _, b, h => by cases h; rfl
  | _ :: _, [], b, h => by cases h; rfl
  | x :: xs, y :: ys, b, h => by
    unfold eqL at h
    split at h
    · rename_i p q hp hq
      cases h
      have ih := eqL_all hq
      rw [← ih]
      simp only [List.length_cons, Nat.succ_min_succ, List.range_succ_eq_map, List.all_cons, List.getElem?_cons_zero, hp, Option.getD_some, List.all_map]
      rw [Bool.and_assoc]
      congr 1
      congr 1
      rw [Bool.eq_iff_iff]; simp
    · cases h
section
variable {X : Cx} {pins : List (Addr × Obj)} {σ : St} {H : Hp} {s : Shared}
theorem eqL_same {f : D → D → Option Bool} (hf : ∀ {d e : D} {v : V} {b : Bool}, f d e = some b → Rep X.K H d v → Rep X.K H e v → b = true) : ∀ {xs ys : List D} {vs : List V} {b : Bool}, eqL f xs ys = some b → Reps X.K H xs vs → Reps X.K H ys vs → b = true := by
  intro xs
  induction xs with
  | nil => intro ys vs b h q1 q2; cases q1; cases q2; cases h; rfl
  | cons x xs ih =>
    intro ys vs b h q1 q2
    cases q1 with
    | cons r t =>
      cases q2 with
      | cons r' t' =>
        unfold eqL at h
        split at h
        · rename_i p q hp hq
          cases h
          rw [hf hp r r', ih hq t t']; rfl
        · cases h
theorem eqF_same (I : Inv X pins σ H s) : ∀ (n : Nat) {d e : D} {v : V} {b : Bool}, eqF n d e = some b → Rep X.K H d v → Rep X.K H e v → b = true
  | 0, _, _, _, _, h, _, _ => by cases h
  | n + 1, d, e, v, b, h, r1, r2 => by
    unfold eqF at h
    split at h
    · rw [r1.int_inv] at r2; cases r2; cases h; simp
    · rw [r1.bl_inv] at r2; cases r2; cases h; simp
    · cases h; rfl
    · cases r1; cases r2
    · cases r2; cases r1
    · rename_i xs ys
      cases r1 with
      | @tup a vs _ h1 q1 =>
        cases r2 with
        | @tup _ ws _ h2 q2 =>
          rw [h1] at h2; cases h2
          exact eqL_same (fun {d e v b} => eqF_same I n) h q1 q2
    · rename_i xs ys
      cases r1 with
      | @lst a vs _ h1 q1 =>
        cases r2 with
        | @lst _ ws _ h2 q2 =>
          rw [I.list_inj h2.sq h1.sq] at q2
          exact eqL_same (fun {d e v b} => eqF_same I n) h q1 q2
    · cases h
/-- two lists, item by item -/
theorem eq_lists (I : Inv X pins σ H s) {n : Nat} {xs ys : List D} {a c : Addr} {vs ws : List V} {b : Bool} {A : Around} (h : eqL (eqF n) xs ys = some b) (h1 : SqL X.K H a vs) (q1 : Reps X.K H xs vs) (h2 : SqL X.K H c ws) (q2 : Reps X.K H ys ws) (hu : A.units < cLine)
    (at' : ∀ {d e : D} {v u : V} {x y : Value} {b : Bool}, eqF n d e = some b → Rep X.K H d v → Rep X.K H e u → RelV v x → RelV u y → SeqAt.EqAt A.in1 s x y b) : SeqAt.RcAt A s (.ref a) (.ref c) b ∧ SeqAt.EqAt A s (.ref a) (.ref c) b := by
  obtain ⟨its, rv, ht, _⟩ := I.list h1
  obtain ⟨its2, rv2, ht2, _⟩ := I.list h2
  have l1 : xs.length = its.length := q1.length.trans rv.length
  have l2 : ys.length = its2.length := q2.length.trans rv2.length
  have rc : SeqAt.RcAt A s (.ref a) (.ref c) b := by
    by_cases hl : xs.length = ys.length
    · have := SeqAt.RcAt.lists (A := A) (s := s) (e := fun j => match xs[j]?, ys[j]? with | some x, some y => (eqF n x y).getD false | _, _ => false) ht.isList ht2.isList (by simp; omega) hu (fun j g1 g2 => ?_)
      · have al := eqL_all h
        simp only [List.size_toArray, ← l1] at this
        rw [← hl, Nat.min_self, beq_self_eq_true, Bool.and_true] at al
        rw [al] at this
        exact this
      · simp only [List.size_toArray] at g1 g2
        have e1 : xs[j]? = some (xs[j]'(by omega)) := List.getElem?_eq_getElem _
        have e2 : ys[j]? = some (ys[j]'(by omega)) := List.getElem?_eq_getElem _
        obtain ⟨k, hk⟩ := eqL_get h j _ _ e1 e2
        rw [e1, e2]
        simp only [hk, Option.getD_some]
        obtain ⟨v1, f1, f2⟩ := q1.get e1
        obtain ⟨v2, f3, f4⟩ := q2.get e2
        obtain ⟨u1, g3, g4⟩ := rv.get f1
        obtain ⟨u2, g5, g6⟩ := rv2.get f3
        have a1 : its.toArray[j] = u1 := by
          have := List.getElem?_eq_getElem g1
          rw [this] at g3
          simpa using Option.some.inj g3
        have a2 : its2.toArray[j] = u2 := by
          have := List.getElem?_eq_getElem g2
          rw [this] at g5
          simpa using Option.some.inj g5
        rw [a1, a2]
        exact at' hk f2 f4 g4 g6
    · have al := eqL_all h
      have : (xs.length == ys.length) = false := by simpa using hl
      rw [this, Bool.and_false] at al
      rw [← al]
      exact SeqAt.RcAt.lists_lengths ht.isList ht2.isList (by simp; omega) hu
  refine ⟨rc, ?_⟩
  by_cases hac : a = c
  · subst hac
    rw [I.list_inj h2 h1] at q2
    rw [eqL_same (fun {d e v b} => eqF_same I n) h q1 q2]
    exact SeqAt.EqAt.same _
  · exact SeqAt.EqAt.of_refs hac rc
theorem eqF_at (I : Inv X pins σ H s) : ∀ (n : Nat) {d e : D} {v u : V} {x y : Value} {b : Bool} {A : Around}, eqF n d e = some b → Rep X.K H d v → Rep X.K H e u → RelV v x → RelV u y → A.units + n < cLine →
    SeqAt.RcAt A s x y b ∧ SeqAt.EqAt A s x y b
  | 0, _, _, _, _, _, _, _, _, h, _, _, _, _, _ => by cases h
  | n + 1, d, e, v, u, x, y, b, A, h, r1, r2, rx, ry, hu => by
    have same := fun (hvu : v = u) => eqF_same I (n + 1) h r1 (hvu ▸ r2)
    unfold eqF at h
    split at h
    · rename_i i j
      rw [r1.int_inv] at rx; rw [r2.int_inv] at ry
      obtain ⟨t, rfl⟩ := rx
      obtain ⟨t', rfl⟩ := ry
      cases h
      have e : decide (i = j) = (i == j) := by rw [Bool.beq_eq_decide_eq]
      rw [e]
      exact ⟨SeqAt.RcAt.int_int _ _ _ _, SeqAt.EqAt.int_int _ _ _ _⟩
    · rename_i i j
      rw [r1.bl_inv] at rx; rw [r2.bl_inv] at ry
      cases rx; cases ry
      cases h
      have e : decide (i = j) = (i == j) := by rw [Bool.beq_eq_decide_eq]
      rw [e]
      exact ⟨SeqAt.RcAt.bool_bool _ _, SeqAt.EqAt.bool_bool _ _⟩
    · cases r1; cases r2; cases rx; cases ry; cases h
      exact ⟨SeqAt.RcAt.none_none, SeqAt.EqAt.same _⟩
    · cases r1
      cases r2 with
      | tup h2 q2 =>
        cases rx; cases ry; cases h
        obtain ⟨its, rv, ht, _⟩ := I.tuple (SqT.of h2)
        exact ⟨SeqAt.RcAt.none_tuple ht (by omega), SeqAt.EqAt.none_tuple ht (by omega)⟩
    · cases r2
      cases r1 with
      | tup h2 q2 =>
        cases rx; cases ry; cases h
        obtain ⟨its, rv, ht, _⟩ := I.tuple (SqT.of h2)
        exact ⟨SeqAt.RcAt.tuple_none ht (by omega), SeqAt.EqAt.tuple_none ht (by omega)⟩
    · rename_i xs ys
      cases r1 with
      | @tup a vs _ h1 q1 =>
        cases r2 with
        | @tup c ws _ h2 q2 =>
          cases rx; cases ry
          obtain ⟨its, rv, ht, _⟩ := I.tuple (SqT.of h1)
          obtain ⟨its2, rv2, ht2, _⟩ := I.tuple (SqT.of h2)
          have l1 : xs.length = its.length := q1.length.trans rv.length
          have l2 : ys.length = its2.length := q2.length.trans rv2.length
          have rc : SeqAt.RcAt A s (.ref a) (.ref c) b := by
            have := SeqAt.RcAt.tuples (A := A) (s := s) (e := fun j => match xs[j]?, ys[j]? with | some x, some y => (eqF n x y).getD false | _, _ => false) ht ht2 (by omega) (fun j g1 g2 => ?_)
            · simp only [List.size_toArray, ← l1, ← l2] at this
              rw [eqL_all h] at this
              exact this
            · simp only [List.size_toArray] at g1 g2
              have e1 : xs[j]? = some (xs[j]'(by omega)) := List.getElem?_eq_getElem _
              have e2 : ys[j]? = some (ys[j]'(by omega)) := List.getElem?_eq_getElem _
              obtain ⟨k, hk⟩ := eqL_get h j _ _ e1 e2
              rw [e1, e2]
              simp only [hk, Option.getD_some]
              obtain ⟨v1, f1, f2⟩ := q1.get e1
              obtain ⟨v2, f3, f4⟩ := q2.get e2
              obtain ⟨u1, g3, g4⟩ := rv.get f1
              obtain ⟨u2, g5, g6⟩ := rv2.get f3
              have a1 : its.toArray[j] = u1 := by
                have := List.getElem?_eq_getElem g1
                rw [this] at g3
                simpa using Option.some.inj g3
              have a2 : its2.toArray[j] = u2 := by
                have := List.getElem?_eq_getElem g2
                rw [this] at g5
                simpa using Option.some.inj g5
              rw [a1, a2]
              exact (eqF_at I n hk f2 f4 g4 g6 (by show A.units + 1 + n < cLine; omega)).2
          refine ⟨rc, ?_⟩
          by_cases hac : a = c
          · subst hac
            rw [same rfl]
            exact SeqAt.EqAt.same _
          · exact SeqAt.EqAt.of_refs hac rc
    · rename_i xs ys
      cases r1 with
      | @lst a vs _ h1 q1 =>
        cases r2 with
        | @lst c ws _ h2 q2 =>
          cases rx; cases ry
          exact eq_lists I h h1.sq q1 h2.sq q2 (by omega) fun {d e v u x y b} hk f2 f4 g4 g6 => (eqF_at I n hk f2 f4 g4 g6 (by show A.units + 1 + n < cLine; omega)).2
    · cases h
end
/-- == -/
def dEq : R22 := fun x y Q => match eqF 6 x y with
  | some b => Q (.bl b)
  | none => False
section
variable {X : Cx}
theorem eqB_at {X : Cx} {pins : List (Addr × Obj)} {σ : St} {H : Hp} {s : Shared} (I : Inv X pins σ H s) {d e : D} {v u : V} {x y : Value} {b : Bool} {A : Around} (h : eqF 6 d e = some b) (r1 : RepB X.K H d v) (r2 : RepB X.K H e u) (rx : RelV v x) (ry : RelV u y) (hu : A.units + 6 < cLine) : SeqAt.RcAt A s x y b := by
  by_cases hl : ∃ xs ys, d = .lst xs ∧ e = .lst ys
  · obtain ⟨xs, ys, rfl, rfl⟩ := hl
    obtain ⟨a, vs, rfl, h1, q1⟩ := r1.lst
    obtain ⟨c, ws, rfl, h2, q2⟩ := r2.lst
    cases rx; cases ry
    exact (eq_lists I (n := 5) h h1 q1 h2 q2 (by omega) fun {d e v u x y b} hk f2 f4 g4 g6 => (eqF_at I 5 hk f2 f4 g4 g6 (by show A.units + 1 + 5 < cLine; omega)).2).1
  · have p1 : Rep X.K H d v := by
      rcases r1 with r | ⟨ds, a, vs, e1, _⟩
      · exact r
      · subst e1; cases e <;> first | (cases h; done) | exact absurd ⟨_, _, rfl, rfl⟩ hl
    have p2 : Rep X.K H e u := by
      rcases r2 with r | ⟨ds, a, vs, e1, _⟩
      · exact r
      · subst e1; cases d <;> first | (cases h; done) | exact absurd ⟨_, _, rfl, rfl⟩ hl
    exact (eqF_at I 6 h p1 p2 rx ry hu).1
theorem od_eq {k : Nat} (hr : Room k X.A) : OpD X (compareOp .Eq) dEq := by
  intro pins s σ H x y v u Q I rx ry ⟨d, e, P, r1, r2, q, kk⟩
  unfold dEq at q
  split at q
  · rename_i b hb
    have hu := hr.units
    exact eqB_at I (A := X.A) hb r1 r2 rx ry (by omega) _ _ _ _ ⟨.bl b, H, I, rfl, kk _ _ H q (Same.refl H) (.bl b)⟩
  · exact q.elim
end
end L2.R2

set_option Elab.async false
set_option linter.all false
set_option maxRecDepth 100000
namespace L2.R2
open PySem PySem.Spec PyProof.Rows L2

/-! ## a comprehension's block -/
/-- what a comprehension's names are like: own ones local, the rest taken from cells around -/
structure CScope (X : Cx) (scope : Scope) : Prop where
  kind : scope.kind = .function
  nocell : ∀ y ∈ scope.names, y.2 ≠ .cell
  locs : ∀ y ∈ scope.names, y.2 = .local → scope.names.lookup y.1 = some .local
  frees : ∀ y ∈ scope.names, y.2 = .free → X.env.kindOf y.1 = some .cell ∨ X.env.kindOf y.1 = some .free
section
variable {X : Cx} {pins : List (Addr × Obj)} {σ : St} {H : Hp} {s : Shared} {scope : Scope} {N : List Str} {cl : List (Str × Addr)} {C : Addr} {fp : List Addr}
end
end L2.R2

set_option Elab.async false
set_option linter.all false
set_option maxRecDepth 100000
namespace L2.R2
open PySem PySem.Spec PyProof.Rows L2

/-- the items of a comprehension, one after another -/
def compD (g : RG) (te : RE) : List D → En → List D → (List D → Prop) → Prop
  | [], _, acc, Q => Q acc
  | x :: xs, ρ, acc, Q => g x ρ fun ρ' => te ρ' fun d => compD g te xs ρ' (acc ++ [d]) Q
def capO (ρ : En) (i : Nat) : Option S := match ρ[i]? with
  | some (some (.d d)) => some (.d d)
  | _ => none
def capE (ρ : En) (k : Nat) (ix : List Nat) : En := List.replicate k none ++ ix.map (capO ρ)
section
variable {X : Cx} {pins : List (Addr × Obj)} {σ : St} {H : Hp} {s2 : Shared} {scope : Scope} {N : List Str} {cl : List (Str × Addr)} {fp : List Addr} {it : Addr} {tn : Nat → Heap → Prop} {J : It} {xs : List D} {ρ : En}
  {elt target iter : Expr} {pos : Pos} {g : RG} {te : RE} {k : Nat} {ix : List Nat} {ys : List Str} {P : List D → Prop}
end
end L2.R2

set_option Elab.async false
set_option linter.all false
set_option maxRecDepth 100000
namespace L2.R2
open PySem PySem.Spec PyProof.Rows L2

structure CompF (X : Cx) (scope : Scope) (N : List Str) (k : Nat) (ix : List Nat) : Prop where
  sc : CScope X scope
  hN : N.length = k + (N.drop k).length
  hix : ix.length = (N.drop k).length
  hiy : ∀ (j : Nat) (y : Str) (i : Nat), (N.drop k)[j]? = some y → ix[j]? = some i → X.N[i]? = some y ∧ (y, NameKind.free) ∈ scope.names
  hkind : ∀ y ∈ N.drop k, (relabel scope X.env).names.lookup y = some .cell ∨ (relabel scope X.env).names.lookup y = some .free
def rComp (ti : RA) (k : Nat) (ix : List Nat) (g : RG) (te : RE) : RA := fun ρ Q => ti ρ fun xs => Sz xs.length ∧ compD g te xs (capE ρ k ix) [] Q
section
variable {X : Cx} {scope : Scope} {elt target iter : Expr} {pos : Pos} {g : RG} {te : RE} {ti : RA}
end
end L2.R2

set_option Elab.async false
set_option linter.all false
set_option maxRecDepth 100000
namespace L2.R2
open PySem PySem.Spec PyProof.Rows L2

/-! ## a list that a name keeps, changed in place -/
section
variable {X : Cx} {e a b : Expr} {pos apos cpos npos : Pos} {te : RE} {x : Str}
def rAppD (i : Nat) (te : RE) : RS := fun E ρ => match ρ[i]? with
  | some (some (.own xs)) => te ρ fun d => Sz (xs.length + 1) ∧ E.nx (ρ.set i (some (.own (xs ++ [d]))))
  | _ => False
def rPopD (i : Nat) : RS := fun E ρ => match ρ[i]? with
  | some (some (.own xs)) => xs ≠ [] ∧ E.nx (ρ.set i (some (.own xs.dropLast)))
  | _ => False
/-- x[k] = e -/
def rSetIx (i : Nat) (te tk : RE) : RS := fun E ρ => match ρ[i]? with
  | some (some (.own xs)) => te ρ fun d => tk ρ fun kd => match kd with
    | .int k => match ixN xs.length k with
      | some j => E.nx (ρ.set i (some (.own (xs.set j d))))
      | none => False
    | _ => False
  | _ => False
end
end L2.R2

set_option Elab.async false
set_option linter.all false
set_option maxRecDepth 100000
namespace L2.R2
open PySem PySem.Spec PyProof.Rows L2

/-! ## sums of sequences, parts of sequences -/
section
variable {X : Cx} {e a b : Expr} {pos p : Pos}
/-- Q, or Q once the fresh list is frozen -/
def FzQ (X : Cx) (Q : VK) : VK := fun v H' => Q v H' ∨ ∃ p vs H1, v = .ref p ∧ H' = upd H1 p (.lst vs) ∧ H1 p = none ∧ ∀ H2, Same H1 H2 → FzL X.K H2 p vs → Q v H2
theorem ep_fz {pins : List (Addr × Obj)} {σ : St} {Q : VK} {u : Value} {s : Shared} (h : EP X pins σ (FzQ X Q) u s) : EP X pins σ Q u s := by
  obtain ⟨v, H', I, rv, q | ⟨p, vs, H1, rfl, rfl, hn, q⟩⟩ := h
  · exact ⟨v, H', I, rv, q⟩
  · obtain ⟨o, I2⟩ := Inv.freeze I (a := p) (xs := vs) upd_same
    exact ⟨.ref p, _, I2, rv, q _ (fun b u e => by rw [upd_ne (ne_of_none e hn), upd_ne (ne_of_none e hn)]; exact e) (.inl ⟨o, upd_same⟩)⟩
theorem PE.frz {t : TE} (h : PE X e t) : PE X e (fun σ H Q => t σ H (FzQ X Q)) := fun pins s σ H Q I q => thn (h pins s σ H _ I q) fun _ _ => ep_fz
theorem OpR.frz {f : Value → Value → Sem Value} {r : R2} (h : OpR X f r) : OpR X f (fun x y H Q => r x y H (FzQ X Q)) := fun pins s σ H x y v u Q I rx ry q => thn (h pins s σ H x y v u _ I rx ry q) fun _ _ => ep_fz
theorem CallR.frz {f : Value} {r : List V → Hp → VK → Prop} (h : CallR X f r) : CallR X f (fun xs H Q => r xs H (FzQ X Q)) := fun pins s σ H xs us Q I rs q => thn (h pins s σ H xs us _ I rs q) fun _ _ => ep_fz
def dAddA : R22 := fun x y Q => match x, y with
  | .int i, .int j => Q (.int (i + j))
  | .lst xs, .lst ys => Sz (xs.length + ys.length) ∧ Q (.lst (xs ++ ys))
  | .tup xs, .tup ys => xs ≠ [] ∧ Sz (xs.length + ys.length) ∧ Q (.tup (xs ++ ys))
  | _, _ => False
theorem upd_new {H : Hp} {p : Addr} {o : HO} (hp : H p = none) : Same H (upd H p o) := fun b u e => by rw [upd_ne (ne_of_none e hp)]; exact e
/-- a slice of a list or of a tuple, of a tuple not the whole -/
def rSlA (te : RE) (tl th : RO) : RE := fun ρ Q => te ρ fun x => tl ρ fun l => th ρ fun u => match x with
  | .lst ds => Q (.lst (cutD ds l u))
  | .tup ds => ¬ (HT.sIx ds.length 0 l = 0 ∧ HT.sIx ds.length ds.length u = ds.length) ∧ Q (.tup (cutD ds l u))
  | _ => False
/-! ## list(x), tuple(x), sum, max, min of a list -/
variable {te : RE}
def dListOf : D → (D → Prop) → Prop := fun d Q => match d with
  | .lst ds => Q (.lst ds)
  | .tup ds => Q (.lst ds)
  | _ => False
def dTupOf : D → (D → Prop) → Prop := fun d Q => match d with
  | .lst ds => Q (.tup ds)
  | .tup ds => Q (.tup ds)
  | _ => False
def dSum : D → (D → Prop) → Prop := fun d Q => match d with
  | .lst ds => ∃ ns : List Int, ds = ns.map D.int ∧ Q (.int ns.sum)
  | _ => False
end
end L2.R2

set_option Elab.async false
set_option linter.all false
set_option maxRecDepth 100000
namespace L2.R2
open PySem PySem.Spec PyProof.Rows L2

/-! ## reversed(the list at a), n items -/
section
variable {X : Cx} {tg e : Expr} {te : RE} {pos p : Pos}
def riRev (te : RE) : RA := fun ρ Q => te ρ fun d => match d with
  | .lst ds => Q ds.reverse
  | _ => False
end
end L2.R2

set_option Elab.async false
set_option linter.all false
set_option maxRecDepth 100000
set_option maxHeartbeats 1000000
namespace L2.R2
open PySem PySem.Spec PyProof.Rows L2

/-! ## an iterator over a list or a tuple that another one draws from -/
structure Sub (prog : Program) (w : World) (I a : Addr) (vs : List Value) (T : Nat → Heap → Prop) : Prop where
  stay : ∀ {k : Nat} {h h' : Heap}, T k h → (∀ o, h.get? I = some o → h'.get? I = some o) → (∀ o, h.get? a = some o → h'.get? a = some o) → T k h'
  lt : ∀ {k : Nat} {h : Heap}, T k h → I < h.objs.size ∧ a < h.objs.size
  item : ∀ {A : Around} {E : Value → Shared → Prop} {s : Shared} {k : Nat} {x : Value} {Q : Value → Shared → Prop}, T k s.heap → vs[k]? = some x → (∀ h', T (k + 1) h' → Heap.SameBut I s.heap h' → Q x { s with heap := h' }) →
    wpAny (model prog w) A (Builtin.SmallTypes.nextOf (.ref I)) Q E s
  done : ∀ {A : Around} {E : Value → Shared → Prop} {s : Shared} {k : Nat} {Q : Value → Shared → Prop}, A.handled = none → T k s.heap → vs[k]? = none →
    (∀ h' e, Heap.ExtBut I s.heap h' → (∃ o, h'.get? e = some o ∧ o.cls = .type "StopIteration") → E (.ref e) { s with heap := h' }) → wpAny (model prog w) A (Builtin.SmallTypes.nextOf (.ref I)) Q E s
section
variable {prog : Program} {w : World} {A : Around} {E : Value → Shared → Prop} {s : Shared}
end
/-! ## zip over two of these, its tuples kept by who draws -/
abbrev ZipRec (h : Heap) (z TI TO : Addr) (f0 f1 : Value) : Prop := h.get? z = some { cls := .type "zip", dict := none, data := .fields #[f0, f1, .bool false, .ref TI, .ref TO], slots := #[] }
/-- handed out: nothing, or a tuple that still stands -/
def ZipOut (h : Heap) (z TI TO i1 i2 : Addr) : Prop := ZipRec h z TI TO .none (.bool false) ∨ ∃ (T : Addr) (b : Bool) (o : Obj), ZipRec h z TI TO (rawInt T) (.bool b) ∧ (h.get? T = some o ∧ o.cls = .type "tuple") ∧ T ≠ z ∧ T ≠ i1 ∧ T ≠ i2
structure ZipAp (z TI TO i1 i2 a1 a2 : Addr) : Prop where
  TIz : TI ≠ z
  TOz : TO ≠ z
  i1z : i1 ≠ z
  i2z : i2 ≠ z
  a1z : a1 ≠ z
  a2z : a2 ≠ z
  IO : TI ≠ TO
  I1 : TI ≠ i1
  I2 : TI ≠ i2
  O1 : TO ≠ i1
  O2 : TO ≠ i2
  i12 : i1 ≠ i2
  a1O : a1 ≠ TO
  a2O : a2 ≠ TO
  a1i1 : a1 ≠ i1
  a1i2 : a1 ≠ i2
  a2i1 : a2 ≠ i1
  a2i2 : a2 ≠ i2
section
variable {prog : Program} {w : World} {A : Around} {E : Value → Shared → Prop} {s : Shared} {z TI TO i1 i2 a1 a2 : Addr} {vs us : List Value} {T1 T2 : Nat → Heap → Prop}
/-- its state, k pairs drawn -/
structure ZipSt (z TI TO i1 i2 : Addr) (T1 T2 : Nat → Heap → Prop) (k : Nat) (h : Heap) : Prop where
  out : ZipOut h z TI TO i1 i2
  its : IsPair h TI (.ref i1) (.ref i2)
  own : ∃ a b, IsPair h TO a b
  one : T1 k h
  two : T2 k h
end

/-! ## zip(a, b) made -/
abbrev itRec (c : String) (l : Addr) : Obj := { cls := .type c, data := .fields #[.ref l, .int 0 0] }
section
variable {prog : Program} {w : World} {A : Around} {E : Value → Shared → Prop} {s : Shared}
/-! ## list(an iterator): the loop that fills it -/
end
end L2.R2

set_option Elab.async false
set_option linter.all false
set_option maxRecDepth 100000
set_option maxHeartbeats 1000000
namespace L2.R2
open PySem PySem.Spec PyProof.Rows L2
section
variable {prog : Program} {w : World} {A : Around} {E : Value → Shared → Prop} {s : Shared} {z TI TO i1 i2 a1 a2 : Addr} {vs us : List Value} {T1 T2 : Nat → Heap → Prop}
/-- the pairs that were drawn stand one behind the other, from N on -/
structure ZipGot (z TI TO i1 i2 : Addr) (T1 T2 : Nat → Heap → Prop) (vs us : List Value) (N : Nat) (fixed : Heap) (S : Addr) (acc : List Value) (h : Heap) : Prop where
  st : ZipSt z TI TO i1 i2 T1 T2 acc.length h
  size : h.objs.size = N + acc.length
  refs : ∀ j, j < acc.length → acc[j]? = some (.ref (N + j))
  got : ∀ j, j < acc.length → ∀ x y, vs[j]? = some x → us[j]? = some y → IsPair h (N + j) x y
  kept : ∀ b o, b ≠ z → b ≠ TO → b ≠ i1 → b ≠ i2 → b ≠ S → fixed.get? b = some o → h.get? b = some o
/-- .. and at the end -/
structure ZipHad (z TO i1 i2 : Addr) (vs us : List Value) (N : Nat) (fixed : Heap) (S : Addr) (acc : List Value) (h : Heap) : Prop where
  refs : ∀ j, j < acc.length → acc[j]? = some (.ref (N + j))
  got : ∀ j, j < acc.length → ∀ x y, vs[j]? = some x → us[j]? = some y → IsPair h (N + j) x y
  kept : ∀ b o, b ≠ z → b ≠ TO → b ≠ i1 → b ≠ i2 → b ≠ S → fixed.get? b = some o → h.get? b = some o
end
end L2.R2

set_option Elab.async false
set_option linter.all false
set_option maxRecDepth 100000
set_option maxHeartbeats 1000000
namespace L2.R2
open PySem PySem.Spec PyProof.Rows L2
section
variable {X : Cx} {pins : List (Addr × Obj)} {σ : St}
end
/-! ## list(zip(a, b)) -/
def seqD : D → Option (List D)
  | .lst xs => some xs
  | .tup xs => some xs
  | _ => none
def rZip (ta tb : RE) : RA := fun ρ Q => ta ρ fun x => tb ρ fun y => ∃ xs ys, seqD x = some xs ∧ seqD y = some ys ∧ xs.length = ys.length ∧ Q (xs.zipWith (fun a b => D.tup [a, b]) ys)
/-- what is walked: a list or a tuple -/
structure Src (h : Heap) (a : Addr) (its : List Value) (c : String) (P : Heap → Prop) (T : Addr → Nat → Heap → Prop) : Prop where
  here : P h
  lt : a < h.objs.size
  stay : ∀ {h1 h2 : Heap}, P h1 → (∀ o, h1.get? a = some o → h2.get? a = some o) → P h2
  sub : ∀ {prog : Program} {w : World} {I : Addr}, a ≠ I → Sub prog w I a its (T I)
  start : ∀ {h1 : Heap} {I : Addr}, h1.get? I = some (itRec c a) → P h1 → T I 0 h1
section
variable {X : Cx} {a b : Expr} {ta tb : RE} {p pz pos posz : Pos}
end
end L2.R2

set_option Elab.async false
set_option linter.all false
set_option maxRecDepth 100000
set_option maxHeartbeats 1000000
namespace L2.R2
open PySem PySem.Spec PyProof.Rows L2
/-! ## for x, y in zip(the list at l, the list at m) -/
section
variable {X : Cx} {a b : Expr} {ta tb : RE} {pos p : Pos} {elts : List Expr} {k : Nat} {tp : Pos}
def riZip (ta tb : RE) : RA := fun ρ Q => ta ρ fun x => tb ρ fun y => match x, y with
  | .lst xs, .lst ys => Q (xs.zipWith (fun a b => D.tup [a, b]) ys)
  | _, _ => False
end
end L2.R2

set_option Elab.async false
set_option linter.all false
set_option maxRecDepth 100000
set_option maxHeartbeats 1000000
namespace L2.R2
open PySem PySem.Spec PyProof.Rows L2
/-! ## min of a list of tuples of ints -/
section
variable {prog : Program} {w : World} {A : Around} {E : Value → Shared → Prop} {s : Shared}
end
end L2.R2

set_option Elab.async false
set_option linter.all false
set_option maxRecDepth 100000
set_option maxHeartbeats 1000000
namespace L2.R2
open PySem PySem.Spec PyProof.Rows L2
section
variable {X : Cx} {e a b : Expr} {te ta tb : RE} {p pos : Pos}
/-! ### tuples of ints: < -/
/-! ### min of a list of them -/
/-! ### != -/
def dNe : R22 := fun x y Q => match x, y with
  | .int i, .int j => Q (.bl !(decide (i = j)))
  | .bl i, .bl j => Q (.bl !(decide (i = j)))
  | .tup xs, .tup ys => match eqL (eqF 5) xs ys with
    | some b => Q (.bl !b)
    | none => False
  | _, _ => False
/-! ### xs.index(y) -/
def dIndex : R22 := fun x y Q => match x with
  | .lst xs => ∃ j : Nat, (∃ d, xs[j]? = some d ∧ eqF 6 d y = some true) ∧ (∀ (i : Nat) d, i < j → xs[i]? = some d → eqF 6 d y = some false) ∧ (∀ d ∈ xs, ∃ b, eqF 6 d y = some b) ∧ Q (.int (j : Int))
  | _ => False
end
section
variable {X : Cx} {pins : List (Addr × Obj)} {σ : St} {H : Hp} {s : Shared}
end
section
variable {X : Cx} {e a b : Expr} {te ta tb : RE} {p pos : Pos}
def rIndex (ta tb : RE) : RE := fun ρ Q => ta ρ fun x => (∃ xs, x = .lst xs) ∧ tb ρ fun y => dIndex x y Q
end
end L2.R2

set_option Elab.async false
set_option linter.all false
set_option maxRecDepth 100000
set_option maxHeartbeats 1000000
namespace L2.R2
open PySem PySem.SetTable
/-! ## the places of a set's table: every search comes to an empty one -/
def hop (N i : Nat) : Nat := (i * 5 + 1) % N
def hops (N : Nat) : Nat → Nat → Nat
  | 0, i => i
  | m + 1, i => hops N m (hop N i)
theorem hops_add (N : Nat) : ∀ a b i, hops N (a + b) i = hops N b (hops N a i)
  | 0, b, i => by rw [Nat.zero_add]; rfl
  | a + 1, b, i => by rw [Nat.add_right_comm]; exact hops_add N a b (hop N i)
def trail (N : Nat) : Nat → Nat → List Nat
  | 0, _ => []
  | m + 1, i => i :: trail N m (hop N i)
theorem mem_trail {N j : Nat} : ∀ {m i : Nat}, j ∈ trail N m i → ∃ k, k < m ∧ hops N k i = j
  | 0, _, h => by cases h
  | m + 1, i, h => by
    rcases List.mem_cons.mp h with rfl | h
    · exact ⟨0, by omega, rfl⟩
    · obtain ⟨k, hk, e⟩ := mem_trail h
      exact ⟨k + 1, by omega, e⟩
def Round (N : Nat) : Prop := (∀ j, j < N → j ∈ trail N N 0) ∧ hops N N 0 = 0
theorem Round.reach {N : Nat} (h : Round N) {i j : Nat} (hi : i < N) (hj : j < N) : ∃ k, k < N ∧ hops N k i = j := by
  obtain ⟨a, ha, ea⟩ := mem_trail (h.1 i hi)
  obtain ⟨b, hb, eb⟩ := mem_trail (h.1 j hj)
  by_cases hab : a ≤ b
  · refine ⟨b - a, by omega, ?_⟩
    rw [← ea, ← hops_add, show a + (b - a) = b by omega, eb]
  · refine ⟨b + (N - a), by omega, ?_⟩
    rw [← ea, ← hops_add, show a + (b + (N - a)) = N + b by omega, hops_add, h.2, eb]

structure TabOk (t : SetTable) (n : Nat) : Prop where
  size : t.place.size = n
  dum : t.dummies = #[]
  room : n ≤ t.mask
  round : Round (t.mask + 1)
  ris : t.place.toList.Pairwise (· < ·)

/-! ## a table laid anew -/
/-! ## the places rise -/
def placeAt (t : SetTable) (k : Nat) : Nat := if k = 0 then 0 else t.place.getD (k - 1) 0 + 1
end L2.R2

set_option Elab.async false
set_option linter.all false
set_option maxRecDepth 100000
set_option maxHeartbeats 1000000
namespace L2.R2
open PySem PySem.SetTable
/-! ## tuples of ints put into a set -/
section
variable {prog : Program} {w : World} {A : Around} {E : Value → Shared → Prop} {s : Shared}

def byText (w : World) : Bool := w.params.followText "set-order"
/-- the elements of a set: tuples of ints with their hashes -/
def EsOk (prog : Program) (w : World) (h : Heap) (es : Array (Int × Value)) : Prop := ∀ e ∈ es.toList, ∃ ks b, e = (tupleKeyHash (intKind prog w) ks, .ref b) ∧ IsTupleKey (intKind prog w) h ks b
def Full (mask n : Nat) : Prop := (mask = 7 ∧ n ≤ 4) ∨ (mask = 31 ∧ n ≤ 18) ∨ (mask = 127 ∧ n ≤ 76)
def setRec (es : Array (Int × Value)) (ep : Nat) (t : SetTable) : Obj := { cls := .type "set", dict := none, data := .set es ep t }

/-- a set of tuples of ints -/
structure SetTup (prog : Program) (w : World) (h : Heap) (S : Addr) (es : Array (Int × Value)) : Prop where
  tab : ∃ ep t, h.get? S = some (setRec es ep t) ∧ TabOk t es.size ∧ Full t.mask es.size ∧ t.led = !byText w ∧ t.plain = true
  els : EsOk prog w h es

end
end L2.R2

set_option Elab.async false
set_option linter.all false
set_option maxRecDepth 100000
set_option maxHeartbeats 3200000
namespace L2.R2
open PySem PySem.SetTable PyProof.Rows
/-! ## set(a list of tuples of ints) -/
section
variable {prog : Program} {w : World} {A : Around} {E : Value → Shared → Prop} {s : Shared}

theorem SetTup.other {h h' : Heap} {S : Addr} {es : Array (Int × Value)} (H : SetTup prog w h S es) (up : ∀ b o, h.get? b = some o → (∃ e ∈ es.toList, e.2 = .ref b) ∨ b = S → h'.get? b = some o) : SetTup prog w h' S es := by
  obtain ⟨⟨ep, t, ho, r⟩, els⟩ := H
  refine ⟨⟨ep, t, up _ _ ho (Or.inr rfl), r⟩, fun e he => ?_⟩
  obtain ⟨ks, b, e1, o, items, n, h1, h2, h3, h4⟩ := els e he
  exact ⟨ks, b, e1, o, items, n, up b o h1 (Or.inl ⟨e, he, by rw [e1]⟩), h2, h3, h4⟩

structure SetDone (prog : Program) (w : World) (items : Array Value) (key : Nat → List Int) (S : Addr) (i : Nat) (h : Heap) : Prop where
  ex : ∃ es, SetTup prog w h S es ∧ (∀ y ∈ es.toList, ∃ j, j < i ∧ items[j]? = some y.2) ∧ (∀ j, j < i → ∃ y ∈ es.toList, ∃ b, y.2 = .ref b ∧ IsTupleKey (intKind prog w) h (key j) b) ∧ es.size ≤ i

end
end L2.R2

set_option Elab.async false
set_option linter.all false
set_option maxRecDepth 100000
set_option maxHeartbeats 3200000
namespace L2.R2
open PySem PySem.SetTable PyProof.Rows
/-! ## walking over such a set -/
section
variable {prog : Program} {w : World} {A : Around} {E : Value → Shared → Prop} {s : Shared}
def slotAt (w : World) (t : SetTable) (k : Nat) : Nat := if byText w = true then 0 else placeAt t k
def sitRec (w : World) (S : Addr) (n ep : Nat) (t : SetTable) (k : Nat) : Obj := { cls := .type "set_iterator", data := .fields #[rawInt (slotAt w t k), rawInt k, .ref S, rawInt n, rawInt ep] }

structure SetIt (w : World) (S I : Addr) (es : Array (Int × Value)) (ep : Nat) (t : SetTable) (k : Nat) (h : Heap) : Prop where
  set : h.get? S = some (setRec es ep t)
  it : h.get? I = some (sitRec w S es.size ep t k)

end
end L2.R2

set_option Elab.async false
set_option linter.all false
set_option maxRecDepth 100000
set_option maxHeartbeats 3200000
namespace L2.R2
open PySem PySem.SetTable PyProof.Rows
section
variable {prog : Program} {w : World} {A : Around} {E : Value → Shared → Prop} {s : Shared}
end
end L2.R2

set_option Elab.async false
set_option linter.all false
set_option maxRecDepth 100000
set_option maxHeartbeats 1000000
namespace L2.R2
open PySem PySem.W PyProof.Rows
/-! ## the sort of the library's trees puts in order -/
def kIn {α : Type} (lt : Nat → Nat → Bool) (n : Nat) : KasT α → Prop
  | .ret _ => True
  | .ask i j k => i < n ∧ j < n ∧ kIn lt n (k (lt i j))
section
variable {O : KeyOrd} {key : Nat → O.α} {N : Nat}
def kk (O : KeyOrd) (key : Nat → O.α) (p : Array Nat) (i : Nat) : O.α := key (p.getD i 0)
end
end L2.R2

set_option Elab.async false
set_option linter.all false
set_option maxRecDepth 100000
set_option maxHeartbeats 3200000
namespace L2.R2
open PySem PySem.W PySem.SetTable PyProof.Rows
/-! ## sorted(set(..)) of tuples of ints -/
section
variable {prog : Program} {w : World} {A : Around} {E : Value → Shared → Prop} {s : Shared}
theorem int_inv {k : Int} {v : Value} (h : (intKind prog w).is k v = true) : ∃ t, v = .int k t := by
  cases v <;> simp [intKind, Value.isInt] at h
  exact ⟨_, by rw [h]⟩
/-- where the keys of a list's items lie -/
def KeysAt (prog : Program) (w : World) (h : Heap) (vs : List Value) (nss : List (List Int)) : Prop := vs.length = nss.length ∧ ∀ i v, vs[i]? = some v → ∃ a, v = .ref a ∧ IsTupleKey (intKind prog w) h (nss.getD i []) a
theorem KeysAt.other {h h' : Heap} {vs : List Value} {nss : List (List Int)} {a : Addr} {xs : Array Value} {n : Nat} (K : KeysAt prog w h vs nss) (ho : h.get? a = some (seqObj "list" xs n)) (up : ∀ b o, b ≠ a → h.get? b = some o → h'.get? b = some o) : KeysAt prog w h' vs nss := by
  refine ⟨K.1, fun i v e => ?_⟩
  obtain ⟨b, rfl, o, its, m, h1, h2, h3, h4⟩ := K.2 i v e
  refine ⟨b, rfl, o, its, m, up b o ?_ h1, h2, h3, h4⟩
  rintro rfl
  rw [ho] at h1; cases h1
  exact absurd h2 (by simp [seqObj])

end
end L2.R2

set_option Elab.async false
set_option linter.all false
set_option maxRecDepth 100000
set_option maxHeartbeats 3200000
namespace L2.R2
open PySem PySem.W PyProof.Rows
/-! ## list(reversed(a list)) -/
section
variable {prog : Program} {w : World} {A : Around} {E : Value → Shared → Prop} {s : Shared}
end
end L2.R2

set_option Elab.async false
set_option linter.all false
set_option maxRecDepth 100000
set_option maxHeartbeats 1000000
namespace L2.R2
open PySem PySem.Spec PyProof.Rows L2
/-! ## sorted(set(..)) and list(reversed(..)) over plain data -/
section
variable {X : Cx} {e : Expr} {te : RE} {p pz pos posz : Pos}
end
end L2.R2

set_option Elab.async false
set_option linter.all false
set_option maxRecDepth 100000
set_option maxHeartbeats 1000000
namespace L2.R2
open PySem PySem.Spec PyProof.Rows L2
/-! ## range in steps of two -/
section
variable {X : Cx} {tg : Expr}
def stepD (lo : Int) (n : Nat) : List D := (List.range n).map fun k : Nat => D.int (lo + (k : Int) * 2)
structure StpOk (j : Int) : Prop where
  lo : -(2 ^ 60) ≤ j
  hi : j < 2 ^ 60
def riStep (t : RA) : RA := fun ρ Q => t ρ fun ds => match ds with
  | [.int i, .int j, .int c] => (StpOk i ∧ StpOk j ∧ c = 2) ∧ Q (stepD i ((j - i + 1) / 2).toNat)
  | _ => False
end
end L2.R2

set_option Elab.async false
set_option linter.all false
set_option maxRecDepth 100000
namespace L2.R2
open PySem PySem.Spec PyProof.Rows L2
/-- shared_divisor ["one", "other", "larger", "smaller", "rest"] -/
def rd_shared_divisor_b1 : RS :=
  rSeq (rSet 4 (r2 dMod (rVarB 2) (rVarB 3)))
  (rSeq (rSet 2 (rVar 3))
  (rSet 3 (rVar 4)))
def rd_shared_divisor : RS :=
  rSeq (rSet 2 (rCB dAbs (raCons (rVar 0) (raNil))))
  (rSeq (rSet 3 (rCB dAbs (raCons (rVar 1) (raNil))))
  (rSeq (rWhile (rTest (r2 (dEqS true) (rVarB 3) (rC (.int 0)))) (rd_shared_divisor_b1))
  (rRet (rVar 2))))

/-- ratio ["top", "bottom", "divisor"] -/
def rd_ratio (F_shared_divisor : FD) : RS :=
  rSeq (rIfS (rTest (r2 (dEqS false) (rVarB 1) (rC (.int 0)))) ((fun _ _ => False)) (rNext))
  (rSeq (rSet 2 (rCall F_shared_divisor (raCons (rVar 0) (raCons (rVar 1) (raNil)))))
  (rSeq (rIfS (rTest (r2 (dCmp fun i j => decide (i < j)) (rVarB 1) (rC (.int 0)))) (rSet 2 (r1 dNeg (rVarB 2))) (rNext))
  (rRet (rTup (raCons (r2 dFdiv (rVarB 0) (rVarB 2)) (raCons (r2 dFdiv (rVarB 1) (rVarB 2)) (raNil)))))))

/-- _law_cell_at ["_law_script", "_law_k"] -/
def rd__law_cell_at : RS :=
  rSeq (rIfS (rTest (r2 (dCmp fun i j => decide (i < j)) (rVarB 1) (r1 dLen (rVarB 0)))) (rRet (r2 dIx (rVarB 0) (rVarB 1))) (rNext))
  (rRet (rC (.int 0)))

/-- _law_whole ["_law_found"] -/
def rd__law_whole : RS :=
  rRet (rAndV (r1 (dIsi "int") (rVar 0)) (rNotV (r1 (dIsi "bool") (rVar 0))))

/-- _law_share ["_law_cell"] -/
def rd__law_share : RS :=
  rRet (r2 dIx ((fun ρ Q => (rLst (raCons (rC (.int 1)) (raCons (r2 dMod (r2 dFdiv (rVarB 0) (rC (.int 4))) (rC (.int 3))) (raCons (r2 dMod (r2 dFdiv (rVarB 0) (rC (.int 4))) (rC (.int 12))) (raCons (r2 dMod (r2 dFdiv (rVarB 0) (rC (.int 4))) (r2 dPow (rC (.int 10)) (rC (.int 10)))) (raNil)))))) ρ fun ds => Q (.lst ds))) (r2 dMod (rVarB 0) (rC (.int 4))))

/-- _law_longer ["_law_pair", "_law_cell", "_law_many"] -/
def rd__law_longer : RS :=
  rSeq (rSet 2 (r2 dAdd (rC (.int 1)) (r2 dMod (r2 dFdiv (rVarB 1) (rC (.int 4))) (r2 dIx ((fun ρ Q => (rLst (raCons (rC (.int 1)) (raCons (rC (.int 3)) (raCons (r2 dPow (rC (.int 10)) (rC (.int 9))) (raCons (r2 dPow (rC (.int 10)) (rC (.int 18))) (raNil)))))) ρ fun ds => Q (.lst ds))) (r2 dMod (rVarB 1) (rC (.int 4)))))))
  (rSeq (rIfS (rTest (r2 (dCmp fun i j => decide (j ≤ i)) (r2 dMul (rVarB 2) (r2 dIx (rVarB 0) (rC (.int 0)))) (r2 dPow (rC (.int 10)) (rC (.int 30))))) (rSet 2 (rC (.int 1))) (rNext))
  (rRet (rTup (raCons (r2 dAdd (r2 dMul (rVarB 2) (r2 dIx (rVarB 0) (rC (.int 0)))) (r2 dIx (rVarB 0) (rC (.int 1)))) (raCons (r2 dIx (rVarB 0) (rC (.int 0))) (raNil))))))

/-- _law_right ["_law_share_here", "_law_pair", "_law_cell", "_law_mixed", "_law_one", "_law_other", "_law_found"] -/
def rd__law_right_9 (F__law_refused : FD) (F__law_whole : FD) (F_ratio : FD) : RS :=
  rSeq (rSet 3 (r2 dAdd (r2 dMod (rVarB 2) (rC (.int 1000003))) (rC (.int 48271))))
  (rSeq (rSet 3 (r2 dMod (r2 dMul (rVarB 3) (rVarB 3)) (rC (.int 65537))))
  (rSeq (rSet 4 (r2 dMul (r2 dIx (rVarB 1) (rC (.int 0))) (r2 dIx ((fun ρ Q => (rLst (raCons (rC (.int 1)) (raCons (r1 dNeg (rC (.int 1))) (raNil)))) ρ fun ds => Q (.lst ds))) (r2 dMod (rVarB 3) (rC (.int 2))))))
  (rSeq (rSet 5 (r2 dMul (r2 dIx (rVarB 1) (rC (.int 1))) (r2 dIx ((fun ρ Q => (rLst (raCons (rC (.int 1)) (raCons (r1 dNeg (rC (.int 1))) (raNil)))) ρ fun ds => Q (.lst ds))) (r2 dMod (r2 dFdiv (rVarB 3) (rC (.int 2))) (rC (.int 2))))))
  (rSeq (rIfS (rTest (r2 (dEqS false) (r2 dMod (r2 dFdiv (rVarB 3) (rC (.int 4))) (rC (.int 2))) (rC (.int 1)))) (rPar 4 5 (raCons (rVar 5) (raCons (rVar 4) (raNil)))) (rNext))
  (rSeq (rIfS (rTest (r2 (dEqS false) (r2 dMul (rVarB 0) (rVarB 5)) (rC (.int 0)))) (rRet (rCall F__law_refused (raCons (r2 dMul (rVarB 0) (rVarB 4)) (raCons (r2 dMul (rVarB 0) (rVarB 5)) (raNil))))) (rNext))
  (rSeq (rSet 6 (rCall F_ratio (raCons (r2 dMul (rVarB 0) (rVarB 4)) (raCons (r2 dMul (rVarB 0) (rVarB 5)) (raNil)))))
  (rSeq (rIfS (rOr (rNot (rTest (r1 (dIsi "tuple") (rVar 6)))) (rOr (rTest (r2 (dEqS true) (r1 dLen (rVarB 6)) (rC (.int 2)))) (rOr (rNot (rTest (rCall F__law_whole (raCons (r2 dIx (rVarB 6) (rC (.int 0))) (raNil))))) (rNot (rTest (rCall F__law_whole (raCons (r2 dIx (rVarB 6) (rC (.int 1))) (raNil)))))))) (rRet (rC (.bl false))) (rNext))
  (rSeq (rIfS (rTest (r2 (dCmp fun i j => decide (i < j)) (rVarB 5) (rC (.int 0)))) (rRet (r2 (dEq) (rVarB 6) (rTup (raCons (r2 dSub (rC (.int 0)) (rVarB 4)) (raCons (r2 dSub (rC (.int 0)) (rVarB 5)) (raNil)))))) (rNext))
  (rRet (r2 (dEq) (rVarB 6) (rTup (raCons (rVar 4) (raCons (rVar 5) (raNil))))))))))))))

/-- law ["_law_script", "_law_share_here", "_law_pair", "_law_cell"] -/
def rd_law_k01_b1 (F__law_longer : FD) (F__law_right : FD) : RS :=
  rSeq (rSet 2 (rCall F__law_longer (raCons (rVar 2) (raCons (rVar 3) (raNil)))))
  (rIfS (rNot (rTest (rCall F__law_right (raCons (rVar 1) (raCons (rVar 2) (raCons (rVar 3) (raNil))))))) (rRet (rC (.bl false))) (rNext))
def rd_law_k01 (F__law_cell_at : FD) (F__law_longer : FD) (F__law_right : FD) (F__law_share : FD) : RS :=
  rSeq (rSet 1 (rCall F__law_share (raCons (rCall F__law_cell_at (raCons (rVar 0) (raCons (rC (.int 0)) (raNil)))) (raNil))))
  (rSeq (rSet 2 (rTup (raCons (rC (.int 1)) (raCons (rC (.int 0)) (raNil)))))
  (rSeq (rIfS (rNot (rTest (rCall F__law_right (raCons (rVar 1) (raCons (rVar 2) (raCons (rCall F__law_cell_at (raCons (rVar 0) (raCons (rC (.int 1)) (raNil)))) (raNil))))))) (rRet (rC (.bl false))) (rNext))
  (rSeq (rFor (riL ((fun ρ Q => (rSlL' (rVarB 0) (rNoPart) (rPart (rC (.int 63)))) ρ fun ds => Q (.lst ds)))) (rgName 3) (rd_law_k01_b1 F__law_longer F__law_right))
  (rRet (rC (.bl true))))))

end L2.R2

set_option Elab.async false
set_option linter.all false
set_option maxRecDepth 100000
namespace L2.R2
open PySem PySem.Spec PyProof.Rows L2
theorem atI_0 {α : Type} (x : α) (xs : List α) : atI (x :: xs) 0 = some x := by
  unfold atI ixN; simp
theorem atI_1 {α : Type} (x y : α) (xs : List α) : atI (x :: y :: xs) 1 = some y := by
  unfold atI ixN
  rw [if_pos (by decide), if_pos (by simp only [List.length_cons]; omega)]; rfl
theorem atI_2 {α : Type} (x y z : α) (xs : List α) : atI (x :: y :: z :: xs) 2 = some z := by
  unfold atI ixN
  rw [if_pos (by decide), if_pos (by simp only [List.length_cons]; omega)]; rfl
theorem atI_of {α : Type} {xs : List α} {i : Int} {j : Nat} {x : α} (h : i = (j : Int)) (e : xs[j]? = some x) : atI xs i = some x := by
  subst h; exact atI_nat e
theorem dEq_rd {x y : D} {Q : D → Prop} : dEq x y Q = (match eqF 6 x y with | some b => Q (.bl b) | none => False) := rfl
theorem BL.const {n : Nat} {i : Int} (h : i.natAbs < 2 ^ n := by decide) : BL n i := h
theorem pow_ok {i j : Int} (h : 0 ≤ j ∧ j ≤ 1000000 ∧ i.natAbs < 2 ^ 64 := by decide) : PowOk i j := ⟨h⟩
theorem mod_ok {j : Int} (h : j ≠ 0 := by decide) : ModOk j := ⟨h⟩
theorem dIx_tup0 {x : D} {xs : List D} {Q : D → Prop} : dIx (.tup (x :: xs)) (.int 0) Q = Q x := by simp only [dIx, atI_0]
theorem dIx_tup1 {x y : D} {xs : List D} {Q : D → Prop} : dIx (.tup (x :: y :: xs)) (.int 1) Q = Q y := by simp only [dIx, atI_1]
theorem dIx_tup2 {x y z : D} {xs : List D} {Q : D → Prop} : dIx (.tup (x :: y :: z :: xs)) (.int 2) Q = Q z := by simp only [dIx, atI_2]
theorem dIx_lst {xs : List D} {i : Int} {Q : D → Prop} {x : D} (e : atI xs i = some x) (h : Q x) : dIx (.lst xs) (.int i) Q := by simp only [dIx, e]; exact h
/-- one of a list's items -/
theorem dIx_any {xs : List D} {i : Int} {Q : D → Prop} (h0 : 0 ≤ i) (h1 : i < xs.length) (h : ∀ x, x ∈ xs → Q x) : dIx (.lst xs) (.int i) Q := by
  have hj : i.toNat < xs.length := by omega
  exact dIx_lst (atI_of (j := i.toNat) (by omega) (List.getElem?_eq_getElem hj)) (h _ (List.getElem_mem hj))
theorem dIx_lk {xs : List D} {k : Nat} {x : D} {Q : D → Prop} (e : xs[k]? = some x) : dIx (.lst xs) (.int (k : Int)) Q = Q x := by simp only [dIx, atI_nat e]
theorem dIx_lst0 {a0 : D} {r : List D} {Q : D → Prop} : dIx (.lst (a0 :: r)) (.int 0) Q = Q a0 := dIx_lk (k := 0) rfl
theorem dIx_lst1 {a0 a1 : D} {r : List D} {Q : D → Prop} : dIx (.lst (a0 :: a1 :: r)) (.int 1) Q = Q a1 := dIx_lk (k := 1) rfl
theorem dIx_lst2 {a0 a1 a2 : D} {r : List D} {Q : D → Prop} : dIx (.lst (a0 :: a1 :: a2 :: r)) (.int 2) Q = Q a2 := dIx_lk (k := 2) rfl
theorem dIx_lst3 {a0 a1 a2 a3 : D} {r : List D} {Q : D → Prop} : dIx (.lst (a0 :: a1 :: a2 :: a3 :: r)) (.int 3) Q = Q a3 := dIx_lk (k := 3) rfl
theorem dIx_lst4 {a0 a1 a2 a3 a4 : D} {r : List D} {Q : D → Prop} : dIx (.lst (a0 :: a1 :: a2 :: a3 :: a4 :: r)) (.int 4) Q = Q a4 := dIx_lk (k := 4) rfl
theorem dIx_lst5 {a0 a1 a2 a3 a4 a5 : D} {r : List D} {Q : D → Prop} : dIx (.lst (a0 :: a1 :: a2 :: a3 :: a4 :: a5 :: r)) (.int 5) Q = Q a5 := dIx_lk (k := 5) rfl
theorem dIx_lst6 {a0 a1 a2 a3 a4 a5 a6 : D} {r : List D} {Q : D → Prop} : dIx (.lst (a0 :: a1 :: a2 :: a3 :: a4 :: a5 :: a6 :: r)) (.int 6) Q = Q a6 := dIx_lk (k := 6) rfl
theorem dIx_lst7 {a0 a1 a2 a3 a4 a5 a6 a7 : D} {r : List D} {Q : D → Prop} : dIx (.lst (a0 :: a1 :: a2 :: a3 :: a4 :: a5 :: a6 :: a7 :: r)) (.int 7) Q = Q a7 := dIx_lk (k := 7) rfl
theorem dIx_lst8 {a0 a1 a2 a3 a4 a5 a6 a7 a8 : D} {r : List D} {Q : D → Prop} : dIx (.lst (a0 :: a1 :: a2 :: a3 :: a4 :: a5 :: a6 :: a7 :: a8 :: r)) (.int 8) Q = Q a8 := dIx_lk (k := 8) rfl
theorem dIx_lst9 {a0 a1 a2 a3 a4 a5 a6 a7 a8 a9 : D} {r : List D} {Q : D → Prop} : dIx (.lst (a0 :: a1 :: a2 :: a3 :: a4 :: a5 :: a6 :: a7 :: a8 :: a9 :: r)) (.int 9) Q = Q a9 := dIx_lk (k := 9) rfl
theorem dIx_lst10 {a0 a1 a2 a3 a4 a5 a6 a7 a8 a9 a10 : D} {r : List D} {Q : D → Prop} : dIx (.lst (a0 :: a1 :: a2 :: a3 :: a4 :: a5 :: a6 :: a7 :: a8 :: a9 :: a10 :: r)) (.int 10) Q = Q a10 := dIx_lk (k := 10) rfl
theorem dIx_lst11 {a0 a1 a2 a3 a4 a5 a6 a7 a8 a9 a10 a11 : D} {r : List D} {Q : D → Prop} : dIx (.lst (a0 :: a1 :: a2 :: a3 :: a4 :: a5 :: a6 :: a7 :: a8 :: a9 :: a10 :: a11 :: r)) (.int 11) Q = Q a11 := dIx_lk (k := 11) rfl
end L2.R2

set_option Elab.async false
set_option linter.all false
set_option maxRecDepth 100000
set_option maxHeartbeats 4000000
namespace L2.R2
open PySem PySem.Spec PyProof.Rows L2
def startN (n : Nat) (ds : List D) : En := ds.map (fun d => some (.d d)) ++ List.replicate n none
theorem startD_eq {N : List Str} {ds : List D} (n : Nat) (h : N.length = ds.length + n) : startD N ds = startN n ds := by
  unfold startD startN; rw [h, Nat.add_sub_cancel_left]
theorem isi_ii {i : Int} : isiD "int" (.int i) = some true := rfl
theorem isi_bi {i : Int} : isiD "bool" (.int i) = some false := rfl
theorem isi_ib {i : Bool} : isiD "int" (.bl i) = some true := rfl
theorem isi_bb {i : Bool} : isiD "bool" (.bl i) = some true := rfl
theorem isi_tt {xs : List D} : isiD "tuple" (.tup xs) = some true := rfl
theorem rep0 {α : Type} {x : α} : List.replicate 0 x = [] := rfl
theorem rep1 {α : Type} {x : α} : List.replicate 1 x = [x] := rfl
theorem rep2 {α : Type} {x : α} : List.replicate 2 x = [x, x] := rfl
theorem rep3 {α : Type} {x : α} : List.replicate 3 x = [x, x, x] := rfl
theorem rep4 {α : Type} {x : α} : List.replicate 4 x = [x, x, x, x] := rfl
theorem rep5 {α : Type} {x : α} : List.replicate 5 x = [x, x, x, x, x] := rfl
theorem rep6 {α : Type} {x : α} : List.replicate 6 x = [x, x, x, x, x, x] := rfl
theorem rep7 {α : Type} {x : α} : List.replicate 7 x = [x, x, x, x, x, x, x] := rfl
theorem rep8 {α : Type} {x : α} : List.replicate 8 x = [x, x, x, x, x, x, x, x] := rfl
theorem rep9 {α : Type} {x : α} : List.replicate 9 x = [x, x, x, x, x, x, x, x, x] := rfl
theorem rep10 {α : Type} {x : α} : List.replicate 10 x = [x, x, x, x, x, x, x, x, x, x] := rfl
theorem rep11 {α : Type} {x : α} : List.replicate 11 x = [x, x, x, x, x, x, x, x, x, x, x] := rfl
theorem rep12 {α : Type} {x : α} : List.replicate 12 x = [x, x, x, x, x, x, x, x, x, x, x, x] := rfl
theorem sz2 : Sz (0 + 1 + 1) := ⟨by decide⟩
theorem sz3 : Sz (0 + 1 + 1 + 1) := ⟨by decide⟩
theorem sz4 : Sz (0 + 1 + 1 + 1 + 1) := ⟨by decide⟩
theorem sz1 : Sz (0 + 1) := ⟨by decide⟩
theorem sz0 : Sz 0 := ⟨by decide⟩
local macro_rules | `(tactic| walk_at "rd") => `(tactic| simp only [rSeq, rNext, rRet, rDrop, rIfS, rSet, rSetO, rPar, rAsg, rgName, rgTup, rgCons, rgNil, rVar, rVarB, rC, r2, r1, rTest, rAnd, rOr, rNot, rAndV, rOrV, rNotV, rIf, raNil, raCons, rTup, rLst, rCall, rCB, rNoPart, rPart, rSlL', rFor, riEn, riL, riT, riR1, riR2,
  dAdd, dSub, dMul, dFdiv, dMod, dPow, dNeg, dCmp, dEqS, dIsN, isNon, dIx_tup0, dIx_tup1, dIx_tup2, dAbs, dInt, dMax2, dMin2, dLen, dIsi, isi_ii, isi_bi, isi_ib, isi_bb, isi_tt, S.val, startN, rep0, rep1, rep2, rep3, rep4, rep5, rep6, rep7, rep8,
  List.map_cons, List.map_nil, List.cons_append, List.nil_append, List.length_cons, List.length_nil, List.getElem?_cons_zero, List.getElem?_cons_succ, List.set_cons_zero, List.set_cons_succ, List.append_nil,
  Bool.or_false, Bool.or_true, Bool.false_or, Bool.true_or, Bool.not_true, Bool.not_false, if_true, if_false, Bool.false_eq_true, sz0, sz1, sz2, sz3, sz4, true_and, decide_eq_true_eq])

/-! ## gcd -/
theorem abs_cast (i : Int) : (if i < 0 then -i else i) = ((i.natAbs : Nat) : Int) := by split <;> omega
theorem fmod_cast (x y : Nat) : ((x : Nat) : Int).fmod (y : Nat) = ((x % y : Nat) : Int) := by
  rw [Int.fmod_eq_emod_of_nonneg _ (Int.natCast_nonneg y)]; exact (Int.natCast_emod x y).symm
def F_gcd : FD := fun ds Q => ∃ a b : Int, ds = [.int a, .int b] ∧ Q (.int (Int.gcd a b : Nat))
theorem len_gcd : ∀ ds Q, F_gcd ds Q → ds.length = 2 := by rintro ds Q ⟨a, b, rfl, _⟩; rfl
theorem loop_shared_divisor (E : DEnds) (u v : Option S) : ∀ (y x : Nat) (r : Option S), (∀ r, E.nx [u, v, some (.d (.int (Nat.gcd x y : Nat))), some (.d (.int (0 : Nat))), r]) →
    rWhile (rTest (r2 (dEqS true) (rVarB 3) (rC (.int 0)))) rd_shared_divisor_b1 E [u, v, some (.d (.int (x : Nat))), some (.d (.int (y : Nat))), r] := by
  intro y
  induction y using Nat.strongRecOn with
  | ind y ih =>
    intro x r h
    cases Nat.eq_zero_or_pos y with
    | inl hy =>
      subst hy
      refine ⟨1, ?_⟩
      unfold whileD
      walk_at "rd"
      rw [if_neg (by simp)]
      rw [Nat.gcd_zero_right] at h
      exact h r
    | inr hy =>
      obtain ⟨n, hn⟩ := ih (x % y) (Nat.mod_lt x hy) y (some (.d (.int ((x % y : Nat))))) (by
        rw [Nat.gcd_comm y, ← Nat.gcd_rec, Nat.gcd_comm]; exact h)
      refine ⟨n + 1, ?_⟩
      unfold whileD rd_shared_divisor_b1
      walk_at "rd"
      rw [if_pos (by simp; omega)]
      refine ⟨⟨by omega⟩, ?_⟩
      rw [fmod_cast]
      exact hn
theorem pure_shared_divisor : ∀ ds Q, F_gcd ds Q → rd_shared_divisor { nx := fun _ => Q .non, rt := Q } (startD ["one", "other", "larger", "smaller", "rest"] ds) := by
  rintro ds Q ⟨a, b, rfl, q⟩
  rw [startD_eq 3 rfl]
  unfold rd_shared_divisor
  walk_at "rd"
  rw [abs_cast, abs_cast]
  refine loop_shared_divisor _ _ _ _ _ _ fun r => ?_
  walk_at "rd"
  exact q
end L2.R2

set_option Elab.async false
set_option linter.all false
set_option maxRecDepth 100000
set_option maxHeartbeats 4000000
namespace L2.R2
open PySem PySem.Spec PyProof.Rows L2
local macro_rules | `(tactic| walk_at "rd") => `(tactic| simp only [rSeq, rNext, rRet, rDrop, rIfS, rSet, rSetO, rPar, rAsg, rgName, rgTup, rgCons, rgNil, rVar, rVarB, rC, r2, r1, rTest, rAnd, rOr, rNot, rAndV, rOrV, rNotV, rIf, raNil, raCons, rTup, rLst, rCall, rCB, rNoPart, rPart, rSlL', rFor, riEn, riL, riT, riR1, riR2, rComp, compD, capE, capO, fzAt, rAppD, rPopD, rSetIx, rZip, seqD, rSlA, dAddA, dListOf, dTupOf, dSum, dNe, rIndex, riRev, riZip,
  dAdd, dSub, dMul, dFdiv, dMod, dPow, dNeg, dCmp, dEqS, dIsN, dEq_rd, isNon, dIx_tup0, dIx_tup1, dIx_tup2, dIx_lst0, dIx_lst1, dIx_lst2, dIx_lst3, dIx_lst4, dIx_lst5, dIx_lst6, dIx_lst7, dIx_lst8, dIx_lst9, dIx_lst10, dIx_lst11, dAbs, dInt, dMax2, dMin2, dLen, dIsi, isi_ii, isi_bi, isi_ib, isi_bb, isi_tt, S.val, startN, rep0, rep1, rep2, rep3, rep4, rep5, rep6, rep7, rep8, rep9, rep10, rep11, rep12,
  List.map_cons, List.map_nil, List.cons_append, List.nil_append, List.length_cons, List.length_nil, List.getElem?_cons_zero, List.getElem?_cons_succ, List.set_cons_zero, List.set_cons_succ, List.append_nil,
  Bool.or_false, Bool.or_true, Bool.false_or, Bool.true_or, Bool.not_true, Bool.not_false, if_true, if_false, Bool.false_eq_true, sz0, sz1, sz2, sz3, sz4, true_and, decide_eq_true_eq, Int.reduceToNat, Int.reducePow, Int.reduceMul, Int.reduceSub, Int.reduceAdd, Int.reduceNeg])
local macro_rules | `(tactic| walk_at "side") => `(tactic| first | exact pow_ok | exact mod_ok | exact (BL.const (n := 9000) (by decide)).divOk (by decide) | exact (BL.const (n := 300) (by decide)).mulOk (BL.const (n := 300) (by decide)))
local macro_rules | `(tactic| walk_at "sides") => `(tactic| repeat (refine And.intro (by walk_at "side") ?_))
/-! ## fractions -/
abbrev fr (a b : Int) : D := .tup [.int a, .int b]
theorem gcd_pos {a b : Int} (h : b ≠ 0) : 0 < (Int.gcd a b : Int) := by
  have : 0 < Int.gcd a b := Int.gcd_pos_of_ne_zero_right a h
  omega
theorem BL.gcd {n : Nat} {a b : Int} (hb : b ≠ 0) (h : BL n b) : BL n (Int.gcd a b : Int) := by
  refine h.le ?_
  rw [Int.natAbs_natCast]
  exact Nat.le_of_dvd (by omega) (Int.gcd_dvd_natAbs_right a b)
/-- the reduced fraction of a over b: what is left by the divisor g -/
structure Low (a b p q : Int) : Prop where
  pos : 0 < q
  cop : Int.gcd p q = 1
  worth : p * b = a * q
  lea : p.natAbs ≤ a.natAbs
  leb : q.natAbs ≤ b.natAbs
theorem low_pos {a b : Int} (hb : 0 < b) : Low a b (a.fdiv (Int.gcd a b : Nat)) (b.fdiv (Int.gcd a b : Nat)) := by
  have hg : 0 < (Int.gcd a b : Int) := gcd_pos (by omega)
  have ea : ((Int.gcd a b : Nat) : Int) ∣ a := Int.gcd_dvd_left ..
  have eb : ((Int.gcd a b : Nat) : Int) ∣ b := Int.gcd_dvd_right ..
  rw [Int.fdiv_eq_ediv_of_nonneg _ (by omega), Int.fdiv_eq_ediv_of_nonneg _ (by omega)]
  have e1 : a / (Int.gcd a b : Int) * (Int.gcd a b : Int) = a := Int.ediv_mul_cancel ea
  have e2 : b / (Int.gcd a b : Int) * (Int.gcd a b : Int) = b := Int.ediv_mul_cancel eb
  have hc : Int.gcd (a / (Int.gcd a b : Int)) (b / (Int.gcd a b : Int)) = 1 := Int.gcd_ediv_gcd_ediv_gcd (by omega)
  generalize (Int.gcd a b : Int) = g at *
  generalize a / g = p at *
  generalize b / g = q at *
  subst e1 e2
  refine ⟨?_, hc, by rw [Int.mul_assoc, Int.mul_comm q g], ?_, ?_⟩
  · exact Int.pos_of_mul_pos_left hb (by omega)
  · rw [Int.natAbs_mul]; exact Nat.le_mul_of_pos_right _ (by omega)
  · rw [Int.natAbs_mul]; exact Nat.le_mul_of_pos_right _ (by omega)
theorem low_neg {a b : Int} (hb : b < 0) : Low a b (a.fdiv (-(Int.gcd a b : Nat))) (b.fdiv (-(Int.gcd a b : Nat))) := by
  have h := low_pos (a := -a) (b := -b) (by omega)
  have e : Int.gcd (-a) (-b) = Int.gcd a b := by rw [Int.neg_gcd, Int.gcd_neg]
  rw [e] at h
  have f : ∀ x g : Int, (-x).fdiv g = x.fdiv (-g) := fun x g => by
    have := Int.neg_fdiv_neg (-x) g
    rw [Int.neg_neg] at this
    exact this.symm
  rw [f, f] at h
  refine ⟨h.pos, h.cop, ?_, by have := h.lea; omega, by have := h.leb; omega⟩
  have w := h.worth
  rw [Int.mul_neg, Int.neg_mul] at w
  exact Int.neg_inj.mp w
/-! ratio -/
def F_ratio : FD := fun ds Q => ∃ a b : Int, ds = [.int a, .int b] ∧ (b ≠ 0 ∧ BL 9000 b) ∧ ∀ p q, Low a b p q → Q (fr p q)
theorem len_ratio : ∀ ds Q, F_ratio ds Q → ds.length = 2 := by rintro ds Q ⟨a, b, rfl, _⟩; rfl
theorem pure_ratio : ∀ ds Q, F_ratio ds Q → rd_ratio F_gcd { nx := fun _ => Q .non, rt := Q } (startD ["top", "bottom", "divisor"] ds) := by
  rintro ds Q ⟨a, b, rfl, ⟨h0, hb⟩, q⟩
  rw [startD_eq 1 rfl]
  unfold rd_ratio
  walk_at "rd"
  rw [if_neg h0]
  refine ⟨a, b, rfl, ?_⟩
  have hg := gcd_pos (a := a) h0
  have bg := BL.gcd (a := a) h0 hb
  walk_at "rd"
  split
  · rename_i hlt
    refine ⟨bg.neg.divOk (by omega), bg.neg.divOk (by omega), q _ _ (low_neg hlt)⟩
  · rename_i hlt
    refine ⟨bg.divOk (by omega), bg.divOk (by omega), q _ _ (low_pos (by omega))⟩
/-! plus, minus, times -/
/-- a plain fraction of at most n bits, on both sides -/
structure Fr (n : Nat) (a b : Int) : Prop where
  pos : 0 < b
  top : BL n a
  bot : BL n b
  cop : Int.gcd a b = 1
/-! ## the laws' own helpers -/
def F_whole : FD := fun ds Q => ∃ a : Int, ds = [.int a] ∧ Q (.bl true)
theorem len_whole : ∀ ds Q, F_whole ds Q → ds.length = 1 := by rintro ds Q ⟨a, rfl, _⟩; rfl
theorem pure_law_whole : ∀ ds Q, F_whole ds Q → rd__law_whole { nx := fun _ => Q .non, rt := Q } (startD ["_law_found"] ds) := by
  rintro ds Q ⟨a, rfl, q⟩
  rw [startD_eq 0 rfl]
  unfold rd__law_whole
  walk_at "rd"
  exact q
def F_cell : FD := fun ds Q => ∃ (ns : List Int) (k : Int), ds = [.lst (ns.map .int), .int k] ∧ 0 ≤ k ∧ ∀ c, Q (.int c)
theorem len_cell : ∀ ds Q, F_cell ds Q → ds.length = 2 := by rintro ds Q ⟨a, b, rfl, _⟩; rfl
theorem pure_law_cell_at : ∀ ds Q, F_cell ds Q → rd__law_cell_at { nx := fun _ => Q .non, rt := Q } (startD ["_law_script", "_law_k"] ds) := by
  rintro ds Q ⟨ns, k, rfl, hk, q⟩
  rw [startD_eq 0 rfl]
  unfold rd__law_cell_at
  walk_at "rd"
  split
  · rename_i hlt
    refine dIx_any hk hlt ?_
    intro x hx
    obtain ⟨c, _, rfl⟩ := List.mem_map.mp hx
    exact q c
  · exact q 0
theorem fmod_range {a b : Int} (h : 0 < b) : 0 ≤ a.fmod b ∧ a.fmod b < b := ⟨Int.fmod_nonneg_of_pos a h, Int.fmod_lt_of_pos a h⟩
theorem len_law : ∀ ds Q, FLaw 63 ds Q → ds.length = 1 := by rintro ds Q ⟨a, rfl, _⟩; rfl
end L2.R2

set_option Elab.async false
set_option linter.all false
set_option maxRecDepth 100000
namespace L2.R2
open PySem PySem.Spec PyProof.Rows L2

/-! ## own exceptions: raised, passed on, caught -/
/-- what the part tells of an own exception's class -/
structure ExcK (K : PySem.W.Frag) (C : Addr) : Prop where
  ga : PySem.W.findIn K (.ref C) "__getattribute__" = some (some (.builtin "BaseException.__getattribute__"))
  hk : PySem.W.findIn K (.ref C) "__getattr__" = some none
  ca : PySem.W.findIn K (.ref C) "__class__" = some (some (.builtin "object.__class__"))
  mo : PySem.W.mroIn K C (.type "object") = some true
  mb : PySem.W.mroIn K C (.type "BaseException") = some true
  ex : PySem.W.excIn K C [.type "ValueError", .type "Exception", .type "BaseException", .type "object"] "ValueError.__new__" = true

theorem ExcK.cl {K : PySem.W.Frag} {C : Addr} (Z : ExcK K C) : (PySem.W.clsIn K C).isSome = true := by
  have z := Z.ex
  unfold PySem.W.excIn at z
  split at z
  · rename_i lk
    unfold PySem.W.clsIn
    rw [lk]; rfl
  · cases z
theorem oc_get (K : PySem.W.Frag) : PySem.W.specialIn K (.builtin "object.__class__") "__get__" = some (some (.builtin "getset_descriptor.__get__")) := by rfl
theorem oc_tak (K : PySem.W.Frag) : PySem.W.takesIn K (.builtin "object.__class__") = some true := by rfl
open PySem.W in
theorem oc_find {K : PySem.W.Frag} {M : Model} {h : Heap} {x C : Addr} (X : K.In h) (Z : ExcK K C) :
    Looks M h (Builtin.ObjectAttr.find (.ref x) (.ref C) "__class__") (.bind (.builtin "getset_descriptor.__get__") (.builtin "object.__class__")) := by
  have L1 := looks_findIn (M := M) X Z.ca
  have L2 : Looks M h (Builtin.ObjectAttr.getOf (some (.builtin "object.__class__"))) (some (.builtin "getset_descriptor.__get__")) := looks_specialIn X (oc_get K)
  have L3 := looks_takesIn (M := M) X (oc_tak K)
  refine L1.andThen (L2.andThen ?_)
  refine Looks.andThen (a := some (Value.builtin "getset_descriptor.__get__", Value.builtin "object.__class__")) ?_ (Looks.tag .now)
  refine L3.andThen ?_
  exact .now

section
variable {K : PySem.W.Frag} {prog : Program} {w : World} {A : Around} {E : Value → Shared → Prop} {s : Shared} {x C : Addr} {o : Obj}
open PySem.W Builtin Builtin.ObjectAttr Builtin.Getset_descriptor
theorem oc_call {R : Result → Shared → Prop} {tp : Value} (Z : ExcK K C) (X : K.In s.heap) (hx : s.heap.get? x = some o) (hc : o.cls = .ref C) (h : R (.ok (.ret (.ref C))) s) :
    codeAny (model prog w) A (.call (.builtin "getset_descriptor.__get__") ⟨[.builtin "object.__class__", .ref x, tp], []⟩) R s := by
  obtain ⟨hh, g, dr, t, os⟩ := s
  have a0 : Looks (model prog w) hh (typeOf (.ref x)) (.ref C) := hc ▸ (Looks.ld hx).andThen .now
  have a1 := looks_mroIn (M := model prog w) X Z.mo
  refine codeAny_call_builtin KF.slot_gs.plain KF.entry_gs ?_
  refine KF.slot_gs.check _ _ _ _ _ _ _ _ KF.type_class (KF.args_gs _ _ _) ?_
  unfold Builtin.«getset_descriptor.__get__» descrGet
  rw [dga_obj]
  refine wpAny_bind (wpAny_pure ?_)
  unfold descrGetter descrCheckInstance descrNameAndClass isInstance
  simp only [KF.owner_class]
  repeat lk
  refine ⟨Code.quiet_builtin _ (by decide +kernel), codeAny_builtin KF.entry_class ?_⟩
  unfold Builtin.«object.__class__» shownTypeOf
  repeat lk
  exact h
theorem oc_check {nameV : Value} {Q : Unit → Shared → Prop} (Z : ExcK K C) (X : K.In s.heap) (hx : s.heap.get? x = some o) (hc : o.cls = .ref C) (h : Q () s) :
    wpAny (model prog w) A (checkBuiltinCall "BaseException.__getattribute__" ⟨[.ref x, nameV], []⟩) Q E s := by
  obtain ⟨hh, g, dr, t, os⟩ := s
  have b0 : Looks (model prog w) hh (typeOf (.ref x)) (.ref C) := hc ▸ (Looks.ld hx).andThen .now
  have b1 := looks_mroIn (M := model prog w) X Z.mb
  have kd : builtinKind "BaseException.__getattribute__" = some .slot := by decide +kernel
  have sp : splitId "BaseException.__getattribute__" = some ("BaseException", "__getattribute__") := by decide +kernel
  have ha := F.args_bexc_ga (.ref x) nameV
  simp only [checkBuiltinCall, kd, sp]
  refine wpAny_bind ?_
  unfold isInstance
  repeat (first | lk | wp_step)
  exact h
theorem oc_entry {tk : Tok} {Q : Fin → Shared → Prop} (Z : ExcK K C) (X : K.In s.heap) (hx : s.heap.get? x = some o) (hc : o.cls = .ref C) (h : Q (.done (.ret (.ref C))) s) :
    wpAny (model prog w) A (Builtin.«object.__getattribute__» ⟨[.ref x, .str "__class__" tk], []⟩) Q E s := by
  obtain ⟨hh, g, dr, t, os⟩ := s
  have b0 : Looks (model prog w) hh (typeOf (.ref x)) (.ref C) := hc ▸ (Looks.ld hx).andThen .now
  have b1 := oc_find (M := model prog w) (x := x) X Z
  repeat (any_goals (first | assumption | with_reducible refine Looks.at (by assumption) ?_ | wp_step))
  refine oc_call Z X hx hc ?_
  repeat (any_goals (first | assumption | wp_step))
theorem exc_class {Q : Option Value → Shared → Prop} (Z : ExcK K C) (X : K.In s.heap) (hx : s.heap.get? x = some o) (hc : o.cls = .ref C) (h : Q (some (.ref C)) { s with toks := s.toks + 1 }) :
    wpAny (model prog w) A (getAttr? (.ref x) "__class__") Q E s := by
  obtain ⟨hh, g, dr, t, os⟩ := s
  have b0 : Looks (model prog w) hh (typeOf (.ref x)) (.ref C) := hc ▸ (Looks.ld hx).andThen .now
  have b1 := looks_findIn (M := model prog w) X Z.ga
  have b2 := looks_findIn (M := model prog w) X Z.hk
  have f3 := F.attr_ValueError.ga.bind (.ref x)
  have ne : (Value.builtin "BaseException.__getattribute__" == Value.builtin "object.__getattribute__") = false := by decide +kernel
  unfold getAttr? getAttrBy? getAttrBy
  refine wpAny_bind (wpAny_mkText (wpAny_bind (wpAny_attempt (wpAny_holding (wpAny_bind (b0.at (wpAny_bind (b1.at ?_))))))))
  show wpAny _ _ (getAttrByItsOwn _ _ _ _ _ _) _ _ _
  refine wpAny_bind (b2.at ?_)
  have hx0 : (false && onTheHeap (Value.builtin "BaseException.__getattribute__")) = false := rfl
  repeat (any_goals (first | assumption | with_reducible refine Looks.at (by assumption) ?_ | wp_step))
  refine codeAny_call_builtin F.attr_ValueError.ga.plain F.entry_bexc_ga (oc_check Z X hx hc (oc_entry Z X hx hc ?_))
  repeat (any_goals (first | assumption | wp_step))
end

/-! ### the heap without frames -/
def frH (fs : List Addr) : Hp := fun b => if b ∈ fs then some (.tup []) else none
def noFr (h : Heap) (fs : List Addr) : Heap := hidT h (frH fs)
theorem noFr_get {h : Heap} {fs : List Addr} {b : Addr} {o : Obj} (e : h.get? b = some o) (n : b ∉ fs) : (noFr h fs).get? b = some o := hidT_get e (if_neg n)
theorem of_noFr {h : Heap} {fs : List Addr} {b : Addr} {o : Obj} (e : (noFr h fs).get? b = some o) : h.get? b = some o ∧ b ∉ fs := by
  obtain ⟨h1, h2⟩ := of_hidT e
  refine ⟨h1, fun z => ?_⟩
  have h3 : frH fs b = some (.tup []) := if_pos z
  rw [h3] at h2; cases h2
theorem noFr_none {h : Heap} {fs : List Addr} {b : Addr} (z : h.get? b = none ∨ b ∈ fs) : (noFr h fs).get? b = none := by
  cases e : (noFr h fs).get? b with
  | none => rfl
  | some o =>
    obtain ⟨h1, h2⟩ := of_noFr e
    rcases z with z | z
    · rw [z] at h1; cases h1
    · exact (h2 z).elim
theorem reframe {h base g : Heap} {fs : List Addr} : ∀ {l : List Env}, h.FunFrames base l → (∀ b ∈ frs l, b ∈ fs) → h.FunFrames (noFr g fs) l
  | [], _, _ => trivial
  | env :: r, ⟨hk, ⟨L, o, hf, hn, ho, hd⟩, hr⟩, hs => by
    have hL : L ∈ frs (env :: r) := by unfold frs; rw [List.filterMap_cons, hf]; exact List.mem_cons_self
    exact ⟨hk, ⟨L, o, hf, noFr_none (.inr (hs L hL)), ho, hd⟩, reframe hr fun b hb => hs b (by unfold frs; rw [List.filterMap_cons, hf]; exact List.mem_cons_of_mem _ hb)⟩

section
variable {P : Program} {w : World} {H H' : Hp} {h h' : Heap} {a : Addr} {u : HO}
theorem obj_there (x : ObjOk P w H h a u) : ∃ o, h.get? a = some o := by
  cases u with
  | lst xs => obtain ⟨_, _, _, _, e⟩ := x; exact ⟨_, e⟩
  | tup xs => obtain ⟨_, _, _, _, e, _⟩ := x; exact ⟨_, e⟩
  | dK kvs => obtain ⟨_, _, _, _, o, _, _, e, _⟩ := x; exact ⟨_, e⟩
  | dT kvs => obtain ⟨_, _, _, _, o, _, _, e, _⟩ := x; exact ⟨_, e⟩
  | set S n => obtain ⟨o, _, _, _, e, _⟩ := x; exact ⟨_, e⟩
  | ins C dx fs => obtain ⟨_, _, _, e, _⟩ := x; exact ⟨_, e⟩
  | own y => exact x
  | xd fs => obtain ⟨_, ⟨_, _, _, e, _⟩, _⟩ := x; exact ⟨_, e⟩
  | rng lo hi => obtain ⟨_, _, _, e⟩ := x; exact ⟨_, e⟩
  | frz ob u => obtain ⟨e, _⟩ := x; exact ⟨_, e⟩
  | tbl ps => exact ⟨_, show h.get? a = some _ from x⟩
  | met f y => exact ⟨_, show h.get? a = some _ from x⟩
  | ext φ => obtain ⟨_, e, _⟩ := x; exact e
end

/-! ### an exception on its way -/
structure FlyAt (P : Program) (w : World) (C : Addr) (outer : List Env) (H : Hp) (s : Shared) (a : Addr) (B : Heap) (a0 : Value) (H' : Hp) (s' : Shared) : Prop where
  os : s'.os = s.os
  bare : AllBare s'.gens
  same : Same H H'
  free : ∀ b o, s.heap.get? b = some o → H b = none → H' b = none
  bT : ∀ b u, H' b = some u → ∀ o, s'.heap.get? b = some o → B.get? b = some o
  bU : ∀ b o, s.heap.get? b = some o → H b = none → b ∉ frs outer → B.get? b = some o
  thr : ∀ b o, s.heap.get? b = some o → ∃ o', s'.heap.get? b = some o'
  fr : ∀ b ∈ frs outer, ∀ o, s.heap.get? b = some o → ∃ sl, s'.heap.get? b = some { o with slots := sl }
  frn : ∀ b ∈ frs outer, H b = none ∧ ∀ o, s.heap.get? b = some o → ∀ vs, o.data ≠ .fields vs
  hok : HOk P w H' s'.heap
  fly : Heap.FlyingW B outer a (.ref C) a0 s'.heap
def CXE (P : Program) (w : World) (C : Addr) : CXT := fun outer H s _ e s' => ∃ a B a0 H', e = .ref a ∧ FlyAt P w C outer H s a B a0 H' s'

section
variable {P : Program} {w : World} {C : Addr} {outer : List Env} {H H' : Hp} {s s' : Shared} {a : Addr} {B : Heap} {a0 : Value} {h6 : Heap}
theorem hok_of (ok : HOk P w H' s'.heap) (bT : ∀ b u, H' b = some u → ∀ o, s'.heap.get? b = some o → B.get? b = some o) (k : B.StaysIn h6) : HOk P w H' h6 := fun b u e =>
  (ok b u e).stay (fun c v hc q => by
    rcases hc with rfl | hc
    · exact k _ _ (bT _ _ e v q)
    · exact k _ _ (bT _ _ hc v q)) (fun _ q => q) fun _ _ q => q
theorem FlyAt.step (F : FlyAt P w C outer H s a B a0 H' s') (k : B.StaysIn h6) (up : s'.heap.UpToSlots h6) : Un (frs outer) [] H H' s.heap h6 ∧ HOk P w H' h6 := by
  have sl : ∀ b o, s.heap.get? b = some o → b ∈ frs outer → ∃ sl, h6.get? b = some { o with slots := sl } := fun b o e hb => by
    obtain ⟨l1, q⟩ := F.fr b hb o e
    exact up b { o with slots := l1 } q fun vs z => (F.frn b hb).2 o e vs z
  refine ⟨⟨fun b o e n hb _ => k _ _ (F.bU b o e n hb), fun b o e n hb _ => sl b o e hb, fun b o e n _ => F.free b o e n, fun b o e _ => ?_, fun b xs e => F.same b _ e, fun b o u e => F.same b _ e, fun b ps e => ⟨#[], by rw [F.same b _ e]; simp⟩⟩, hok_of F.hok F.bT k⟩
  cases q : H b with
  | some u =>
    obtain ⟨o', e'⟩ := F.thr b o e
    exact ⟨o', k _ _ (F.bT b u (F.same b u q) o' e')⟩
  | none =>
    by_cases hb : b ∈ frs outer
    · obtain ⟨l, z⟩ := sl b o e hb; exact ⟨_, z⟩
    · exact ⟨o, k _ _ (F.bU b o e q hb)⟩
theorem FlyAt.at (F : FlyAt P w C outer H s a B a0 H' s') : ∃ oe vs, s'.heap.get? a = some oe ∧ oe.cls = .ref C ∧ oe.data = .fields vs := by
  obtain ⟨_, _, _, oe, vs, _, _, _, h1, h2, h3, _⟩ := F.fly
  exact ⟨oe, vs, h1, h2.1, h3⟩
theorem FlyAt.new (F : FlyAt P w C outer H s a B a0 H' s') : H' a = none := by
  cases q : H' a with
  | none => rfl
  | some u =>
    obtain ⟨oe, vs, h1, _⟩ := F.at
    have := F.bT a u q oe h1
    rw [F.fly.2.1] at this; cases this
theorem FlyAt.nofr (F : FlyAt P w C outer H s a B a0 H' s') : a ∉ frs outer := fun z => by
  obtain ⟨_, o, h1, h2⟩ := F.fly.2.2.1.mem z
  obtain ⟨oe, vs, h3, _, h4⟩ := F.at
  rw [h1] at h3; cases h3
  exact h2 vs h4
end
end L2.R2

set_option Elab.async false
set_option linter.all false
set_option maxRecDepth 100000
namespace L2.R2
open PySem PySem.Spec PyProof.Rows L2

/-- a def's own frame on the top of the stack -/
structure Top1 (X : Cx) : Prop where
  stk : X.stack = X.env :: X.outer
  fr : X.env.frame = some X.env.locals
  ex : X.ex = []
section
variable {X : Cx} {pins : List (Addr × Obj)} {σ : St} {H H1 : Hp} {s s1 : Shared} {C e : Addr} {E : XK} {EE : Value → Shared → Prop}

theorem Top1.sub (T : Top1 X) {b : Addr} : b ∈ frs X.stack ↔ b = X.env.locals ∨ b ∈ frs X.outer := by
  rw [T.stk]
  unfold frs
  rw [List.filterMap_cons, T.fr]
  exact List.mem_cons

theorem leave_here (T : Top1 X) (I : Inv X pins σ H s) (sm : Same X.H₀ H) {h' : Heap} {args : List Value} (hx : Heap.MadeExcOf s.heap h' e (.ref C) args) :
    wpAny (model X.prog X.w) X.A (leaving X.env (.ref e)) (fun _ s'' => CXE X.prog X.w C X.outer X.H₀ X.s₀ E (.ref e) s'') EE { s with heap := h' } := by
  obtain ⟨t, he, _, _⟩ := hx.there
  have hfr : X.A.frames = some (X.env :: X.outer) := by rw [← T.stk]; exact I.ok.frames
  have hl : s.heap.FunFrames (noFr s.heap (frs X.stack)) (X.env :: X.outer) := by rw [← T.stk]; exact reframe I.stack fun _ z => z
  have kb : ∀ b o, (noFr s.heap (frs X.stack)).get? b = some o → h'.get? b = some o := fun b o q => hx.keeps b o (of_noFr q).1
  have ne : ∀ b o, X.s₀.heap.get? b = some o → b ≠ X.env.locals := fun b o q => Nat.ne_of_lt (Nat.lt_of_lt_of_le (Heap.lt_size q) I.ok.above)
  have nx : ∀ b, b ∉ X.ex := fun b z => by rw [T.ex] at z; cases z
  refine wpAny_leaving_firstW (base := noFr s.heap (frs X.stack)) (a0 := .ref t) hfr (hl.of_keeps fun b o q _ => ⟨o, hx.keeps b o q, rfl⟩) T.fr he kb (noFr_none (.inl hx.new)) rfl rfl rfl fun h2 hL => ?_
  obtain ⟨k1, ⟨_, _, k2⟩, k3, k4⟩ := hL
  have nf : ∀ b ∈ frs X.outer, ∀ o, X.s₀.heap.get? b = some o → ∀ vs, o.data ≠ .fields vs := fun b hb o q vs z => by
    obtain ⟨_, o', q', d⟩ := I.ok.funs.mem hb
    rw [q] at q'; cases q'
    exact d vs z
  have sl : ∀ b ∈ frs X.outer, ∀ o, X.s₀.heap.get? b = some o → ∃ sl, h2.get? b = some { o with slots := sl } := fun b hb o q => by
    obtain ⟨l1, q1⟩ := I.base.slot b o q (I.ok.frf b hb) hb (nx b)
    exact k4 b { o with slots := l1 } (hx.keeps b { o with slots := l1 } q1) fun vs z => nf b hb o q vs z
  have tr : ∀ b u, H b = some u → ∀ o, s.heap.get? b = some o → (noFr s.heap (frs X.stack)).get? b = some o := fun b u q o z => noFr_get z fun hb => by
    rw [I.stkFree b hb] at q; cases q
  refine ⟨e, noFr s.heap (frs X.stack), .ref t, H, rfl, I.os, I.bare, sm, fun b o q n => I.base.free b o q n (nx b), fun b u q o z => ?_, fun b o q n hb => ?_, fun b o q => ?_, sl, fun b hb => ⟨I.ok.frf b hb, nf b hb⟩, ?_, k1, noFr_none (.inl hx.new), k2, k3⟩
  · obtain ⟨o1, z1⟩ := obj_there (I.hok b u q)
    have z2 := tr b u q o1 z1
    have z3 : h2.get? b = some o1 := k1 b o1 z2
    have z4 : h2.get? b = some o := z
    rw [z3] at z4; cases z4
    exact z2
  · refine noFr_get (I.base.keep b o q n hb (nx b)) fun z => ?_
    rcases T.sub.mp z with z | z
    · exact ne b o q z
    · exact hb z
  · obtain ⟨o1, q1⟩ := I.base.there b o q (nx b)
    by_cases hb : b ∈ frs X.stack
    · rcases T.sub.mp hb with z | z
      · exact (ne b o q z).elim
      · obtain ⟨l, z2⟩ := sl b z o q; exact ⟨_, z2⟩
    · exact ⟨o1, k1 b o1 (noFr_get q1 hb)⟩
  · exact hok_of I.hok tr k1

end

/-! ### raise, and a call that raises -/
open PySem.W in
theorem exc_obj {K : PySem.W.Frag} {h : Heap} {C : Addr} (X : K.In h) (Z : ExcK K C) : ∃ bm N nm q bs hd sn sub ab col dd k0 k1 k2 k3 k5 mN,
    h.get? C = some (excClassObj nm q C N bs bm hd sn sub ab col dd k0 k1 k2 k3 k5 "ValueError.__new__") ∧ h.Ns N mN ∧ mN "__init__" = none ∧ OwnTail h [.type "ValueError", .type "Exception", .type "BaseException", .type "object"] bm := by
  have z := Z.ex
  unfold excIn at z
  split at z
  · rename_i dd cd sl lk
    split at z
    · rename_i C' bm k0 k1 k2 k3 n k5 e1 e2
      rw [Bool.and_eq_true, Bool.and_eq_true, Bool.and_eq_true, Bool.and_eq_true, Bool.and_eq_true] at z
      obtain ⟨⟨⟨⟨⟨z1, z2⟩, z3⟩, z4⟩, z5⟩, z6⟩ := z
      obtain ⟨nm, bs, mro, ns, qn, hd, sn, sub, ab, col, del⟩ := cd
      obtain ⟨l⟩ := sl
      have y1 := beq_iff_eq.mp z1
      have y2 := beq_iff_eq.mp z2
      have y3 : del = false := by simpa using z3
      dsimp only at e1 e2 z5 z6
      subst e1 e2 y1 y2 y3
      exact ⟨bm, ns, nm, qn, bs, hd, sn, sub, ab, col, dd, k0, k1, k2, k3, k5, _, X _ _ lk, .of_isNs (isNs_of_in X z5), nsMap_none_of_in X z5 (beq_iff_eq.mp z6), tail_of_in X z4⟩
    · cases z
  · cases z

section
variable {X : Cx} {C : Addr} {x : Str} {np cpos pos : Pos} {msg : Str} {j : Nat} {p : Pos}
/-- raise C("..") -/
theorem ps_raise (Z : ExcK X.K C) (hc : X.calm = true) (hg : Gl X x) (hm : X.mg x = some (.ref C))
    (hl : ∀ (pins : List (Addr × Obj)) (σ : St) (H : Hp) (s : Shared) (h' : Heap) (e : Addr) (args : List Value), Inv X pins σ H s → Same X.H₀ H → Heap.MadeExcOf s.heap h' e (.ref C) args → X.xe (.ref e) { s with heap := h' })
    (hd : (x == ("__debug__" : Str)) = false := by decide) (he : starEach [Expr.Constant (.str msg) j p] X.env = [(false, eval (.Constant (.str msg) j p) X.env)] := by rfl) :
    PS X (.Raise (some (.Call (.Name x np) [.Constant (.str msg) j p] [] cpos)) none pos) (fun _ _ H => Same X.H₀ H) := by
  intro pins s σ H D I sm
  obtain ⟨bm, N, nm, q, bs, hd', sn, sub, ab, col, dd, k0, k1, k2, k3, k5, mN, hC, hN, hni, T⟩ := exc_obj I.mod.kin Z
  refine wpAny_Raise_call_subT (C := C) (nm := nm) (q := q) (N := N) (bs := bs) (bm := bm) (hdct := hd') (sn := sn) (sub := sub) (ab := ab) (col := col) (dd := dd) (k0 := k0) (k1 := k1) (k2 := k2) (k3 := k3) (k5 := k5) F.excBase_ValueError (mN := mN) (T.hasType F.excBase_ValueError.hasBase) (I.ok.hd hc)
    (by rw [he]; rfl) hni (ld_glob I hg hm ⟨rfl, ?_⟩ hd)
  have pa := pa_cons (X := X) (pe_str (X := X) (x := msg) (j := j) (pos := p)) pa_nil (by exact he)
  rw [he]
  have q1 := pa cpos pins s σ H (fun vs H1 => vs.length ≤ sizeLine ∧ Same X.H₀ H1) I ⟨(by decide : 1 ≤ sizeLine), sm⟩
  rw [he] at q1
  exact Calls.evalArgs_plain (wpAny_mono q1 (fun vs s2 ⟨xs, H1, I1, r, e0, e1⟩ => ⟨rfl, by rw [← r.length]; exact e0, I1.bk _ _ hC, hN.keeps I1.bk, T.keeps I1.bk, fun h' e hx => hl pins σ H1 s2 h' e _ I1 e1 hx⟩) fun _ _ z => z)
end

/-- a def that raises the exception at C where F holds of its arguments -/
structure FnX (P : Program) (w : World) (K : PySem.W.Frag) (mg : Str → Option Value) (base : Heap) (x : Str) (ps : List Str) (k : Nat) (C : Addr) (F : List D → Prop) : Prop where
  ex : ∃ f fd, FnOk P w K mg base (CXE P w C) k f fd ps (fun vs H _ _ => ∃ ds, Reps K H ds vs ∧ F ds) ∧ Binds K fd ps [] ∧ PySem.W.keepIn K (.ref f) = true ∧ mg x = some (.ref f)
section
variable {X : Cx} {C : Addr} {k : Nat} {ps : List Str} {F : List D → Prop} {x : Str} {p pos : Pos} {e : Expr} {es : List Expr} {t : RA}
theorem call_fly (G : FnX X.prog X.w X.K X.mg X.base x ps k C F) (hr : Room k X.A) (ha : DA X.nox (e :: es) t) (hg : Gl X x) {pins : List (Addr × Obj)} {s : Shared} {σ : St} {H : Hp} {ρ : En} {XE : Value → Shared → Prop} {Q : Value → Shared → Prop}
    (I : Inv X pins σ H s) (st : StOk X ρ σ H) (h : t ρ F) (hx : ∀ H1 s1 v s', Inv X pins σ H1 s1 → StOk X ρ σ H1 → Same H H1 → CXE X.prog X.w C X.stack H1 s1 E0 v s' → XE v s')
    (hdb : (x == ("__debug__" : Str)) = false := by decide) (he : starEach (e :: es) X.env = (false, eval e X.env) :: starEach es X.env := by rfl) (hpl : (backTo pos (starEach es X.env)).any (·.1) = false := by rfl) :
    wpAny (model X.prog X.w) X.A (eval (.Call (.Name x p) (e :: es) [] pos) X.env) Q XE s := by
  obtain ⟨f, fd, G, hb, hk, hm⟩ := G.ex
  have st' : StOk X.nox ρ σ H := ⟨st.len, st.same, st.rel, st.sep⟩
  refine wpAny_Call_Name_kw (ld_glob I hg hm ?_ hdb)
  refine PySem.W.callWith_K (h₀ := X.base) I.ok.mod.kin hk (wpAny_mono (ha pos pins s σ H (fun vs H1 => Same H H1 ∧ ∃ ds, Reps X.K H1 ds vs ∧ F ds) (I.wish _) ⟨ρ, F, st', h, fun ds vs H1 q s1 r => ⟨s1, ds, r, q⟩⟩) (fun us s1 ⟨vs, H1, I1, r, sm, q⟩ => ⟨I1.unwish.kIn, ?_⟩) fun _ _ z => z.elim) he hpl
  have I1 := I1.unwish
  have hl : us.length = ps.length := by rw [← r.length]; exact G.len vs H1 (fun _ _ => False) E0 q
  have bb := hb s1 us I1.kIn (by rw [List.append_nil]; exact hl)
  rw [List.append_nil] at bb
  refine wpAny_call (codeAny_mono (G.run X.A X.stack s1 H1 ⟨us, []⟩ us vs (fun _ _ => False) E0 hr I1.env0 bb r q) fun r' s' hq => ?_)
  cases r' with
  | error v => exact hx H1 s1 v s' I1 (st.ext sm) sm hq
  | ok fl =>
    cases fl with
    | ret u => obtain ⟨_, _, _, _, _, _, _, z⟩ := hq; exact z.elim
    | next => exact False.elim hq
    | brk => exact False.elim hq
    | cont => exact False.elim hq
end
end L2.R2

set_option Elab.async false
set_option linter.all false
set_option maxRecDepth 100000
namespace L2.R2
open PySem PySem.Spec PyProof.Rows L2

/-! ### a name goes behind an except suite -/
section
variable {X : Cx} {pins : List (Addr × Obj)} {σ : St} {H : Hp} {s : Shared}
theorem inv_goes {i : Nat} {x : Str} {h' : Heap} {v : Option Value} {m : Str → Option Value} {t : Nat} (I : Inv X pins σ H s) (hN : X.N.Nodup) (hi : X.N[i]? = some x)
    (hl : ∀ (i : Nat) (x : Str) (v : V), X.N[i]? = some x → σ[i]? = some (some v) → Vis X.env.scope x → ∃ u, RelV v u ∧ Look X.env s.heap m x u)
    (hn : h'.Ns X.env.locals (fun y => if y = x then v else m y)) (hs : Heap.SameBut X.env.locals s.heap h') : Inv X pins (σ.set i none) H { s with heap := h', toks := t } := by
  have keep : ∀ b, b ≠ X.env.locals → h'.get? b = s.heap.get? b := fun b hb => hs.2 b hb
  have nb : ∀ b o, X.s₀.heap.get? b = some o → b ≠ X.env.locals := fun b o e => Nat.ne_of_lt (Nat.lt_of_lt_of_le (Heap.lt_size e) I.ok.above)
  refine ⟨I.ok, I.os, I.bare, ⟨fun b o e n hb hx => ?_, fun b o e n hb hx => ?_, I.base.free, fun b o e hx => ?_, I.base.tups, I.base.frzs, I.base.tbls⟩, ⟨_, hn, fun j y w e1 e2 e3 => ?_⟩, fun y c e => ?_, I.free, I.freeC, fun p hp => ?_, fun b u e => ?_, by simpa using I.len⟩
  · exact (keep b (nb b o e)).trans (I.base.keep b o e n hb hx)
  · obtain ⟨sl, e1⟩ := I.base.slot b o e n hb hx
    exact ⟨sl, (keep b (nb b o e)).trans e1⟩
  · obtain ⟨o', e1⟩ := I.base.there b o e hx
    exact ⟨o', (keep b (nb b o e)).trans e1⟩
  · by_cases hj : j = i
    · subst hj
      by_cases hlt : j < σ.length
      · rw [List.getElem?_set_self hlt] at e2; cases e2
      · rw [List.set_eq_of_length_le (by omega), List.getElem?_eq_none (by omega)] at e2; cases e2
    · rw [List.getElem?_set_ne (Ne.symm hj)] at e2
      obtain ⟨u, r, q⟩ := hl j y w e1 e2 e3
      refine ⟨u, r, ?_⟩
      rcases q with ⟨k, q⟩ | ⟨k, c, q, z⟩
      · refine .inl ⟨k, ?_⟩
        have : y ≠ x := fun e => hj (nodup_ix hN e1 (e ▸ hi))
        simp [this, q]
      · exact .inr ⟨k, c, q, z.sameBut hs (I.cne y c q)⟩
  · obtain ⟨w, z⟩ := I.cell y c e
    exact ⟨w, z.sameBut hs (I.cne y c e)⟩
  · obtain ⟨e, n, ne, nf, d⟩ := I.pin p hp
    exact ⟨(keep p.1 ne).trans e, n, ne, nf, d⟩
  · have nL : ∀ c z, H c = some z → c ≠ X.env.locals := fun c z q r => by rw [r, I.free] at q; cases q
    refine (I.hok b u e).stay (fun c v hc q => (keep c ?_).trans q) (fun _ q => q) fun _ _ q => q
    rcases hc with rfl | hc
    · exact nL _ _ e
    · exact nL _ _ hc

/-- within an except suite -/
abbrev cxHeld (X : Cx) (v : Value) : Cx := { X with A := X.A.mark (some v), calm := false }
theorem inv_held (I : Inv X pins σ H s) (v : Value) : Inv (cxHeld X v) pins σ H s :=
  ⟨⟨I.ok.mod, I.ok.kind, I.ok.glob, I.ok.blt, I.ok.above, I.ok.inj, I.ok.has, I.ok.cab, fun z => Bool.noConfusion z, I.ok.frames, I.ok.stk, I.ok.exf, I.ok.bs, I.ok.bsz, I.ok.noex, I.ok.exfs, I.ok.funs, I.ok.frf⟩, I.os, I.bare, I.base, I.loc, I.cell, I.free, I.freeC, I.pin, I.hok, I.len⟩
theorem inv_unheld {v : Value} (ok : X.Ok) (I : Inv (cxHeld X v) pins σ H s) : Inv X pins σ H s := ⟨ok, I.os, I.bare, I.base, I.loc, I.cell, I.free, I.freeC, I.pin, I.hok, I.len⟩
/-- one more pin, for good -/
abbrev cxPin (X : Cx) (p : Addr × Obj) : Cx := { X with pn := p :: X.pn }
theorem inv_pin {p : Addr × Obj} (I : Inv X pins σ H s) (h : s.heap.get? p.1 = some p.2 ∧ H p.1 = none ∧ p.1 ≠ X.env.locals ∧ p.1 ∉ X.fs ∧ ∀ v, p.2.data ≠ .cell v) : Inv (cxPin X p) pins σ H s :=
  ⟨⟨I.ok.mod, I.ok.kind, I.ok.glob, I.ok.blt, I.ok.above, I.ok.inj, I.ok.has, I.ok.cab, I.ok.hd, I.ok.frames, I.ok.stk, I.ok.exf, I.ok.bs, I.ok.bsz, I.ok.noex, I.ok.exfs, I.ok.funs, I.ok.frf⟩, I.os, I.bare, I.base, I.loc, I.cell, I.free, I.freeC, fun q hq => by
    rcases List.mem_cons.mp (show q ∈ p :: (X.pn ++ pins) from hq) with z | z
    · rw [z]; exact h
    · exact I.pin q z, I.hok, I.len⟩
theorem inv_unpin {p : Addr × Obj} (ok : X.Ok) (I : Inv (cxPin X p) pins σ H s) : Inv X pins σ H s := ⟨ok, I.os, I.bare, I.base, I.loc, I.cell, I.free, I.freeC, fun q hq => I.pin q (List.mem_cons_of_mem _ hq), I.hok, I.len⟩
end

/-! ### isinstance of a caught exception -/
section
variable {K : PySem.W.Frag}
open PySem.W in
theorem kitx_exc {x C : Addr} (Z : ExcK K C) : KitX K (.ref x) (.ref C) (fun h => ∃ o, h.get? x = some o ∧ o.cls = .ref C) where
  ty := fun _ _ _ ⟨_, h1, h2⟩ => h2 ▸ (Looks.ld h1).andThen .now
  it := fun _ _ X _ => by
    have z := Z.cl
    unfold clsIn at z
    split at z
    · rename_i c d cd sl lk
      intro A Q E s k q
      unfold isType loadHead
      exact wpAny_bind (wpAny_loadPart (k _ _ (X _ _ lk)) (wpAny_pure q))
    · cases z
  ne := fun h tp dd its n sl X htp => by
    have z := Z.cl
    refine Bool.eq_false_iff.mpr fun q => ?_
    have e : C = tp := Value.ref.inj (beq_iff_eq.mp q)
    subst e
    unfold clsIn at z
    split at z
    · rename_i c d cd sl' lk
      have y := (X _ _ lk).symm.trans htp
      cases y
    · cases z
  ca := fun X ⟨_, h1, h2⟩ k => exc_class Z X h1 h2 k
end
section
variable {X : Cx} {C e : Addr} {oe : Obj} {b : Bool}
theorem isi_one {c : V} {cv : Value} (Z : ExcK X.K C) (hp : (e, oe) ∈ X.pn) (hc : oe.cls = .ref C) (rc : RelV c cv) (rc1 : ∀ u, RelV c u → u = cv) (h : PySem.W.kitOne X.K (.ref C) cv = some b) :
    CallR X (.builtin "isinstance") (fun vs H Q => vs = [.ref e, c] ∧ Q (.bl b) H) := by
  intro pins s σ H xs us Q I r ⟨ex, q⟩
  subst ex
  cases r with
  | cons r1 r2 =>
    cases r2 with
    | cons r3 r4 =>
      cases r4
      rename_i u1 u2
      cases (show u1 = Value.ref e from r1)
      cases rc1 _ r3
      obtain ⟨h1, _⟩ := I.pin _ (List.mem_append_left _ hp)
      exact PySem.W.kia_one (kitx_exc Z) I.kIn ⟨oe, h1, hc⟩ h (fun z => nomatch z) fun tk => ⟨.bl b, H, I.tok tk, rfl, q⟩
theorem isi_two {c1 c2 : Addr} (Z : ExcK X.K C) (hp : (e, oe) ∈ X.pn) (hc : oe.cls = .ref C) (h : PySem.W.kitAny X.K (.ref C) [.ref c1, .ref c2] = some b) :
    CallR X (.builtin "isinstance") (fun vs H Q => ∃ tp, vs = [.ref e, .ref tp] ∧ H tp = some (.tup [.ref c1, .ref c2]) ∧ Q (.bl b) H) := by
  intro pins s σ H xs us Q I r ⟨tp, ex, ht, q⟩
  subst ex
  cases r with
  | cons r1 r2 =>
    cases r2 with
    | cons r3 r4 =>
      cases r4
      rename_i u1 u2
      cases (show u1 = Value.ref e from r1)
      cases (show u2 = Value.ref tp from r3)
      obtain ⟨h1, _⟩ := I.pin _ (List.mem_append_left _ hp)
      obtain ⟨_, its, rv, o, h2, h3, n, h4⟩ := (show ObjOk X.prog X.w H s.heap tp (.tup [.ref c1, .ref c2]) from I.hok tp _ ht)
      obtain ⟨oc, od, oda, osl⟩ := o
      cases rv with
      | cons v1 w1 =>
        cases w1 with
        | cons v2 w2 =>
          cases w2
          rename_i i1 i2
          cases (show i1 = Value.ref c1 from v1)
          cases (show i2 = Value.ref c2 from v2)
          dsimp only at h3 h4
          subst h3 h4
          exact PySem.W.kia_tup (kitx_exc Z) I.kIn ⟨oe, h1, hc⟩ h2 h (fun z => nomatch z) fun tk => ⟨.bl b, H, I.tok tk, rfl, q⟩
end
end L2.R2

set_option Elab.async false
set_option linter.all false
set_option maxRecDepth 100000
namespace L2.R2
open PySem PySem.Spec PyProof.Rows L2

/-- what the law's catcher wants of the part: the classes, and which is under which -/
structure ExcT (K : PySem.W.Frag) (mg : Str → Option Value) (C : Addr) : Prop where
  k : ExcK K C
  no : mg "NoNumber" = some (.ref C)
  cut : ∃ c, mg "CutError" = some (.ref c) ∧ PySem.W.exmOne K (.ref C) (.ref c) = some true
  two : ∃ c1 c2, mg "Crossed" = some (.ref c1) ∧ mg "Odd" = some (.ref c2) ∧ PySem.W.kitAny K (.ref C) [.ref c1, .ref c2] = some false
  one : PySem.W.kitOne K (.ref C) (.ref C) = some true
  ve : PySem.W.kitOne K (.ref C) (.type "ValueError") = some true
  isi : mg "isinstance" = none
  vn : mg "ValueError" = none
theorem boot_ve : bootBuiltins "ValueError" = some (.type "ValueError") := by decide +kernel

def rRef (t : RA) (F : List D → Prop) : RS := fun E ρ => t (ρ.set 2 (some (.d .non))) F ∧ E.rt (.bl true)

section
variable {X : Cx} {C : Addr} {k : Nat} {ps : List Str} {F : List D → Prop} {g : Str} {ea : Expr} {es : List Expr} {t : RA} {q1 q2 q3 q4 q5 q6 q7 q8 q9 q10 q11 q12 q13 q14 q15 q16 q17 q18 q19 q20 q21 q22 q23 q24 q25 q26 q27 q28 q29 q30 q31 : Pos} {j1 j2 j3 : Nat}
theorem ds_refused (T : ExcT X.K X.mg C) (T1 : Top1 X) (hcalm : X.calm = true) (nd : X.N.Nodup) (n2 : X.N[2]? = some ("_law_caught" : Str)) (n3 : X.N[3]? = some ("e" : Str)) (l2 : X.env.scope.names.lookup ("_law_caught" : Str) = some .local) (l3 : X.env.scope.names.lookup ("e" : Str) = some .local)
    (G : FnX X.prog X.w X.K X.mg X.base g ps k C F) (hr : Room k X.A) (ha : DA X.nox (ea :: es) t) (hg : Gl X g) (gC : Gl X "CutError") (gX : Gl X "Crossed") (gO : Gl X "Odd") (gN : Gl X "NoNumber") (gV : Gl X "ValueError") (gI : Gl X "isinstance")
    (hdb : (g == ("__debug__" : Str)) = false) (he : starEach (ea :: es) X.env = (false, eval ea X.env) :: starEach es X.env) (hpl : (backTo q5 (starEach es X.env)).any (·.1) = false)
    (hs1 : swapsWith (.Constant .none j1 q2) (some (.Name "_law_caught" q1)) q3.line X.env = pure false) (hs2 : swapsWith (.Call (.Name g q4) (ea :: es) [] q5) none q6.line X.env = pure false)
    (hs3 : swapsWith (.Name "e" q9) (some (.Name "_law_caught" q8)) q10.line X.env = pure false) :
    DSs X.nox [.Assign [.Name "_law_caught" q1] (.Constant .none j1 q2) q3,
      .Try [.Expr (.Call (.Name g q4) (ea :: es) [] q5) q6] [.ExceptHandler (some (.Name "CutError" q7)) (some "e") [.Assign [.Name "_law_caught" q8] (.Name "e" q9) q10] q11] [] [] q12,
      .If (.Call (.Name "isinstance" q13) [.Name "_law_caught" q14, .Tuple [.Name "Crossed" q15, .Name "Odd" q16] j2 q17] [] q18) [.Return (some (.Constant (.bool false) j3 q19)) q20] [] q21,
      .Return (some (.BoolOp .And [.Call (.Name "isinstance" q22) [.Name "_law_caught" q23, .Name "NoNumber" q24] [] q25, .Call (.Name "isinstance" q26) [.Name "_law_caught" q27, .Name "ValueError" q28] [] q29] q30)) q31] (rRef t F) := by
  intro pins s σ H De I ⟨ρ, Ed, st, ⟨hF, hrt⟩, _, krt, _, _⟩
  have lt3 : 3 < σ.length := by rw [I.len]; exact (List.getElem?_eq_some_iff.mp n3).1
  have hlen : ∀ a b c : Option V, 3 < (((σ.set 2 a).set 3 b).set 2 c).length := fun a b c => by simpa using lt3
  refine wpAny_execs_cons (thn (ps_set (X := X.nox) (i := 2) nd n2 (Or.inl l2) pe_non hs1 (Or.inr l2) pins s σ H { nx := fun σ' H' => σ' = σ.set 2 (some .non) ∧ H' = H, rt := fun _ _ => False } I ⟨rfl, rfl⟩) fun f s1 q => ?_)
  cases f with
  | ret u => obtain ⟨_, _, _, _, _, z⟩ := q; exact z.elim
  | brk => obtain ⟨_, _, _, z⟩ := q; exact z.elim
  | cont => obtain ⟨_, _, _, z⟩ := q; exact z.elim
  | next =>
    obtain ⟨_, _, I1, e1, e2⟩ := q
    rw [e1, e2] at I1
    have sa : StOk X.nox (ρ.set 2 (some (.d .non))) (σ.set 2 (some .non)) H := st.set_d .non
    refine wpAny_execs_cons (wpAny_Try_except (wpAny_execs_cons (wpAny_Expr_any (call_fly (X := X.nox) G hr ha hg I1 sa hF (fun H1 s2 v s3 I2 sb sm fl => ?_) hdb he hpl) I1.quiet hs2)))
    obtain ⟨a, B, a0, H3, rfl, Fl⟩ := fl
    have hfr : X.A.frames = some (X.env :: X.outer) := by rw [← T1.stk]; exact I.ok.frames
    refine wpAny_looks_onW (base := B) (a0 := a0) hfr T1.fr (by rw [← T1.stk]; exact Fl.fly) fun h4 hd4 up4 => ?_
    refine wpAny_landsW hd4 fun h5 fl5 up5 => ?_
    obtain ⟨un5, ok5⟩ := Fl.step (by exact fl5.1) (up4.trans up5)
    have I5 : Inv X.nox pins (σ.set 2 (some .non)) H3 { s3 with heap := h5 } := Inv.call' (ch := []) I2 Fl.os un5 ok5 Fl.bare (fun b z => absurd z (by simp))
    obtain ⟨cc, mc, xm⟩ := T.cut
    refine wpAny_handleBy_cons (codeAny_handlers_test ?_) (by intro q; cases q)
    refine ld_glob (X := cxHeld X.nox (.ref a)) (inv_held I5 _) gC mc ?_
    obtain ⟨o5, g5, c5⟩ := fl5.there
    have LT : PySem.W.Looks (model X.prog X.w) h5 (typeOf (.ref a)) (.ref C) := c5 ▸ (PySem.W.Looks.ld g5).andThen .now
    refine (PySem.W.exm_one (e := a) I5.kIn LT xm).here ?_
    refine codeAny_handlers_suite_as ?_
    refine lands_againW fl5 fun h6 fl6 up6 => ?_
    obtain ⟨un6, ok6⟩ := Fl.step (by exact fl6.1) ((up4.trans up5).trans up6)
    have I6 : Inv X.nox pins (σ.set 2 (some .non)) H3 { s3 with heap := h6 } := Inv.call' (ch := []) I2 Fl.os un6 ok6 Fl.bare (fun b z => absurd z (by simp))
    obtain ⟨oe, vs6, ge, ce, de⟩ : ∃ oe vs, h6.get? a = some oe ∧ oe.cls = .ref C ∧ oe.data = .fields vs := by
      obtain ⟨_, _, _, oe, vs, _, _, _, e1, e2, e3, _⟩ := fl6
      exact ⟨oe, vs, e1, e2.1, e3⟩
    have nfr := Fl.nofr
    have pin : h6.get? a = some oe ∧ H3 a = none ∧ a ≠ X.env.locals ∧ a ∉ X.fs ∧ ∀ v, oe.data ≠ .cell v :=
      ⟨ge, Fl.new, fun z => nfr (T1.sub.mpr (.inl z)), fun z => nfr (T1.sub.mpr (.inr z)), fun v z => by rw [de] at z; cases z⟩
    refine store_ok (X := cxPin (cxHeld X.nox (.ref a)) (a, oe)) (v := .ref a) (u := .ref a) (inv_pin (inv_held I6 _) pin) nd n3 (Or.inl l3) rfl (fun s7 I7 => ?_) (Or.inr l3)
    refine wpAny_mono (pss_one (ps_set (X := cxPin (cxHeld X.nox (.ref a)) (a, oe)) (i := 2) nd n2 (Or.inl l2) (pe_var (i := 3) n3 (Or.inl l3)) hs3 (Or.inr l2)) pins s7 _ H3 { nx := fun σ' H' => σ' = ((σ.set 2 (some .non)).set 3 (some (.ref a))).set 2 (some (.ref a)) ∧ H' = H3, rt := fun _ _ => False } I7 ⟨.ref a, by rw [List.getElem?_set_self (by simpa using lt3)], rfl, rfl⟩) (fun f s8 q => ?_) fun _ _ z => z.elim
    cases f with
    | ret u => obtain ⟨_, _, _, _, _, z⟩ := q; exact z.elim
    | brk => obtain ⟨_, _, _, z⟩ := q; exact z.elim
    | cont => obtain ⟨_, _, _, z⟩ := q; exact z.elim
    | next =>
      obtain ⟨_, _, I8, e1, e2⟩ := q
      rw [e1, e2] at I8
      obtain ⟨m, hn, hl⟩ := I8.loc
      refine wpAny_nameGoes_keeps l3 hn (by rw [I.ok.kind]; rfl) fun h9 v hn9 hs9 => ?_
      have I9 := inv_goes (t := s8.toks + 1) I8 nd n3 hl hn9 hs9
      have okp : (cxPin X.nox (a, oe)).Ok := (inv_pin I6 pin).ok
      have I10 : Inv (cxPin X.nox (a, oe)) pins _ _ _ := inv_unheld (X := cxPin X.nox (a, oe)) (v := .ref a) okp I9
      obtain ⟨c1, c2, m1, m2, xtwo⟩ := T.two
      have mem : (a, oe) ∈ (cxPin X.nox (a, oe)).pn := List.mem_cons_self
      have R := pss_cons (X := cxPin X.nox (a, oe)) (ps_if (pos := q21) (pt_val (pe_callB (p := q13) (pos := q18) (isi_two T.k mem ce xtwo) gI T.isi PyProof.Rows.boot_isinstance (pa_cons (pe_var (pos := q14) (i := 2) n2 (Or.inl l2)) (pa_cons (pe_tup (pos := q17) (x1 := j2) (pa_cons (pe_glob (pos := q15) (v := .ref c1) gX m1 rfl) (pa_cons (pe_glob (pos := q16) (v := .ref c2) gO m2 rfl) pa_nil))) pa_nil)))) (pss_one (ps_ret (pos := q20) (pe_bl (b := false) (j := j3) (pos := q19)))) pss_nil)
        (pss_one (ps_ret (pos := q31) (pe_and (pos := q30) (pe_callB (p := q22) (pos := q25) (isi_one (c := .ref C) T.k mem ce rfl (fun u z => z) T.one) gI T.isi PyProof.Rows.boot_isinstance (pa_cons (pe_var (pos := q23) (i := 2) n2 (Or.inl l2)) (pa_cons (pe_glob (pos := q24) (v := .ref C) gN T.no rfl) pa_nil)))
          (pe_one (pe_callB (p := q26) (pos := q29) (isi_one (c := .ty "ValueError") T.k mem ce rfl (fun u z => z) T.ve) gI T.isi PyProof.Rows.boot_isinstance (pa_cons (pe_var (pos := q27) (i := 2) n2 (Or.inl l2)) (pa_cons (pe_bltn (pos := q28) (v := .ty "ValueError") gV T.vn boot_ve rfl) pa_nil)))))))
      have s92 : ((((σ.set 2 (some V.non)).set 3 (some (V.ref a))).set 2 (some (V.ref a))).set 3 none)[2]? = some (some (V.ref a)) := by
        rw [List.getElem?_set_ne (by decide), List.getElem?_set_self (by simp; omega)]
      have fin : ∀ p, H3 p = none → De.rt (.bl true) (upd H3 p (.tup [.ref c1, .ref c2])) := fun p hp => by
        have su : Same H3 (upd H3 p (.tup [.ref c1, .ref c2])) := fun b o h => by rw [upd_ne (ne_of_none h hp)]; exact h
        have sa := (sm.trans Fl.same).trans su
        exact krt (.bl true) (.bl true) _ hrt (.of sa) (st.same.trans sa) (.bl true)
      refine wpAny_mono (R pins _ _ _ De I10 ⟨.ref a, s92, (by decide : 2 ≤ sizeLine), fun p hp => ⟨p, rfl, upd_same, false, rfl, iteF ⟨.ref a, s92, rfl, true, rfl, iteT ⟨.ref a, s92, rfl, fin p hp⟩⟩⟩⟩) (fun f s11 q => ?_) fun _ _ z => z
      cases f with
      | next => obtain ⟨σ', H', J, q⟩ := q; exact ⟨σ', H', inv_unpin I.ok J, q⟩
      | brk => obtain ⟨σ', H', J, q⟩ := q; exact ⟨σ', H', inv_unpin I.ok J, q⟩
      | cont => obtain ⟨σ', H', J, q⟩ := q; exact ⟨σ', H', inv_unpin I.ok J, q⟩
      | ret u => obtain ⟨v, σ', H', J, r, q⟩ := q; exact ⟨v, σ', H', inv_unpin I.ok J, r, q⟩
end

/-! ### defs that raise -/
section
variable {P : Program} {w : World} {K : PySem.W.Frag} {mg : Str → Option Value} {base : Heap}
theorem fnx_of {x : Str} {st : Stmt} {N ps : List Str} {k : Nat} {C : Addr} {F : List D → Prop} (Z : DefAt K mg x st ps) (Sc : FnScope N ps (defScope st)) (len : ∀ ds, F ds → ds.length = ps.length)
    (hbody : ∀ {f : Addr} (cdv : Value) (A : Around) (outer : List Env) (s : Shared) (H : Hp) (E : XK), Room k (A.deeper (envOfC x (defScope st) s.heap.objs.size f cdv)) → ∀ ds, F ds →
      PSs (cxOf (CXE P w C) P w K mg base N x (defScope st) f cdv A outer s H E) (defBody st) (fun _ σ H' => StOk (cxOf (CXE P w C) P w K mg base N x (defScope st) f cdv A outer s H E) (startD N ds) σ H')) : FnX P w K mg base x ps (k + 1) C F := by
  obtain ⟨f, fd, a, b, c⟩ := Z.ex
  obtain ⟨oc, od, kV, doc, pm, an, cdv, ct, osl, rfl, lk, hcd⟩ := a.ex
  exact ⟨f, _, fn_of lk hcd Sc (fun vs H Q E ⟨ds, r, h⟩ => by rw [← r.length]; exact len ds h) (fun A outer s H vs Q E hr ⟨ds, r, h⟩ => ⟨_, hbody cdv A outer s H E hr ds h, start_ok (X := cxOf (CXE P w C) P w K mg base N x (defScope st) f cdv A outer s H E) r⟩), .all c, a.kp, b⟩
end
section
variable {X : Cx} {C : Addr} {c : Expr} {tc : RT} {x : Str} {np cpos pos pos2 p : Pos} {msg : Str} {j : Nat} {rest : List Stmt}
theorem pss_ifraise (hc : DT X.nox c tc) (Z : ExcK X.K C) (hcalm : X.calm = true) (hg : Gl X x) (hm : X.mg x = some (.ref C))
    (hl : ∀ (pins : List (Addr × Obj)) (σ : St) (H : Hp) (s : Shared) (h' : Heap) (e : Addr) (args : List Value), Inv X pins σ H s → Same X.H₀ H → Heap.MadeExcOf s.heap h' e (.ref C) args → X.xe (.ref e) { s with heap := h' })
    (hd : (x == ("__debug__" : Str)) = false := by decide) (he : starEach [Expr.Constant (.str msg) j p] X.env = [(false, eval (.Constant (.str msg) j p) X.env)] := by rfl) :
    PSs X (.If c [.Raise (some (.Call (.Name x np) [.Constant (.str msg) j p] [] cpos)) none pos] [] pos2 :: rest) (fun _ σ H => ∃ ρ, StOk X ρ σ H ∧ tc ρ fun b => b = true) := by
  intro pins s σ H D I ⟨ρ, st, q⟩
  refine wpAny_execs_cons (wpAny_If (wpAny_mono (hc pins s σ H (fun b H1 => b = true ∧ Same H H1) (I.wish _) ⟨ρ, _, ⟨st.len, st.same, st.rel, st.sep⟩, q, fun b H' e sm => ⟨e, sm⟩⟩) (fun d s1 ⟨H1, I1, e, sm⟩ => ?_) fun _ _ z => z.elim))
  subst e
  refine wpAny_mono (pss_one (ps_raise (np := np) (cpos := cpos) (pos := pos) Z hcalm hg hm hl hd he) pins s1 σ H1 { nx := fun _ _ => False, rt := fun _ _ => False } I1.unwish (st.same.trans sm)) (fun f s2 q => ?_) fun _ _ z => z
  cases f with
  | ret u => obtain ⟨_, _, _, _, _, z⟩ := q; exact z.elim
  | brk => obtain ⟨_, _, _, z⟩ := q; exact z.elim
  | cont => obtain ⟨_, _, _, z⟩ := q; exact z.elim
  | next => obtain ⟨_, _, _, z⟩ := q; exact z.elim
end

/-! ### what they are worth -/
def FRef (F : List D → Prop) : FD := fun ds Q => F ds ∧ Q (.bl true)
theorem len_fref {F : List D → Prop} (hl : ∀ ds, F ds → ds.length = 2) : ∀ ds Q, FRef F ds Q → ds.length = 2 := fun ds Q h => hl ds h.1
theorem pure_fref {F : List D → Prop} {a b c d : Str} (hl : ∀ ds, F ds → ds.length = 2) : ∀ ds Q, FRef F ds Q → rRef (raCons (rVar 0) (raCons (rVar 1) raNil)) F { nx := fun _ => Q .non, rt := Q } (startD [a, b, c, d] ds) := by
  intro ds Q ⟨h, q⟩
  have := hl ds h
  match ds, this with
  | [x, y], _ => exact ⟨h, q⟩
def FxRatio : List D → Prop := fun ds => ∃ t : Int, ds = [.int t, .int 0]
theorem len_fxr : ∀ ds, FxRatio ds → ds.length = 2 := by rintro ds ⟨t, rfl⟩; rfl
theorem pure_fxr : ∀ ds, FxRatio ds → rTest (r2 (dEqS false) (rVarB 1) (rC (.int 0))) (startD ["top", "bottom", "divisor"] ds) (fun b => b = true) := by rintro ds ⟨t, rfl⟩; rfl
end L2.R2

set_option Elab.async false
set_option linter.all false
set_option maxRecDepth 100000
set_option maxHeartbeats 4000000
namespace L2.R2
open PySem PySem.Spec PyProof.Rows L2
local macro_rules | `(tactic| walk_at "rd") => `(tactic| simp only [rSeq, rNext, rRet, rDrop, rIfS, rSet, rSetO, rPar, rAsg, rgName, rgTup, rgCons, rgNil, rVar, rVarB, rC, r2, r1, rTest, rAnd, rOr, rNot, rAndV, rOrV, rNotV, rIf, raNil, raCons, rTup, rLst, rCall, rCB, rNoPart, rPart, rSlL', rFor, riEn, riL, riT, riR1, riR2, riStep, rComp, compD, capE, capO, fzAt, rAppD, rPopD, rSetIx, rZip, seqD, rSlA, dAddA, dListOf, dTupOf, dSum, dNe, rIndex, riRev, riZip,
  dAdd, dSub, dMul, dFdiv, dMod, dPow, dNeg, dCmp, dEqS, dIsN, dEq_rd, isNon, dIx_tup0, dIx_tup1, dIx_tup2, dIx_lst0, dIx_lst1, dIx_lst2, dIx_lst3, dIx_lst4, dIx_lst5, dIx_lst6, dIx_lst7, dIx_lst8, dIx_lst9, dIx_lst10, dIx_lst11, dAbs, dInt, dMax2, dMin2, dLen, dIsi, isi_ii, isi_bi, isi_ib, isi_bb, isi_tt, S.val, startN, rep0, rep1, rep2, rep3, rep4, rep5, rep6, rep7, rep8, rep9, rep10, rep11, rep12,
  List.map_cons, List.map_nil, List.cons_append, List.nil_append, List.length_cons, List.length_nil, List.getElem?_cons_zero, List.getElem?_cons_succ, List.set_cons_zero, List.set_cons_succ, List.append_nil,
  Bool.or_false, Bool.or_true, Bool.false_or, Bool.true_or, Bool.not_true, Bool.not_false, if_true, if_false, Bool.false_eq_true, sz0, sz1, sz2, sz3, sz4, true_and, decide_eq_true_eq, Int.reduceToNat, Int.reducePow, Int.reduceMul, Int.reduceSub, Int.reduceAdd, Int.reduceNeg])
local macro_rules | `(tactic| walk_at "side") => `(tactic| first | exact pow_ok | exact mod_ok | exact (BL.const (n := 9000) (by decide)).divOk (by decide) | exact (BL.const (n := 300) (by decide)).mulOk (BL.const (n := 300) (by decide)))
local macro_rules | `(tactic| walk_at "sides") => `(tactic| repeat (refine And.intro (by walk_at "side") ?_))
namespace K01
theorem seqK {t u : RS} {E : DEnds} {ρ : En} (I : En → Prop) (h1 : ∀ K : En → Prop, (∀ ρ', I ρ' → K ρ') → t { E with nx := K } ρ) (h2 : ∀ ρ', I ρ' → u E ρ') : rSeq t u E ρ := h1 (u E) h2
def F_share : FD := fun ds Q => ∃ c : Int, ds = [.int c] ∧ ∀ s : Int, 0 ≤ s → s ≤ 10000000000 → Q (.int s)
theorem len_share : ∀ ds Q, F_share ds Q → ds.length = 1 := by rintro ds Q ⟨c, rfl, _⟩; rfl
theorem pure_share : ∀ ds Q, F_share ds Q → rd__law_share { nx := fun _ => Q .non, rt := Q } (startD ["_law_cell"] ds) := by
  rintro ds Q ⟨c, rfl, q⟩
  rw [startD_eq 0 rfl]
  unfold rd__law_share
  walk_at "rd"
  walk_at "sides"
  obtain ⟨a1, a2⟩ := fmod_range (a := c.fdiv 4) (b := 3) (by decide)
  obtain ⟨b1, b2⟩ := fmod_range (a := c.fdiv 4) (b := 12) (by decide)
  obtain ⟨c1, c2⟩ := fmod_range (a := c.fdiv 4) (b := 10000000000) (by decide)
  obtain ⟨d1, d2⟩ := fmod_range (a := c) (b := 4) (by decide)
  refine dIx_any d1 (by simp only [List.length_cons, List.length_nil]; omega) ?_
  intro d hd
  simp only [List.mem_cons, List.not_mem_nil, or_false] at hd
  rcases hd with rfl | rfl | rfl | rfl
  · exact q _ (by omega) (by omega)
  · exact q _ (by omega) (by omega)
  · exact q _ (by omega) (by omega)
  · exact q _ (by omega) (by omega)
/-- the next pair -/
def F_longer : FD := fun ds Q => ∃ a b c : Int, ds = [fr a b, .int c] ∧ BL 200 a ∧ ∀ m : Int, 1 ≤ m → (m = 1 ∨ m * a < 1000000000000000000000000000000) → Q (fr (m * a + b) a)
theorem len_longer : ∀ ds Q, F_longer ds Q → ds.length = 2 := by rintro ds Q ⟨a, b, c, rfl, _⟩; rfl
theorem pure_longer : ∀ ds Q, F_longer ds Q → rd__law_longer { nx := fun _ => Q .non, rt := Q } (startD ["_law_pair", "_law_cell", "_law_many"] ds) := by
  rintro ds Q ⟨a, b, c, rfl, ba, q⟩
  rw [startD_eq 1 rfl]
  unfold rd__law_longer
  refine seqK (fun ρ => ∃ m : Int, 1 ≤ m ∧ BL 100 m ∧ ρ = [some (.d (fr a b)), some (.d (.int c)), some (.d (.int m))]) (fun K hK => ?_) ?_
  · walk_at "rd"
    walk_at "sides"
    obtain ⟨d1, d2⟩ := fmod_range (a := c) (b := 4) (by decide)
    refine dIx_any d1 (by simp only [List.length_cons, List.length_nil]; omega) ?_
    intro d hd
    simp only [List.mem_cons, List.not_mem_nil, or_false] at hd
    have go : ∀ y : Int, 0 < y → y ≤ 1000000000000000000 → 1 ≤ 1 + (c.fdiv 4).fmod y ∧ BL 100 (1 + (c.fdiv 4).fmod y) := fun y h0 h1 => by
      obtain ⟨e1, e2⟩ := fmod_range (a := c.fdiv 4) (b := y) h0
      exact ⟨by omega, BL.of_lt (m := 100) (by omega) (by omega)⟩
    rcases hd with rfl | rfl | rfl | rfl <;> (walk_at "rd"; refine ⟨mod_ok, hK _ ⟨_, (go _ (by decide) (by decide)).1, (go _ (by decide) (by decide)).2, rfl⟩⟩)
  · rintro ρ ⟨m, h1, bm, rfl⟩
    have one : BL 100 (1 : Int) := BL.const
    walk_at "rd"
    refine ⟨bm.mulOk ba, pow_ok, ?_⟩
    split
    · exact ⟨one.mulOk ba, q 1 (by decide) (.inl rfl)⟩
    · rename_i h
      exact ⟨bm.mulOk ba, q m h1 (.inr (by omega))⟩
/-- the fraction of two numbers that only 1 divides both, both times s -/
theorem low_of {s x y p q : Int} (hs : 0 < s) (hy : y ≠ 0) (hg : Int.gcd x y = 1) (h : Low (s * x) (s * y) p q) : if y < 0 then p = 0 - x ∧ q = 0 - y else p = x ∧ q = y := by
  have w : p * y = x * q := by
    have w := h.worth
    have e : s * (p * y) = s * (x * q) := by
      have : p * (s * y) = s * (p * y) := by grind
      have : s * x * q = s * (x * q) := by grind
      omega
    exact Int.eq_of_mul_eq_mul_left (by omega) e
  have c1 : q.natAbs ∣ y.natAbs := by
    have : q.natAbs ∣ p.natAbs * y.natAbs := by rw [← Int.natAbs_mul, w, Int.natAbs_mul]; exact Nat.dvd_mul_left ..
    exact Nat.Coprime.dvd_of_dvd_mul_left (show Nat.gcd q.natAbs p.natAbs = 1 by rw [Nat.gcd_comm]; exact h.cop) this
  have c2 : y.natAbs ∣ q.natAbs := by
    have : y.natAbs ∣ x.natAbs * q.natAbs := by rw [← Int.natAbs_mul, ← w, Int.natAbs_mul]; exact Nat.dvd_mul_left ..
    exact Nat.Coprime.dvd_of_dvd_mul_left (show Nat.gcd y.natAbs x.natAbs = 1 by rw [Nat.gcd_comm]; exact hg) this
  have e : q.natAbs = y.natAbs := Nat.dvd_antisymm c1 c2
  have hq := h.pos
  split
  · have eq : q = 0 - y := by omega
    subst eq
    refine ⟨?_, rfl⟩
    have : p * y = (0 - x) * y := by rw [w]; grind
    exact Int.eq_of_mul_eq_mul_right hy this
  · have eq : q = y := by omega
    subst eq
    exact ⟨Int.eq_of_mul_eq_mul_right hy w, rfl⟩
def F_right : FD := fun ds Q => ∃ s a b c : Int, ds = [.int s, fr a b, .int c] ∧ (0 ≤ s ∧ s ≤ 10000000000) ∧ (BL 200 a ∧ BL 200 b) ∧ Int.gcd a b = 1 ∧ Q (.bl true)
theorem len_right : ∀ ds Q, F_right ds Q → ds.length = 3 := by rintro ds Q ⟨a, b, c, d, rfl, _⟩; rfl
theorem gcd_sg {x y a b : Int} (h : Int.gcd a b = 1) (hx : x.natAbs = a.natAbs) (hy : y.natAbs = b.natAbs) : Int.gcd x y = 1 := by
  unfold Int.gcd at *
  rw [hx, hy]; exact h
theorem pure_right : ∀ ds Q, F_right ds Q → rd__law_right_9 (FRef FxRatio) F_whole F_ratio { nx := fun _ => Q .non, rt := Q } (startD ["_law_share_here", "_law_pair", "_law_cell", "_law_mixed", "_law_one", "_law_other", "_law_found"] ds) := by
  rintro ds Q ⟨s, a, b, c, rfl, ⟨s0, s1⟩, ⟨ba, bb⟩, hg, q⟩
  rw [startD_eq 4 rfl]
  unfold rd__law_right_9
  have bs : BL 40 s := BL.of_lt (by omega) (by omega)
  refine seqK (fun ρ => ∃ m : Int, 0 ≤ m ∧ m < 1048274 ∧ ρ = [some (.d (.int s)), some (.d (fr a b)), some (.d (.int c)), some (.d (.int m)), none, none, none]) (fun K hK => ?_) ?_
  · walk_at "rd"
    walk_at "sides"
    obtain ⟨e1, e2⟩ := fmod_range (a := c) (b := 1000003) (by decide)
    exact hK _ ⟨_, by omega, by omega, rfl⟩
  rintro ρ ⟨m0, e1, e2, rfl⟩
  refine seqK (fun ρ => ∃ m : Int, 0 ≤ m ∧ ρ = [some (.d (.int s)), some (.d (fr a b)), some (.d (.int c)), some (.d (.int m)), none, none, none]) (fun K hK => ?_) ?_
  · walk_at "rd"
    have bm : BL 40 m0 := BL.of_lt (by omega) (by omega)
    refine ⟨bm.mulOk bm, mod_ok, hK _ ⟨_, (fmod_range (by decide)).1, rfl⟩⟩
  rintro ρ ⟨m, m0, rfl⟩
  refine seqK (fun ρ => ∃ x : Int, x.natAbs = a.natAbs ∧ ρ = [some (.d (.int s)), some (.d (fr a b)), some (.d (.int c)), some (.d (.int m)), some (.d (.int x)), none, none]) (fun K hK => ?_) ?_
  · walk_at "rd"
    walk_at "sides"
    obtain ⟨h1, h2⟩ := fmod_range (a := m) (b := 2) (by decide)
    refine dIx_any h1 (by simp only [List.length_cons, List.length_nil]; omega) ?_
    intro d hd
    simp only [List.mem_cons, List.not_mem_nil, or_false] at hd
    rcases hd with rfl | rfl
    · exact ⟨ba.mulOk (BL.const (n := 10)), hK _ ⟨_, by rw [Int.mul_one], rfl⟩⟩
    · exact ⟨ba.mulOk (BL.const (n := 10)), hK _ ⟨_, by rw [Int.natAbs_mul]; exact Nat.mul_one _, rfl⟩⟩
  rintro ρ ⟨x, hx, rfl⟩
  refine seqK (fun ρ => ∃ y : Int, y.natAbs = b.natAbs ∧ ρ = [some (.d (.int s)), some (.d (fr a b)), some (.d (.int c)), some (.d (.int m)), some (.d (.int x)), some (.d (.int y)), none]) (fun K hK => ?_) ?_
  · walk_at "rd"
    walk_at "sides"
    obtain ⟨h1, h2⟩ := fmod_range (a := m.fdiv 2) (b := 2) (by decide)
    refine dIx_any h1 (by simp only [List.length_cons, List.length_nil]; omega) ?_
    intro d hd
    simp only [List.mem_cons, List.not_mem_nil, or_false] at hd
    rcases hd with rfl | rfl
    · exact ⟨bb.mulOk (BL.const (n := 10)), hK _ ⟨_, by rw [Int.mul_one], rfl⟩⟩
    · exact ⟨bb.mulOk (BL.const (n := 10)), hK _ ⟨_, by rw [Int.natAbs_mul]; exact Nat.mul_one _, rfl⟩⟩
  rintro ρ ⟨y, hy, rfl⟩
  have bx : BL 200 x := ba.le (by omega)
  have by' : BL 200 y := bb.le (by omega)
  have hg' : Int.gcd x y = 1 := gcd_sg hg hx hy
  clear hg hx hy ba bb
  refine seqK (fun ρ => ∃ x y : Int, BL 200 x ∧ BL 200 y ∧ Int.gcd x y = 1 ∧ ρ = [some (.d (.int s)), some (.d (fr a b)), some (.d (.int c)), some (.d (.int m)), some (.d (.int x)), some (.d (.int y)), none]) (fun K hK => ?_) ?_
  · walk_at "rd"
    walk_at "sides"
    split
    · exact hK _ ⟨y, x, by', bx, by rw [Int.gcd_comm]; exact hg', rfl⟩
    · exact hK _ ⟨x, y, bx, by', hg', rfl⟩
  clear bx by' hg' x y
  rintro ρ ⟨x, y, bx, by', hg, rfl⟩
  refine seqK (fun ρ => s * y ≠ 0 ∧ ρ = [some (.d (.int s)), some (.d (fr a b)), some (.d (.int c)), some (.d (.int m)), some (.d (.int x)), some (.d (.int y)), none]) (fun K hK => ?_) ?_
  · walk_at "rd"
    refine ⟨bs.mulOk by', ?_⟩
    split
    · rename_i h
      exact ⟨bs.mulOk bx, bs.mulOk by', ⟨s * x, by rw [h]⟩, q⟩
    · rename_i h
      exact hK _ ⟨h, rfl⟩
  rintro ρ ⟨hz, rfl⟩
  have y0 : y ≠ 0 := fun h => hz (by rw [h, Int.mul_zero])
  have sp : 0 < s := by
    rcases Int.lt_or_le 0 s with h | h
    · exact h
    · exact (hz (by rw [show s = 0 by omega, Int.zero_mul])).elim
  refine seqK (fun ρ => ∃ p r : Int, Low (s * x) (s * y) p r ∧ ρ = [some (.d (.int s)), some (.d (fr a b)), some (.d (.int c)), some (.d (.int m)), some (.d (.int x)), some (.d (.int y)), some (.d (fr p r))]) (fun K hK => ?_) ?_
  · walk_at "rd"
    exact ⟨bs.mulOk bx, bs.mulOk by', _, _, rfl, ⟨hz, (bs.mul by').mono (by decide)⟩, fun p r h => hK _ ⟨p, r, h, rfl⟩⟩
  rintro ρ ⟨p, r, h, rfl⟩
  have e := low_of sp y0 hg h
  refine seqK (fun ρ => ρ = [some (.d (.int s)), some (.d (fr a b)), some (.d (.int c)), some (.d (.int m)), some (.d (.int x)), some (.d (.int y)), some (.d (fr p r))]) (fun K hK => ?_) ?_
  · walk_at "rd"
    rw [if_neg (by simp)]
    refine ⟨p, rfl, ?_⟩
    walk_at "rd"
    refine ⟨r, rfl, ?_⟩
    walk_at "rd"
    exact hK _ rfl
  rintro ρ rfl
  have fin : ∀ u v : Int, p = u ∧ r = v → dEq (fr p r) (fr u v) Q := fun u v h => by
    obtain ⟨rfl, rfl⟩ := h
    have : eqF 6 (fr p r) (fr p r) = some true := by simp [eqF, eqL]
    unfold dEq
    rw [this]
    exact q
  by_cases hy : y < 0
  · rw [if_pos hy] at e
    simp only [rSeq, rIfS, rTest, r2, dCmp, rVarB, rC, List.getElem?_cons_zero, List.getElem?_cons_succ, S.val, decide_eq_true_eq, if_pos hy]
    exact ⟨sz2, fin _ _ e⟩
  · rw [if_neg hy] at e
    simp only [rSeq, rIfS, rTest, r2, dCmp, rVarB, rC, List.getElem?_cons_zero, List.getElem?_cons_succ, S.val, decide_eq_true_eq, if_neg hy]
    exact ⟨sz2, fin _ _ e⟩
/-- the pair so far -/
structure Pair (n : Nat) (a b : Int) : Prop where
  pos : 1 ≤ a
  nn : 0 ≤ b
  ba : BL n a
  bb : BL n b
  cop : Int.gcd a b = 1
theorem Pair.next {n : Nat} {a b m : Int} (h : Pair n a b) (hn : 101 ≤ n) (m1 : 1 ≤ m) (hm : m = 1 ∨ m * a < 1000000000000000000000000000000) : Pair (n + 1) (m * a + b) a := by
  have ma : BL n (m * a) := by
    rcases hm with rfl | hm
    · rw [Int.one_mul]; exact h.ba
    · have : 0 ≤ m * a := Int.mul_nonneg (by omega) (by have := h.pos; omega)
      exact (show BL 101 (m * a) from BL.of_lt (by omega) (by omega)).mono hn
  have p1 : 1 ≤ m * a := by
    have := Int.mul_le_mul m1 h.pos (by decide) (by omega)
    omega
  refine ⟨by have := h.nn; omega, by have := h.pos; omega, (ma.add h.bb).mono (by omega), h.ba.mono (by omega), ?_⟩
  have : Int.gcd (m * a + b) a = Int.gcd b a := by
    rw [Int.gcd_mul_right_add_left]
  rw [this, Int.gcd_comm]
  exact h.cop
theorem loop_k01 {E : DEnds} (sc : Option S) (s : Int) (s0 : 0 ≤ s) (s1 : s ≤ 10000000000) : ∀ (xs : List Int) (n : Nat) (a b : Int) (t : Option S), 101 ≤ n → n + xs.length ≤ 199 → Pair n a b →
    (∀ a b t, E.nx [sc, some (.d (.int s)), some (.d (fr a b)), t]) →
    forD (rgName 3) (rd_law_k01_b1 F_longer F_right) (xs.map .int) E [sc, some (.d (.int s)), some (.d (fr a b)), t] := by
  intro xs
  induction xs with
  | nil => intro n a b t _ _ _ hE; exact hE _ _ _
  | cons x xs ih =>
    intro n a b t hn hl hp hE
    rw [List.length_cons] at hl
    have again := fun a b t (h : Pair (n + 1) a b) => ih (n + 1) a b t (by omega) (by omega) h hE
    clear ih
    simp only [List.map_cons, forD]
    generalize forD (rgName 3) (rd_law_k01_b1 F_longer F_right) (xs.map .int) E = NX at *
    unfold rd_law_k01_b1
    walk_at "rd"
    refine ⟨a, b, x, rfl, hp.ba.mono (by omega), fun m m1 hm => ?_⟩
    have hq := hp.next hn m1 hm
    walk_at "rd"
    refine ⟨s, _, _, x, rfl, ⟨s0, s1⟩, ⟨hq.ba.mono (by omega), hq.bb.mono (by omega)⟩, hq.cop, ?_⟩
    walk_at "rd"
    exact again _ _ _ hq
theorem cut_ns (ns : List Int) (h : ns.length ≤ 63) : cutD (ns.map .int) none (some 63) = ns.map .int := by
  unfold cutD
  rw [HT.sIx_none]
  have : HT.sIx (ns.map D.int).length (ns.map D.int).length (some 63) = (ns.map D.int).length := by
    have := HT.sIx_nat (ns.map D.int).length (ns.map D.int).length 63
    rw [show ((63 : Nat) : Int) = 63 from rfl] at this
    rw [this, List.length_map]
    omega
  rw [this]
  simp only [Nat.sub_zero, List.drop_zero]
  exact List.take_of_length_le (Nat.le_refl _)
theorem pure_law : ∀ ds Q, FLaw 63 ds Q → rd_law_k01 F_cell F_longer F_right F_share { nx := fun _ => Q .non, rt := Q } (startD ["_law_script", "_law_share_here", "_law_pair", "_law_cell"] ds) := by
  rintro ds Q ⟨ns, rfl, hl, q⟩
  rw [startD_eq 3 rfl]
  unfold rd_law_k01
  walk_at "rd"
  refine ⟨ns, _, rfl, by decide, fun c0 => ⟨_, rfl, fun s s0 s1 => ?_⟩⟩
  walk_at "rd"
  refine ⟨ns, _, rfl, by decide, fun c1 => ⟨s, _, _, c1, rfl, ⟨s0, s1⟩, ⟨BL.const, BL.const⟩, by decide, ?_⟩⟩
  walk_at "rd"
  rw [cut_ns ns hl]
  refine loop_k01 _ s s0 s1 ns 101 1 0 _ (by omega) (by omega) ⟨by decide, by decide, BL.const, BL.const, by decide⟩ fun a b t => ?_
  walk_at "rd"
  exact q
end K01
end L2.R2

set_option Elab.async false
set_option linter.all false
set_option maxRecDepth 100000
set_option maxHeartbeats 4000000
namespace L2.R2
open PySem PySem.Spec PyProof.Rows L2
namespace K01
def top (i : Nat) : Stmt := PySem.Challenge.pw_recut_k01_a_fraction.main.body.getD i (.Pass ⟨0, 0, 0, 0⟩)
abbrev s__law_cell_at : Stmt := top 9
abbrev s__law_longer : Stmt := top 12
abbrev s_shared_divisor : Stmt := top 6
abbrev s_ratio : Stmt := top 7
abbrev s__law_refused : Stmt := top 13
abbrev s__law_whole : Stmt := top 10
abbrev s__law_right : Stmt := top 14
abbrev s__law_share : Stmt := top 11
abbrev s_law : Stmt := top 15
section
variable {P : Program} {w : World} {K : PySem.W.Frag} {mg : Str → Option Value} {base : Heap}
theorem sc__law_cell_at : FnScope ["_law_script", "_law_k"] ["_law_script", "_law_k"] (defScope s__law_cell_at) := ⟨rfl, rfl, rfl, by decide +kernel, rfl, by decide +kernel, by decide +kernel⟩
theorem bd__law_cell_at {f : Addr} {cdv : Value} {A : Around} {outer : List Env} {s : Shared} {H : Hp} {E : XK} (m_len : mg "len" = none) (hr : Room 0 (A.deeper (envOfC "_law_cell_at" (defScope s__law_cell_at) s.heap.objs.size f cdv))) :
    DSs (cxOf CX0 P w K mg base ["_law_script", "_law_k"] "_law_cell_at" (defScope s__law_cell_at) f cdv A outer s H E).nox (defBody s__law_cell_at) (rd__law_cell_at) :=
  have nd := sc__law_cell_at.nd
  dss_cons (ds_if (dt_cmp od_lt (dvb 1) (DE.bor (de_len m_len (dvb 0)))) (dss_one (ds_ret (de_ix (dvb 0) (dvb 1)))) (dss_nil))
  (dss_one (ds_ret (de_int)))
theorem ok__law_cell_at (Z : DefAt K mg "_law_cell_at" s__law_cell_at ["_law_script", "_law_k"]) (m_len : mg "len" = none) {F : FD} (len : ∀ ds Q, F ds Q → ds.length = 2) (pure : ∀ ds Q, F ds Q → rd__law_cell_at { nx := fun _ => Q .non, rt := Q } (startD ["_law_script", "_law_k"] ds)) : FnAt P w K mg base "_law_cell_at" ["_law_script", "_law_k"] 1 F :=
  Z.ok sc__law_cell_at (fun cdv A outer s H E hr => bd__law_cell_at m_len hr) len pure
theorem sc__law_longer : FnScope ["_law_pair", "_law_cell", "_law_many"] ["_law_pair", "_law_cell"] (defScope s__law_longer) := ⟨rfl, rfl, rfl, by decide +kernel, rfl, by decide +kernel, by decide +kernel⟩
theorem bd__law_longer {f : Addr} {cdv : Value} {A : Around} {outer : List Env} {s : Shared} {H : Hp} {E : XK} (hr : Room 0 (A.deeper (envOfC "_law_longer" (defScope s__law_longer) s.heap.objs.size f cdv))) :
    DSs (cxOf CX0 P w K mg base ["_law_pair", "_law_cell", "_law_many"] "_law_longer" (defScope s__law_longer) f cdv A outer s H E).nox (defBody s__law_longer) (rd__law_longer) :=
  have nd := sc__law_longer.nd
  dss_cons (ds_set nd (de_op od_add (DE.bor (de_int)) (DE.bor (de_op od_mod (DE.bor (de_op od_fdiv (dvb 1) (DE.bor (de_int)))) (DE.bor (de_ix (DE.bor (DO.val (do_lst (da_cons (de_int) (da_cons (de_int) (da_cons (de_op od_pow (DE.bor (de_int)) (DE.bor (de_int))) (da_cons (de_op od_pow (DE.bor (de_int)) (DE.bor (de_int))) (da_nil)))))))) (DE.bor (de_op od_mod (dvb 1) (DE.bor (de_int))))))))))
  (dss_cons (ds_if (dt_cmp od_ge (DE.bor (de_op od_mul (dvb 2) (DE.bor (de_ix (dvb 0) (DE.bor (de_int)))))) (DE.bor (de_op od_pow (DE.bor (de_int)) (DE.bor (de_int))))) (dss_one (ds_set nd (de_int))) (dss_nil))
  (dss_one (ds_ret (de_tup (da_cons (de_op od_add (DE.bor (de_op od_mul (dvb 2) (DE.bor (de_ix (dvb 0) (DE.bor (de_int)))))) (DE.bor (de_ix (dvb 0) (DE.bor (de_int))))) (da_cons (de_ix (dvb 0) (DE.bor (de_int))) (da_nil)))))))
theorem ok__law_longer (Z : DefAt K mg "_law_longer" s__law_longer ["_law_pair", "_law_cell"]) {F : FD} (len : ∀ ds Q, F ds Q → ds.length = 2) (pure : ∀ ds Q, F ds Q → rd__law_longer { nx := fun _ => Q .non, rt := Q } (startD ["_law_pair", "_law_cell", "_law_many"] ds)) : FnAt P w K mg base "_law_longer" ["_law_pair", "_law_cell"] 1 F :=
  Z.ok sc__law_longer (fun cdv A outer s H E hr => bd__law_longer hr) len pure
theorem sc_shared_divisor : FnScope ["one", "other", "larger", "smaller", "rest"] ["one", "other"] (defScope s_shared_divisor) := ⟨rfl, rfl, rfl, by decide +kernel, rfl, by decide +kernel, by decide +kernel⟩
theorem bd_shared_divisor {f : Addr} {cdv : Value} {A : Around} {outer : List Env} {s : Shared} {H : Hp} {E : XK} (m_abs : mg "abs" = none) (hr : Room 0 (A.deeper (envOfC "shared_divisor" (defScope s_shared_divisor) s.heap.objs.size f cdv))) :
    DSs (cxOf CX0 P w K mg base ["one", "other", "larger", "smaller", "rest"] "shared_divisor" (defScope s_shared_divisor) f cdv A outer s H E).nox (defBody s_shared_divisor) (rd_shared_divisor) :=
  have nd := sc_shared_divisor.nd
  dss_cons (ds_set nd (de_callB cd_abs m_abs boot_abs' (da_cons (dv 0) (da_nil))))
  (dss_cons (ds_set nd (de_callB cd_abs m_abs boot_abs' (da_cons (dv 1) (da_nil))))
  (dss_cons (ds_while PassesOwn.never (dt_cmp od_neS (dvb 3) (DE.bor (de_int))) (dss_cons (ds_set nd (de_op od_mod (dvb 2) (dvb 3)))
  (dss_cons (ds_set nd (dv 3))
  (dss_one (ds_set nd (dv 4))))))
  (dss_one (ds_ret (dv 2)))))
theorem ok_shared_divisor (Z : DefAt K mg "shared_divisor" s_shared_divisor ["one", "other"]) (m_abs : mg "abs" = none) {F : FD} (len : ∀ ds Q, F ds Q → ds.length = 2) (pure : ∀ ds Q, F ds Q → rd_shared_divisor { nx := fun _ => Q .non, rt := Q } (startD ["one", "other", "larger", "smaller", "rest"] ds)) : FnAt P w K mg base "shared_divisor" ["one", "other"] 1 F :=
  Z.ok sc_shared_divisor (fun cdv A outer s H E hr => bd_shared_divisor m_abs hr) len pure
theorem sc_ratio : FnScope ["top", "bottom", "divisor"] ["top", "bottom"] (defScope s_ratio) := ⟨rfl, rfl, rfl, by decide +kernel, rfl, by decide +kernel, by decide +kernel⟩
theorem bd_ratio {f : Addr} {cdv : Value} {A : Around} {outer : List Env} {s : Shared} {H : Hp} {E : XK} {F_shared_divisor : FD} (C_shared_divisor : FnAt P w K mg base "shared_divisor" ["one", "other"] 1 F_shared_divisor) (hr : Room 1 (A.deeper (envOfC "ratio" (defScope s_ratio) s.heap.objs.size f cdv))) :
    DSs (cxOf CX0 P w K mg base ["top", "bottom", "divisor"] "ratio" (defScope s_ratio) f cdv A outer s H E).nox (defBody s_ratio) (rd_ratio F_shared_divisor) :=
  have nd := sc_ratio.nd
  dss_cons (ds_if (dt_cmp od_eqS (dvb 1) (DE.bor (de_int))) (dss_one (ds_never)) (dss_nil))
  (dss_cons (ds_set nd (de_callF C_shared_divisor (hr.mono (by decide)) (da_cons (dv 0) (da_cons (dv 1) (da_nil)))))
  (dss_cons (ds_if (dt_cmp od_lt (dvb 1) (DE.bor (de_int))) (dss_one (ds_set nd (de_un ud_neg (dvb 2)))) (dss_nil))
  (dss_one (ds_ret (de_tup (da_cons (de_op od_fdiv (dvb 0) (dvb 2)) (da_cons (de_op od_fdiv (dvb 1) (dvb 2)) (da_nil))))))))
theorem ok_ratio (Z : DefAt K mg "ratio" s_ratio ["top", "bottom"]) {F_shared_divisor : FD} (C_shared_divisor : FnAt P w K mg base "shared_divisor" ["one", "other"] 1 F_shared_divisor) {F : FD} (len : ∀ ds Q, F ds Q → ds.length = 2) (pure : ∀ ds Q, F ds Q → rd_ratio F_shared_divisor { nx := fun _ => Q .non, rt := Q } (startD ["top", "bottom", "divisor"] ds)) : FnAt P w K mg base "ratio" ["top", "bottom"] 2 F :=
  Z.ok sc_ratio (fun cdv A outer s H E hr => bd_ratio C_shared_divisor hr) len pure
theorem sc__law_refused : FnScope ["_law_top", "_law_bottom", "_law_caught", "e"] ["_law_top", "_law_bottom"] (defScope s__law_refused) := ⟨rfl, rfl, rfl, by decide +kernel, rfl, by decide +kernel, by decide +kernel⟩
theorem fx_ratio {k : Nat} {C : Addr} (Z : DefAt K mg "ratio" s_ratio ["top", "bottom"]) (T : ExcT K mg C) : FnX P w K mg base "ratio" ["top", "bottom"] (k + 1) C FxRatio :=
  fnx_of Z sc_ratio len_fxr fun cdv A outer s H E hr ds hF => PSs.mono (pss_ifraise (dt_cmp od_eqS (dvb 1) ((de_int).bor)) T.k rfl rfl T.no (fun pins σ H s h' e args I sm hx => leave_here ⟨rfl, rfl, rfl⟩ I sm hx)) fun D σ H' st => ⟨_, st, pure_fxr _ hF⟩
theorem ok__law_refused (Z : DefAt K mg "_law_refused" s__law_refused ["_law_top", "_law_bottom"]) {C : Addr} (T : ExcT K mg C) {F : List D → Prop} (hl : ∀ ds, F ds → ds.length = 2) (G : FnX P w K mg base "ratio" ["top", "bottom"] 2 C F) : FnAt P w K mg base "_law_refused" ["_law_top", "_law_bottom"] 3 (FRef F) :=
  Z.ok sc__law_refused (fun cdv A outer s H E hr => ds_refused T ⟨rfl, rfl, rfl⟩ rfl sc__law_refused.nd rfl rfl rfl rfl G hr (da_cons (dv 0) (da_cons (dv 1) (da_nil))) rfl rfl rfl rfl rfl rfl rfl (by decide) rfl rfl rfl rfl rfl) (len_fref hl) (pure_fref hl)
theorem sc__law_whole : FnScope ["_law_found"] ["_law_found"] (defScope s__law_whole) := ⟨rfl, rfl, rfl, by decide +kernel, rfl, by decide +kernel, by decide +kernel⟩
theorem bd__law_whole {f : Addr} {cdv : Value} {A : Around} {outer : List Env} {s : Shared} {H : Hp} {E : XK} (m_isinstance : mg "isinstance" = none) (m_bool : mg "bool" = none) (m_int : mg "int" = none) (hr : Room 0 (A.deeper (envOfC "_law_whole" (defScope s__law_whole) s.heap.objs.size f cdv))) :
    DSs (cxOf CX0 P w K mg base ["_law_found"] "_law_whole" (defScope s__law_whole) f cdv A outer s H E).nox (defBody s__law_whole) (rd__law_whole) :=
  have nd := sc__law_whole.nd
  dss_one (ds_ret (de_and (de_isi (tab_int _) m_isinstance m_int boot_int' (dv 0)) (de_one (de_not (de_isi (tab_bool _) m_isinstance m_bool boot_bool' (dv 0))))))
theorem ok__law_whole (Z : DefAt K mg "_law_whole" s__law_whole ["_law_found"]) (m_isinstance : mg "isinstance" = none) (m_bool : mg "bool" = none) (m_int : mg "int" = none) {F : FD} (len : ∀ ds Q, F ds Q → ds.length = 1) (pure : ∀ ds Q, F ds Q → rd__law_whole { nx := fun _ => Q .non, rt := Q } (startD ["_law_found"] ds)) : FnAt P w K mg base "_law_whole" ["_law_found"] 1 F :=
  Z.ok sc__law_whole (fun cdv A outer s H E hr => bd__law_whole m_isinstance m_bool m_int hr) len pure
theorem sc__law_right : FnScope ["_law_share_here", "_law_pair", "_law_cell", "_law_mixed", "_law_one", "_law_other", "_law_found"] ["_law_share_here", "_law_pair", "_law_cell"] (defScope s__law_right) := ⟨rfl, rfl, rfl, by decide +kernel, rfl, by decide +kernel, by decide +kernel⟩
theorem bd__law_right {f : Addr} {cdv : Value} {A : Around} {outer : List Env} {s : Shared} {H : Hp} {E : XK} {F__law_refused : FD} (C__law_refused : FnAt P w K mg base "_law_refused" ["_law_top", "_law_bottom"] 3 F__law_refused) {F__law_whole : FD} (C__law_whole : FnAt P w K mg base "_law_whole" ["_law_found"] 1 F__law_whole) {F_ratio : FD} (C_ratio : FnAt P w K mg base "ratio" ["top", "bottom"] 2 F_ratio) (m_len : mg "len" = none) (m_isinstance : mg "isinstance" = none) (m_tuple : mg "tuple" = none) (hr : Room 3 (A.deeper (envOfC "_law_right" (defScope s__law_right) s.heap.objs.size f cdv))) :
    DSs (cxOf CX0 P w K mg base ["_law_share_here", "_law_pair", "_law_cell", "_law_mixed", "_law_one", "_law_other", "_law_found"] "_law_right" (defScope s__law_right) f cdv A outer s H E).nox (defBody s__law_right) (rd__law_right_9 F__law_refused F__law_whole F_ratio) :=
  have nd := sc__law_right.nd
  dss_cons (ds_set nd (de_op od_add (DE.bor (de_op od_mod (dvb 2) (DE.bor (de_int)))) (DE.bor (de_int))))
  (dss_cons (ds_set nd (de_op od_mod (DE.bor (de_op od_mul (dvb 3) (dvb 3))) (DE.bor (de_int))))
  (dss_cons (ds_set nd (de_op od_mul (DE.bor (de_ix (dvb 1) (DE.bor (de_int)))) (DE.bor (de_ix (DE.bor (DO.val (do_lst (da_cons (de_int) (da_cons (de_un ud_neg (DE.bor (de_int))) (da_nil)))))) (DE.bor (de_op od_mod (dvb 3) (DE.bor (de_int))))))))
  (dss_cons (ds_set nd (de_op od_mul (DE.bor (de_ix (dvb 1) (DE.bor (de_int)))) (DE.bor (de_ix (DE.bor (DO.val (do_lst (da_cons (de_int) (da_cons (de_un ud_neg (DE.bor (de_int))) (da_nil)))))) (DE.bor (de_op od_mod (DE.bor (de_op od_fdiv (dvb 3) (DE.bor (de_int)))) (DE.bor (de_int))))))))
  (dss_cons (ds_if (dt_cmp od_eqS (DE.bor (de_op od_mod (DE.bor (de_op od_fdiv (dvb 3) (DE.bor (de_int)))) (DE.bor (de_int)))) (DE.bor (de_int))) (dss_one (ds_par rfl nd (da_cons (dv 5) (da_cons (dv 4) (da_nil))))) (dss_nil))
  (dss_cons (ds_if (dt_cmp od_eqS (DE.bor (de_op od_mul (dvb 0) (dvb 5))) (DE.bor (de_int))) (dss_one (ds_ret (de_callF C__law_refused (hr.mono (by decide)) (da_cons (de_op od_mul (dvb 0) (dvb 4)) (da_cons (de_op od_mul (dvb 0) (dvb 5)) (da_nil)))))) (dss_nil))
  (dss_cons (ds_set nd (de_callF C_ratio (hr.mono (by decide)) (da_cons (de_op od_mul (dvb 0) (dvb 4)) (da_cons (de_op od_mul (dvb 0) (dvb 5)) (da_nil)))))
  (dss_cons (ds_if (DW.tst (dw_or (dt_not (dt_val (de_isi (tab_tuple _) m_isinstance m_tuple boot_tuple' (dv 6)))) (dw_or (dt_cmp od_neS (DE.bor (de_len m_len (dvb 6))) (DE.bor (de_int))) (dw_or (dt_not (dt_val (de_callF C__law_whole (hr.mono (by decide)) (da_cons (de_ix (dvb 6) (DE.bor (de_int))) (da_nil))))) (dw_or1 (dt_not (dt_val (de_callF C__law_whole (hr.mono (by decide)) (da_cons (de_ix (dvb 6) (DE.bor (de_int))) (da_nil)))))))))) (dss_one (ds_ret (de_bl))) (dss_nil))
  (dss_cons (ds_if (dt_cmp od_lt (dvb 5) (DE.bor (de_int))) (dss_one (ds_ret (de_cmp (od_eq hr) (dvb 6) (DE.bor (de_tup (da_cons (de_op od_sub (DE.bor (de_int)) (dvb 4)) (da_cons (de_op od_sub (DE.bor (de_int)) (dvb 5)) (da_nil)))))))) (dss_nil))
  (dss_one (ds_ret (de_cmp (od_eq hr) (dvb 6) (DE.bor (de_tup (da_cons (dv 4) (da_cons (dv 5) (da_nil))))))))))))))))
theorem ok__law_right (Z : DefAt K mg "_law_right" s__law_right ["_law_share_here", "_law_pair", "_law_cell"]) {F__law_refused : FD} (C__law_refused : FnAt P w K mg base "_law_refused" ["_law_top", "_law_bottom"] 3 F__law_refused) {F__law_whole : FD} (C__law_whole : FnAt P w K mg base "_law_whole" ["_law_found"] 1 F__law_whole) {F_ratio : FD} (C_ratio : FnAt P w K mg base "ratio" ["top", "bottom"] 2 F_ratio) (m_len : mg "len" = none) (m_isinstance : mg "isinstance" = none) (m_tuple : mg "tuple" = none) {F : FD} (len : ∀ ds Q, F ds Q → ds.length = 3) (pure : ∀ ds Q, F ds Q → rd__law_right_9 F__law_refused F__law_whole F_ratio { nx := fun _ => Q .non, rt := Q } (startD ["_law_share_here", "_law_pair", "_law_cell", "_law_mixed", "_law_one", "_law_other", "_law_found"] ds)) : FnAt P w K mg base "_law_right" ["_law_share_here", "_law_pair", "_law_cell"] 4 F :=
  Z.ok sc__law_right (fun cdv A outer s H E hr => bd__law_right C__law_refused C__law_whole C_ratio m_len m_isinstance m_tuple hr) len pure
theorem sc__law_share : FnScope ["_law_cell"] ["_law_cell"] (defScope s__law_share) := ⟨rfl, rfl, rfl, by decide +kernel, rfl, by decide +kernel, by decide +kernel⟩
theorem bd__law_share {f : Addr} {cdv : Value} {A : Around} {outer : List Env} {s : Shared} {H : Hp} {E : XK} (hr : Room 0 (A.deeper (envOfC "_law_share" (defScope s__law_share) s.heap.objs.size f cdv))) :
    DSs (cxOf CX0 P w K mg base ["_law_cell"] "_law_share" (defScope s__law_share) f cdv A outer s H E).nox (defBody s__law_share) (rd__law_share) :=
  have nd := sc__law_share.nd
  dss_one (ds_ret (de_ix (DE.bor (DO.val (do_lst (da_cons (de_int) (da_cons (de_op od_mod (DE.bor (de_op od_fdiv (dvb 0) (DE.bor (de_int)))) (DE.bor (de_int))) (da_cons (de_op od_mod (DE.bor (de_op od_fdiv (dvb 0) (DE.bor (de_int)))) (DE.bor (de_int))) (da_cons (de_op od_mod (DE.bor (de_op od_fdiv (dvb 0) (DE.bor (de_int)))) (DE.bor (de_op od_pow (DE.bor (de_int)) (DE.bor (de_int))))) (da_nil)))))))) (DE.bor (de_op od_mod (dvb 0) (DE.bor (de_int))))))
theorem ok__law_share (Z : DefAt K mg "_law_share" s__law_share ["_law_cell"]) {F : FD} (len : ∀ ds Q, F ds Q → ds.length = 1) (pure : ∀ ds Q, F ds Q → rd__law_share { nx := fun _ => Q .non, rt := Q } (startD ["_law_cell"] ds)) : FnAt P w K mg base "_law_share" ["_law_cell"] 1 F :=
  Z.ok sc__law_share (fun cdv A outer s H E hr => bd__law_share hr) len pure
theorem sc_law : FnScope ["_law_script", "_law_share_here", "_law_pair", "_law_cell"] ["_law_script"] (defScope s_law) := ⟨rfl, rfl, rfl, by decide +kernel, rfl, by decide +kernel, by decide +kernel⟩
theorem bd_law {f : Addr} {cdv : Value} {A : Around} {outer : List Env} {s : Shared} {H : Hp} {E : XK} {F__law_cell_at : FD} (C__law_cell_at : FnAt P w K mg base "_law_cell_at" ["_law_script", "_law_k"] 1 F__law_cell_at) {F__law_longer : FD} (C__law_longer : FnAt P w K mg base "_law_longer" ["_law_pair", "_law_cell"] 1 F__law_longer) {F__law_right : FD} (C__law_right : FnAt P w K mg base "_law_right" ["_law_share_here", "_law_pair", "_law_cell"] 4 F__law_right) {F__law_share : FD} (C__law_share : FnAt P w K mg base "_law_share" ["_law_cell"] 1 F__law_share) (hr : Room 4 (A.deeper (envOfC "law" (defScope s_law) s.heap.objs.size f cdv))) :
    DSs (cxOf CX0 P w K mg base ["_law_script", "_law_share_here", "_law_pair", "_law_cell"] "law" (defScope s_law) f cdv A outer s H E).nox (defBody s_law) (rd_law_k01 F__law_cell_at F__law_longer F__law_right F__law_share) :=
  have nd := sc_law.nd
  dss_cons (ds_set nd (de_callF C__law_share (hr.mono (by decide)) (da_cons (de_callF C__law_cell_at (hr.mono (by decide)) (da_cons (dv 0) (da_cons (de_int) (da_nil)))) (da_nil))))
  (dss_cons (ds_set nd (de_tup (da_cons (de_int) (da_cons (de_int) (da_nil)))))
  (dss_cons (ds_if (dt_not (dt_val (de_callF C__law_right (hr.mono (by decide)) (da_cons (dv 1) (da_cons (dv 2) (da_cons (de_callF C__law_cell_at (hr.mono (by decide)) (da_cons (dv 0) (da_cons (de_int) (da_nil)))) (da_nil))))))) (dss_one (ds_ret (de_bl))) (dss_nil))
  (dss_cons (ds_for PassesOwn.never rfl (di_list (DO.val (do_slice (dvb 0) (dp_none) (dp_some (de_int))))) (dg_name nd) (dss_cons (ds_set nd (de_callF C__law_longer (hr.mono (by decide)) (da_cons (dv 2) (da_cons (dv 3) (da_nil)))))
  (dss_one (ds_if (dt_not (dt_val (de_callF C__law_right (hr.mono (by decide)) (da_cons (dv 1) (da_cons (dv 2) (da_cons (dv 3) (da_nil))))))) (dss_one (ds_ret (de_bl))) (dss_nil)))))
  (dss_one (ds_ret (de_bl))))))
theorem fo_law {F__law_cell_at : FD} (C__law_cell_at : FnAt P w K mg base "_law_cell_at" ["_law_script", "_law_k"] 1 F__law_cell_at) {F__law_longer : FD} (C__law_longer : FnAt P w K mg base "_law_longer" ["_law_pair", "_law_cell"] 1 F__law_longer) {F__law_right : FD} (C__law_right : FnAt P w K mg base "_law_right" ["_law_share_here", "_law_pair", "_law_cell"] 4 F__law_right) {F__law_share : FD} (C__law_share : FnAt P w K mg base "_law_share" ["_law_cell"] 1 F__law_share) {F : FD} {f : Addr} {fd : FuncData} (Fu : Fun K "law" "law" s_law f fd) (len : ∀ ds Q, F ds Q → ds.length = 1) (pure : ∀ ds Q, F ds Q → rd_law_k01 F__law_cell_at F__law_longer F__law_right F__law_share { nx := fun _ => Q .non, rt := Q } (startD ["_law_script", "_law_share_here", "_law_pair", "_law_cell"] ds)) : FnOk P w K mg base CX0 5 f fd ["_law_script"] (spD K F) :=
  fn_ok Fu sc_law (fun cdv A outer s H E hr => bd_law C__law_cell_at C__law_longer C__law_right C__law_share hr) len pure
end
structure TopF (K : PySem.W.Frag) (mg : Str → Option Value) : Prop where
  d__law_cell_at : DefAt K mg "_law_cell_at" s__law_cell_at ["_law_script", "_law_k"]
  d__law_longer : DefAt K mg "_law_longer" s__law_longer ["_law_pair", "_law_cell"]
  d_shared_divisor : DefAt K mg "shared_divisor" s_shared_divisor ["one", "other"]
  d_ratio : DefAt K mg "ratio" s_ratio ["top", "bottom"]
  d__law_refused : DefAt K mg "_law_refused" s__law_refused ["_law_top", "_law_bottom"]
  d__law_whole : DefAt K mg "_law_whole" s__law_whole ["_law_found"]
  d__law_right : DefAt K mg "_law_right" s__law_right ["_law_share_here", "_law_pair", "_law_cell"]
  d__law_share : DefAt K mg "_law_share" s__law_share ["_law_cell"]
  d_law : DefAt K mg "law" s_law ["_law_script"]
  m_len : mg "len" = none
  m_abs : mg "abs" = none
  m_isinstance : mg "isinstance" = none
  m_bool : mg "bool" = none
  m_int : mg "int" = none
  m_tuple : mg "tuple" = none
  x : ∃ C, ExcT K mg C
theorem top_mk {K : PySem.W.Frag} {h : Heap} {mg : Str → Option Value} (X : K.In h) (G : h.Ns mainGlobals mg)
    {f0 : Addr} {od0 an0 : Option Addr} {sl0 : Array (Option Value)} {oc0 kV0 dc0 pm0 cd0 ct0 : Value}
    {f1 : Addr} {od1 an1 : Option Addr} {sl1 : Array (Option Value)} {oc1 kV1 dc1 pm1 cd1 ct1 : Value}
    {f2 : Addr} {od2 an2 : Option Addr} {sl2 : Array (Option Value)} {oc2 kV2 dc2 pm2 cd2 ct2 : Value}
    {f3 : Addr} {od3 an3 : Option Addr} {sl3 : Array (Option Value)} {oc3 kV3 dc3 pm3 cd3 ct3 : Value}
    {f4 : Addr} {od4 an4 : Option Addr} {sl4 : Array (Option Value)} {oc4 kV4 dc4 pm4 cd4 ct4 : Value}
    {f5 : Addr} {od5 an5 : Option Addr} {sl5 : Array (Option Value)} {oc5 kV5 dc5 pm5 cd5 ct5 : Value}
    {f6 : Addr} {od6 an6 : Option Addr} {sl6 : Array (Option Value)} {oc6 kV6 dc6 pm6 cd6 ct6 : Value}
    {f7 : Addr} {od7 an7 : Option Addr} {sl7 : Array (Option Value)} {oc7 kV7 dc7 pm7 cd7 ct7 : Value}
    {f8 : Addr} {od8 an8 : Option Addr} {sl8 : Array (Option Value)} {oc8 kV8 dc8 pm8 cd8 ct8 : Value}
    {xC xK xX xO : Addr}
    (a0 : PySem.W.nsIn K mainGlobals "_law_cell_at" = some (some (.ref f0))) (l0 : K.lookup f0 = some ⟨oc0, od0, .func (PySem.W.fnOf "_law_cell_at" "_law_cell_at" (defArgs s__law_cell_at) (defBody s__law_cell_at) (defScope s__law_cell_at) .none kV0 dc0 pm0 an0 cd0 ct0), sl0⟩) (c0 : PySem.W.codeIn K cd0 "_law_cell_at" = true) (k0 : PySem.W.keepIn K (.ref f0) = true)
    (a1 : PySem.W.nsIn K mainGlobals "_law_longer" = some (some (.ref f1))) (l1 : K.lookup f1 = some ⟨oc1, od1, .func (PySem.W.fnOf "_law_longer" "_law_longer" (defArgs s__law_longer) (defBody s__law_longer) (defScope s__law_longer) .none kV1 dc1 pm1 an1 cd1 ct1), sl1⟩) (c1 : PySem.W.codeIn K cd1 "_law_longer" = true) (k1 : PySem.W.keepIn K (.ref f1) = true)
    (a2 : PySem.W.nsIn K mainGlobals "shared_divisor" = some (some (.ref f2))) (l2 : K.lookup f2 = some ⟨oc2, od2, .func (PySem.W.fnOf "shared_divisor" "shared_divisor" (defArgs s_shared_divisor) (defBody s_shared_divisor) (defScope s_shared_divisor) .none kV2 dc2 pm2 an2 cd2 ct2), sl2⟩) (c2 : PySem.W.codeIn K cd2 "shared_divisor" = true) (k2 : PySem.W.keepIn K (.ref f2) = true)
    (a3 : PySem.W.nsIn K mainGlobals "ratio" = some (some (.ref f3))) (l3 : K.lookup f3 = some ⟨oc3, od3, .func (PySem.W.fnOf "ratio" "ratio" (defArgs s_ratio) (defBody s_ratio) (defScope s_ratio) .none kV3 dc3 pm3 an3 cd3 ct3), sl3⟩) (c3 : PySem.W.codeIn K cd3 "ratio" = true) (k3 : PySem.W.keepIn K (.ref f3) = true)
    (a4 : PySem.W.nsIn K mainGlobals "_law_refused" = some (some (.ref f4))) (l4 : K.lookup f4 = some ⟨oc4, od4, .func (PySem.W.fnOf "_law_refused" "_law_refused" (defArgs s__law_refused) (defBody s__law_refused) (defScope s__law_refused) .none kV4 dc4 pm4 an4 cd4 ct4), sl4⟩) (c4 : PySem.W.codeIn K cd4 "_law_refused" = true) (k4 : PySem.W.keepIn K (.ref f4) = true)
    (a5 : PySem.W.nsIn K mainGlobals "_law_whole" = some (some (.ref f5))) (l5 : K.lookup f5 = some ⟨oc5, od5, .func (PySem.W.fnOf "_law_whole" "_law_whole" (defArgs s__law_whole) (defBody s__law_whole) (defScope s__law_whole) .none kV5 dc5 pm5 an5 cd5 ct5), sl5⟩) (c5 : PySem.W.codeIn K cd5 "_law_whole" = true) (k5 : PySem.W.keepIn K (.ref f5) = true)
    (a6 : PySem.W.nsIn K mainGlobals "_law_right" = some (some (.ref f6))) (l6 : K.lookup f6 = some ⟨oc6, od6, .func (PySem.W.fnOf "_law_right" "_law_right" (defArgs s__law_right) (defBody s__law_right) (defScope s__law_right) .none kV6 dc6 pm6 an6 cd6 ct6), sl6⟩) (c6 : PySem.W.codeIn K cd6 "_law_right" = true) (k6 : PySem.W.keepIn K (.ref f6) = true)
    (a7 : PySem.W.nsIn K mainGlobals "_law_share" = some (some (.ref f7))) (l7 : K.lookup f7 = some ⟨oc7, od7, .func (PySem.W.fnOf "_law_share" "_law_share" (defArgs s__law_share) (defBody s__law_share) (defScope s__law_share) .none kV7 dc7 pm7 an7 cd7 ct7), sl7⟩) (c7 : PySem.W.codeIn K cd7 "_law_share" = true) (k7 : PySem.W.keepIn K (.ref f7) = true)
    (a8 : PySem.W.nsIn K mainGlobals "law" = some (some (.ref f8))) (l8 : K.lookup f8 = some ⟨oc8, od8, .func (PySem.W.fnOf "law" "law" (defArgs s_law) (defBody s_law) (defScope s_law) .none kV8 dc8 pm8 an8 cd8 ct8), sl8⟩) (c8 : PySem.W.codeIn K cd8 "law" = true) (k8 : PySem.W.keepIn K (.ref f8) = true)
    (z0 : PySem.W.nsIn K mainGlobals "len" = some none)
    (z1 : PySem.W.nsIn K mainGlobals "abs" = some none)
    (z2 : PySem.W.nsIn K mainGlobals "isinstance" = some none)
    (z3 : PySem.W.nsIn K mainGlobals "bool" = some none)
    (z4 : PySem.W.nsIn K mainGlobals "int" = some none)
    (z5 : PySem.W.nsIn K mainGlobals "tuple" = some none)
    (x0 : PySem.W.nsIn K mainGlobals "NoNumber" = some (some (.ref xC)))
    (x1 : PySem.W.nsIn K mainGlobals "CutError" = some (some (.ref xK)))
    (x2 : PySem.W.nsIn K mainGlobals "Crossed" = some (some (.ref xX)))
    (x3 : PySem.W.nsIn K mainGlobals "Odd" = some (some (.ref xO)))
    (x4 : PySem.W.findIn K (.ref xC) "__getattribute__" = some (some (.builtin "BaseException.__getattribute__")))
    (x5 : PySem.W.findIn K (.ref xC) "__getattr__" = some none)
    (x6 : PySem.W.findIn K (.ref xC) "__class__" = some (some (.builtin "object.__class__")))
    (x7 : PySem.W.mroIn K xC (.type "object") = some true)
    (x8 : PySem.W.mroIn K xC (.type "BaseException") = some true)
    (x9 : PySem.W.excIn K xC [.type "ValueError", .type "Exception", .type "BaseException", .type "object"] "ValueError.__new__" = true)
    (x10 : PySem.W.exmOne K (.ref xC) (.ref xK) = some true)
    (x11 : PySem.W.kitAny K (.ref xC) [.ref xX, .ref xO] = some false)
    (x12 : PySem.W.kitOne K (.ref xC) (.ref xC) = some true)
    (x13 : PySem.W.kitOne K (.ref xC) (.type "ValueError") = some true)
    (x14 : PySem.W.nsIn K mainGlobals "isinstance" = some none)
    (x15 : PySem.W.nsIn K mainGlobals "ValueError" = some none) : TopF K mg :=
  ⟨⟨_, _, fun_mk (st := s__law_cell_at) l0 c0 k0, PySem.W.mg_of X G a0, fun us hl => match us, hl with | [_, _], _ => rfl⟩,
   ⟨_, _, fun_mk (st := s__law_longer) l1 c1 k1, PySem.W.mg_of X G a1, fun us hl => match us, hl with | [_, _], _ => rfl⟩,
   ⟨_, _, fun_mk (st := s_shared_divisor) l2 c2 k2, PySem.W.mg_of X G a2, fun us hl => match us, hl with | [_, _], _ => rfl⟩,
   ⟨_, _, fun_mk (st := s_ratio) l3 c3 k3, PySem.W.mg_of X G a3, fun us hl => match us, hl with | [_, _], _ => rfl⟩,
   ⟨_, _, fun_mk (st := s__law_refused) l4 c4 k4, PySem.W.mg_of X G a4, fun us hl => match us, hl with | [_, _], _ => rfl⟩,
   ⟨_, _, fun_mk (st := s__law_whole) l5 c5 k5, PySem.W.mg_of X G a5, fun us hl => match us, hl with | [_], _ => rfl⟩,
   ⟨_, _, fun_mk (st := s__law_right) l6 c6 k6, PySem.W.mg_of X G a6, fun us hl => match us, hl with | [_, _, _], _ => rfl⟩,
   ⟨_, _, fun_mk (st := s__law_share) l7 c7 k7, PySem.W.mg_of X G a7, fun us hl => match us, hl with | [_], _ => rfl⟩,
   ⟨_, _, fun_mk (st := s_law) l8 c8 k8, PySem.W.mg_of X G a8, fun us hl => match us, hl with | [_], _ => rfl⟩,
   PySem.W.mg_none_of X G z0,
   PySem.W.mg_none_of X G z1,
   PySem.W.mg_none_of X G z2,
   PySem.W.mg_none_of X G z3,
   PySem.W.mg_none_of X G z4,
   PySem.W.mg_none_of X G z5,
   xC, ⟨x4, x5, x6, x7, x8, x9⟩, PySem.W.mg_of X G x0, ⟨_, PySem.W.mg_of X G x1, x10⟩, ⟨_, _, PySem.W.mg_of X G x2, PySem.W.mg_of X G x3, x11⟩, x12, x13, PySem.W.mg_none_of X G x14, PySem.W.mg_none_of X G x15⟩
theorem law_fn {P : Program} {w : World} {K : PySem.W.Frag} {mg : Str → Option Value} {base : Heap} {f : Addr} {fd : FuncData} (T : TopF K mg) (Fu : Fun K "law" "law" s_law f fd) : FnOk P w K mg base CX0 5 f fd ["_law_script"] (spD K (FLaw 63)) := by
  obtain ⟨xC, XC⟩ := T.x
  have C__law_cell_at := ok__law_cell_at (P := P) (w := w) (base := base) T.d__law_cell_at T.m_len (F := F_cell) len_cell pure_law_cell_at
  have C__law_longer := ok__law_longer (P := P) (w := w) (base := base) T.d__law_longer (F := F_longer) len_longer pure_longer
  have C_shared_divisor := ok_shared_divisor (P := P) (w := w) (base := base) T.d_shared_divisor T.m_abs (F := F_gcd) len_gcd pure_shared_divisor
  have C_ratio := ok_ratio (P := P) (w := w) (base := base) T.d_ratio C_shared_divisor (F := F_ratio) len_ratio pure_ratio
  have X_ratio := fx_ratio (P := P) (w := w) (base := base) (k := 1) T.d_ratio XC
  have C__law_refused := ok__law_refused (P := P) (w := w) (base := base) T.d__law_refused XC len_fxr X_ratio
  have C__law_whole := ok__law_whole (P := P) (w := w) (base := base) T.d__law_whole T.m_isinstance T.m_bool T.m_int (F := F_whole) len_whole pure_law_whole
  have C__law_right := ok__law_right (P := P) (w := w) (base := base) T.d__law_right C__law_refused C__law_whole C_ratio T.m_len T.m_isinstance T.m_tuple (F := F_right) len_right pure_right
  have C__law_share := ok__law_share (P := P) (w := w) (base := base) T.d__law_share (F := F_share) len_share pure_share
  exact fo_law C__law_cell_at C__law_longer C__law_right C__law_share (F := FLaw 63) Fu len_law pure_law
end K01
end L2.R2
open PySem PySem.W PyProof.Rows
set_option maxRecDepth 100000 in
set_option maxHeartbeats 0 in
theorem PySem.Challenge.cw_recut_k01_a_fraction_holds : PySem.Challenge.rw_recut_k01_a_fraction.Holds := by
  w_on; o_law; k_head; (case hw => w_witness2)
  k_fill
  refine L2.R2.walk_law (l := PySem.Challenge.rw_recut_k01_a_fraction) (k := 5) (x := "_law_script") rfl rfl ⟨rfl, by decide, by decide⟩ (fun w h Y => PySem.W.kIn_of Y) rfl ?F
  case F =>
    intro w mg h KX G
    have T : L2.R2.K01.TopF (L2.KOf KX) mg := by
      dsimp only [L2.KOf]
      refine' L2.R2.K01.top_mk KX G ?a0 ?l0 ?c0 ?k0 ?a1 ?l1 ?c1 ?k1 ?a2 ?l2 ?c2 ?k2 ?a3 ?l3 ?c3 ?k3 ?a4 ?l4 ?c4 ?k4 ?a5 ?l5 ?c5 ?k5 ?a6 ?l6 ?c6 ?k6 ?a7 ?l7 ?c7 ?k7 ?a8 ?l8 ?c8 ?k8 ?z0 ?z1 ?z2 ?z3 ?z4 ?z5 ?x0 ?x1 ?x2 ?x3 ?x4 ?x5 ?x6 ?x7 ?x8 ?x9 ?x10 ?x11 ?x12 ?x13 ?x14 ?x15
      (case a0 => k_is); (case l0 => k_is); (case c0 => k_is); (case k0 => k_is)
      (case a1 => k_is); (case l1 => k_is); (case c1 => k_is); (case k1 => k_is)
      (case a2 => k_is); (case l2 => k_is); (case c2 => k_is); (case k2 => k_is)
      (case a3 => k_is); (case l3 => k_is); (case c3 => k_is); (case k3 => k_is)
      (case a4 => k_is); (case l4 => k_is); (case c4 => k_is); (case k4 => k_is)
      (case a5 => k_is); (case l5 => k_is); (case c5 => k_is); (case k5 => k_is)
      (case a6 => k_is); (case l6 => k_is); (case c6 => k_is); (case k6 => k_is)
      (case a7 => k_is); (case l7 => k_is); (case c7 => k_is); (case k7 => k_is)
      (case a8 => k_is); (case l8 => k_is); (case c8 => k_is); (case k8 => k_is)
      (case z0 => k_is)
      (case z1 => k_is)
      (case z2 => k_is)
      (case z3 => k_is)
      (case z4 => k_is)
      (case z5 => k_is)
      (case x0 => k_is)
      (case x1 => k_is)
      (case x2 => k_is)
      (case x3 => k_is)
      (case x4 => k_is)
      (case x5 => k_is)
      (case x6 => k_is)
      (case x7 => k_is)
      (case x8 => k_is)
      (case x9 => k_exc)
      (case x10 => kts_exm)
      (case x11 => kit_is)
      (case x12 => kit_is)
      (case x13 => kit_is)
      (case x14 => k_is)
      (case x15 => k_is)
    exact T.d_law.okL fun base f fd Fu => L2.R2.K01.law_fn T Fu
